package due

// tree is entries in a row, each once, of which none stands ahead of the one
// above it: above the place i is the place (i - 1) / 2.
type tree[T comparable] struct {
	row    []T
	places map[T]int
}

// put puts x in.
func (t *tree[T]) put(x T, ahead func(a, b T) bool) {
	t.places[x] = len(t.row)
	t.row = append(t.row, x)
	t.settle(x, ahead)
}

// drop takes x out; the last one of the row comes in its place.
func (t *tree[T]) drop(x T, ahead func(a, b T) bool) {
	i, last := t.places[x], len(t.row)-1
	t.swap(i, last)
	t.row = t.row[:last]
	delete(t.places, x)
	if i < last {
		t.settle(t.row[i], ahead)
	}
}

// settle moves x to where it may stand.
func (t *tree[T]) settle(x T, ahead func(a, b T) bool) {
	i := t.places[x]
	for i > 0 && ahead(x, t.row[(i-1)/2]) {
		t.swap(i, (i-1)/2)
		i = (i - 1) / 2
	}
	for {
		first := i
		for below := 2*i + 1; below <= 2*i+2 && below < len(t.row); below++ {
			if ahead(t.row[below], t.row[first]) {
				first = below
			}
		}
		if first == i {
			return
		}
		t.swap(i, first)
		i = first
	}
}

// swap lets the entries of two places stand each in the other's.
func (t *tree[T]) swap(i, j int) {
	t.row[i], t.row[j] = t.row[j], t.row[i]
	t.places[t.row[i]], t.places[t.row[j]] = i, j
}
