// Package sum tells sums of bytes: the published CRC-32C.
package sum

// turn is what an odd number is xor-ed by when it is divided.
const turn = 0x82f63b78

// bytesOfSum is how many bytes a sum has.
const bytesOfSum = 4

// Table tells what each number of a byte becomes by the eight divisions.
// A division keeps xors, so the entry of a number is that of its lowest bit
// xor-ed by that of its other bits; only single bits need to be divided.
func Table() [256]uint32 {
	var t [256]uint32
	for n := range 256 {
		low := n & -n
		if n == low {
			t[n] = divided(uint32(n))
		} else {
			t[n] = t[low] ^ t[n^low]
		}
	}
	return t
}

// divided tells a number behind the eight divisions of a byte.
func divided(n uint32) uint32 {
	for range 8 {
		odd := n&1 == 1
		n >>= 1
		if odd {
			n ^= turn
		}
	}
	return n
}

// Of tells the sum of b.
func Of(b []byte) uint32 {
	return More(0, b)
}

// More tells the sum of what has that sum, and b behind it.
func More(sum uint32, b []byte) uint32 {
	t := Table()
	n := ^sum
	for _, c := range b {
		n = n>>8 ^ t[byte(n)^c]
	}
	return ^n
}

// Put tells b with its sum behind it, the sum's lowest byte first.
func Put(b []byte) []byte {
	p := make([]byte, 0, len(b)+bytesOfSum)
	p = append(p, b...)
	return append(p, sumBytes(b)...)
}

// Cut tells what b is Put of, and whether it is Put of something.
func Cut(b []byte) ([]byte, bool) {
	n := len(b) - bytesOfSum
	if n < 0 || string(sumBytes(b[:n])) != string(b[n:]) {
		return nil, false
	}
	return append([]byte(nil), b[:n]...), true
}

// sumBytes tells the bytes of the sum of b, the lowest one first.
func sumBytes(b []byte) []byte {
	n := Of(b)
	p := make([]byte, bytesOfSum)
	for i := range p {
		p[i] = byte(n >> (8 * i))
	}
	return p
}
