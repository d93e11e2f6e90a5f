package script

import (
	"strconv"
	"strings"

	"tumbrel/api"
)

const (
	mostDigits      = 20
	mostSmallDigits = 9
)

// giveUp ends a line that can't be done.
func giveUp(err api.Errno) {
	panic(err)
}

// words are those of a command that aren't taken yet. Who takes a word that
// isn't there, or is none of the kind, gives up.
type words struct {
	left []string
}

// word takes a word of any kind.
func (w *words) word() string {
	if len(w.left) == 0 {
		giveUp(api.ErrForm)
	}
	s := w.left[0]
	w.left = w.left[1:]
	return s
}

// number takes a number.
func (w *words) number() uint64 {
	return number(w.word(), mostDigits)
}

// small takes a small number.
func (w *words) small() int {
	digits, below := strings.CutPrefix(w.word(), "-")
	n := int(number(digits, mostSmallDigits))
	if below {
		return -n
	}
	return n
}

// end gives up, if a word is left.
func (w *words) end() {
	if len(w.left) > 0 {
		giveUp(api.ErrForm)
	}
}

// number tells the number of up to so many digits.
func number(digits string, most int) uint64 {
	if len(digits) > most {
		giveUp(api.ErrForm)
	}
	n, err := strconv.ParseUint(digits, 10, 64)
	if err != nil {
		giveUp(api.ErrForm)
	}
	return n
}
