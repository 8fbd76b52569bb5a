package wire

import (
	"strings"

	"sandglass/nums"
)

// hand is what a command's numbers and texts are passed to, one behind the other: one that writes them, or one that reads them.
type hand interface {
	number(n *int, width int)
	text(s *string)
}

// writer writes what is passed to it.
type writer struct {
	written strings.Builder
}

// number writes the lowest bytes of n.
func (w *writer) number(n *int, width int) {
	w.written.WriteString(nums.Wide(uint64(*n), width))
}

// text writes s, or nothing, if it is too long.
func (w *writer) text(s *string) {
	put, _ := nums.Put(*s)
	w.written.WriteString(put)
}

// reader reads what is passed to it. What is not whole is 0, or empty, and no bytes are taken for it: it is never written like that again.
type reader struct {
	rest string
}

func (r *reader) number(n *int, width int) {
	value, end, _ := nums.Number(r.rest, 0, width)
	*n, r.rest = int(value), r.rest[end:]
}

func (r *reader) text(s *string) {
	value, end, _ := nums.Text(r.rest, 0)
	*s, r.rest = value, r.rest[end:]
}
