package answer

import (
	"strings"

	"sandglass/api"
	"sandglass/nums"
)

// writer is a builder that knows the parts of an answer.
type writer struct {
	strings.Builder
}

// write tells bytes of any answer; of what they have no room for they tell something else.
func write(a api.Answer) string {
	w := &writer{}
	w.number(a.Kind, byteWidth)
	w.number(int(a.Code), byteWidth)
	w.number(a.Version, longWidth)
	w.policy(a.Policy)
	w.number(a.Now, timeWidth)
	w.number(a.Count, countWidth)
	for _, t := range a.Told[:w.items(len(a.Told))] {
		w.told(t)
	}
	for _, n := range a.Names[:w.items(len(a.Names))] {
		w.name(n)
	}
	return w.String()
}

// number writes the lowest bytes of n.
func (w *writer) number(n int, width int) {
	w.WriteString(nums.Wide(uint64(n), width))
}

// text writes s, or nothing, if it is too long.
func (w *writer) text(s string) {
	put, _ := nums.Put(s)
	w.WriteString(put)
}

func (w *writer) flag(is bool) {
	if is {
		w.WriteByte(1)
	} else {
		w.WriteByte(0)
	}
}

func (w *writer) policy(p api.Policy) {
	w.number(p.Kind, byteWidth)
	w.number(p.Limit, longWidth)
	w.number(p.Window, longWidth)
	w.number(p.Buckets, byteWidth)
}

// items writes how many things a list has, and tells how many of them are to be written.
func (w *writer) items(count int) int {
	w.number(count, byteWidth)
	return min(count, mostItems)
}

func (w *writer) told(t api.Told) {
	w.number(int(t.Code), byteWidth)
	w.flag(t.Verdict.Allowed)
	w.number(t.Verdict.Remaining, longWidth)
	w.number(t.Verdict.Retry, timeWidth)
	w.number(t.Verdict.Reset, timeWidth)
}

func (w *writer) name(n api.Name) {
	w.number(n.Book, byteWidth)
	w.text(n.Key)
}
