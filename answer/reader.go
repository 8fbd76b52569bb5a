package answer

import (
	"sandglass/api"
	"sandglass/nums"
)

// reader has the bytes that are still to be read. What is not whole is 0, or empty, and no bytes are taken for it: it is never written like that again.
type reader struct {
	rest string
}

// read tells an answer that may be, of any bytes.
func read(s string) api.Answer {
	r := &reader{rest: s}
	var a api.Answer
	a.Kind = r.number(byteWidth)
	a.Code = r.code()
	a.Version = r.number(longWidth)
	a.Policy = r.policy()
	a.Now = r.number(timeWidth)
	a.Count = r.number(countWidth)
	for range r.items() {
		a.Told = append(a.Told, r.told())
	}
	for range r.items() {
		a.Names = append(a.Names, r.name())
	}
	return a
}

func (r *reader) number(width int) int {
	n, end, _ := nums.Number(r.rest, 0, width)
	r.rest = r.rest[end:]
	return int(n)
}

func (r *reader) text() string {
	s, end, _ := nums.Text(r.rest, 0)
	r.rest = r.rest[end:]
	return s
}

func (r *reader) code() api.Errno {
	return api.Errno(r.number(byteWidth))
}

func (r *reader) flag() bool {
	return r.number(byteWidth) == 1
}

func (r *reader) policy() api.Policy {
	var p api.Policy
	p.Kind = r.number(byteWidth)
	p.Limit = r.number(longWidth)
	p.Window = r.number(longWidth)
	p.Buckets = r.number(byteWidth)
	return p
}

// items reads how many things a list has, and tells how many of them are to be read.
func (r *reader) items() int {
	return min(r.number(byteWidth), mostItems)
}

func (r *reader) told() api.Told {
	var t api.Told
	t.Code = r.code()
	t.Verdict.Allowed = r.flag()
	t.Verdict.Remaining = r.number(longWidth)
	t.Verdict.Retry = r.number(timeWidth)
	t.Verdict.Reset = r.number(timeWidth)
	return t
}

func (r *reader) name() api.Name {
	var n api.Name
	n.Book = r.number(byteWidth)
	n.Key = r.text()
	return n
}
