package play

import (
	"sandglass/api"
	"sandglass/frame"
	"sandglass/wire"
)

// witness has what was let in, by what was sent and told alone.
type witness struct {
	now int
	// versions has the version of each book that was set.
	versions map[int]int
	past     []api.Past
}

// Let tells what was let in, by the steps and by the answers to their pieces.
func Let(l []api.Step, a []api.Answer) []api.Past {
	w := &witness{versions: map[int]int{}}
	for now, piece := range pieces(l) {
		if len(a) == 0 {
			break
		}
		w.now = now
		w.see(piece, a[0])
		a = a[1:]
	}
	return w.past
}

// see takes a piece, and the answer to it.
func (w *witness) see(p frame.Piece, a api.Answer) {
	// A frame that is not good has no text, and so no command.
	c, code := wire.Decode(p.Text)
	if code != api.OK || a.Kind != c.Kind {
		return
	}
	switch c.Kind {
	case api.Batch:
		// All or none, and so it was none.
		if c.All && a.Count == 0 {
			return
		}
		fallthrough
	case api.Check:
		w.let(c.Asks, a.Told)
	case api.Reset:
		if a.Code == api.OK {
			w.add(api.Past{Book: c.After.Book, Key: c.After.Key, Reset: true})
		}
	case api.Set:
		if a.Code == api.OK {
			w.versions[c.Book] = a.Version
		}
	}
}

// let adds those asks that were told to be let in.
func (w *witness) let(l []api.Ask, told []api.Told) {
	for i, ask := range l[:min(len(l), len(told))] {
		if told[i].Code == api.OK && told[i].Verdict.Allowed {
			w.add(api.Past{Book: ask.Book, Key: ask.Key, Hit: api.Hit{Tick: w.now, Weight: ask.Weight}})
		}
	}
}

// add adds a thing that was, by the version that its book has.
func (w *witness) add(p api.Past) {
	p.Version = w.versions[p.Book]
	w.past = append(w.past, p)
}
