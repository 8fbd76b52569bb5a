package play

import (
	"cmp"
	"maps"
	"slices"

	"sandglass/api"
	"sandglass/books"
	"sandglass/frame"
	"sandglass/hist"
	"sandglass/policy"
	"sandglass/wire"
)

// mostNames is how many names a Dump tells at most.
const mostNames = 12

// model is a session that keeps nothing but books, a clock, and the history of each name. What goes wrong in it is a panic, of an Errno or of undone.
type model struct {
	cells int
	now   int
	books []api.Book
	// past has the history of each name of which something was let in, by books that are On.
	past map[api.Name][]api.Hit
}

// undone is all or none of some asks, of which not all were let in: what was told of each, and what the past was before.
type undone struct {
	told []api.Told
	past map[api.Name][]api.Hit
}

// newModel tells a model to which nothing was done.
func newModel(cells int) *model {
	return &model{cells: cells, books: books.New(), past: map[api.Name][]api.Hit{}}
}

// reply tells the answer to a piece.
func (m *model) reply(p frame.Piece) (a api.Answer) {
	var c api.Command
	defer func() {
		switch wrong := recover().(type) {
		case api.Errno:
			a = api.Answer{Code: wrong}
		case undone:
			m.past = wrong.past
			a = api.Answer{Told: wrong.told}
		}
		// Of no command the kind is 0.
		a.Kind = c.Kind
	}()
	c = commandOf(p)
	return m.do(c)
}

// do tells the answer to a command, all of it but its kind.
func (m *model) do(c api.Command) api.Answer {
	switch c.Kind {
	case api.Check:
		return api.Answer{Told: m.checks(c.Asks)}
	case api.Batch:
		return m.batch(c.Asks, c.All)
	case api.Peek:
		return api.Answer{Told: []api.Told{told(m.peek, c.Asks[0])}}
	case api.Reset:
		m.policyOf(c.After)
		delete(m.past, c.After)
	case api.Set:
		return m.set(c.Book, c.Policy)
	case api.Get:
		return m.get(c.Book)
	case api.Delete:
		all, code := books.Delete(m.books, c.Book)
		must(code)
		m.renew(c.Book, all)
	case api.Stats:
		return api.Answer{Now: m.now, Count: len(m.names())}
	case api.Dump:
		return api.Answer{Names: m.page(c.After, c.Most)}
	}
	return api.Answer{}
}

func (m *model) batch(l []api.Ask, all bool) api.Answer {
	if len(l) < 1 || len(l) > api.MaxBatch {
		panic(api.ErrArg)
	}
	past := maps.Clone(m.past)
	a := api.Answer{Told: m.checks(l)}
	for _, t := range a.Told {
		if t.Verdict.Allowed {
			a.Count++
		}
	}
	if all && a.Count < len(l) {
		panic(undone{told: a.Told, past: past})
	}
	return a
}

func (m *model) set(id int, p api.Policy) api.Answer {
	all, version, code := books.Set(m.books, id, p)
	must(code)
	m.renew(id, all)
	return api.Answer{Version: version}
}

func (m *model) get(id int) api.Answer {
	p, version, code := books.Get(m.books, id)
	must(code)
	return api.Answer{Policy: p, Version: version}
}

// renew takes books in which book id was changed: its names have no history any more.
func (m *model) renew(id int, all []api.Book) {
	m.books = all
	maps.DeleteFunc(m.past, func(n api.Name, _ []api.Hit) bool { return n.Book == id })
}

// checks checks asks, one behind the other.
func (m *model) checks(l []api.Ask) []api.Told {
	all := make([]api.Told, len(l))
	for i, a := range l {
		all[i] = told(m.check, a)
	}
	return all
}

// check lets an ask in, if that may be.
func (m *model) check(a api.Ask) api.Verdict {
	n, l, v := m.ask(a)
	if !v.Allowed {
		return v
	}
	if !m.counts(n) && len(m.names()) == m.cells {
		panic(api.ErrCapacity)
	}
	m.past[n] = l
	return v
}

func (m *model) peek(a api.Ask) api.Verdict {
	_, _, v := m.ask(a)
	return v
}

// ask tells an ask's name, and what its history says.
func (m *model) ask(a api.Ask) (api.Name, []api.Hit, api.Verdict) {
	if !policy.Weighs(a.Weight) {
		panic(api.ErrArg)
	}
	n := api.Name{Book: a.Book, Key: a.Key}
	l, v := hist.Ask(m.policyOf(n), m.past[n], m.now, a.Weight)
	return n, l, v
}

// policyOf tells the policy of a name's book.
func (m *model) policyOf(n api.Name) api.Policy {
	if len(n.Key) < 1 || len(n.Key) > api.MaxKey {
		panic(api.ErrArg)
	}
	p, _, code := books.Get(m.books, n.Book)
	must(code)
	return p
}

// counts tells whether a name counts, whose book is On.
func (m *model) counts(n api.Name) bool {
	return !hist.Neutral(m.policyOf(n), m.past[n], m.now)
}

// names tells the names that count, in order.
func (m *model) names() []api.Name {
	var names []api.Name
	for n := range m.past {
		if m.counts(n) {
			names = append(names, n)
		}
	}
	slices.SortFunc(names, compareNames)
	return names
}

// page tells the names behind one that count, as many as most tells, or as an answer may tell.
func (m *model) page(after api.Name, most int) []api.Name {
	var page []api.Name
	for _, n := range m.names() {
		if compareNames(n, after) > 0 && len(page) < min(most, mostNames) {
			page = append(page, n)
		}
	}
	return page
}

// commandOf tells the command of a piece.
func commandOf(p frame.Piece) api.Command {
	must(p.Code)
	c, code := wire.Decode(p.Text)
	must(code)
	return c
}

// must panics, if code is an error.
func must(code api.Errno) {
	if code != api.OK {
		panic(code)
	}
}

// told tells what a question tells of an ask; what goes wrong there goes no further.
func told(question func(a api.Ask) api.Verdict, a api.Ask) (t api.Told) {
	defer func() {
		if code, wrong := recover().(api.Errno); wrong {
			t = api.Told{Code: code}
		}
	}()
	return api.Told{Verdict: question(a)}
}

// compareNames compares names by their books, and then by their keys.
func compareNames(a api.Name, b api.Name) int {
	return cmp.Or(cmp.Compare(a.Book, b.Book), cmp.Compare(a.Key, b.Key))
}
