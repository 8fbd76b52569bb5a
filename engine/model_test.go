package engine

import (
	"cmp"
	"math/rand"
	"slices"
	"strings"
	"testing"

	"sandglass/api"
	"sandglass/hist"
	"sandglass/policy"
)

const lastTick = 1 << 40

// model is an engine in the document's words: books, a clock, and the history of each name, and no cells but their number.
type model struct {
	cells int
	now   int
	books [8]api.Book
	past  map[api.Name][]api.Hit
}

func newModel(cells int) *model {
	return &model{cells: cells, past: map[api.Name][]api.Hit{}}
}

func (m *model) copy() *model {
	k := *m
	k.past = map[api.Name][]api.Hit{}
	for n, l := range m.past {
		k.past[n] = slices.Clone(l)
	}
	return &k
}

func (m *model) tick(now int) int {
	if now > m.now && now <= lastTick {
		m.now = now
	}
	return m.now
}

func (m *model) set(id int, p api.Policy) (int, api.Errno) {
	if id < 0 || id > 7 || policy.Check(p) != api.OK {
		return 0, api.ErrArg
	}
	m.forgetAll(id)
	m.books[id] = api.Book{On: true, Policy: p, Version: m.books[id].Version + 1}
	return m.books[id].Version, api.OK
}

func (m *model) remove(id int) api.Errno {
	if id < 0 || id > 7 {
		return api.ErrArg
	}
	if !m.books[id].On {
		return api.ErrNone
	}
	m.forgetAll(id)
	m.books[id] = api.Book{Version: m.books[id].Version}
	return api.OK
}

func (m *model) forgetAll(id int) {
	for n := range m.past {
		if n.Book == id {
			delete(m.past, n)
		}
	}
}

func (m *model) policy(id int) (api.Policy, int, api.Errno) {
	if id < 0 || id > 7 {
		return api.Policy{}, 0, api.ErrArg
	}
	if !m.books[id].On {
		return api.Policy{}, 0, api.ErrNone
	}
	return m.books[id].Policy, m.books[id].Version, api.OK
}

func (m *model) mayBe(n api.Name) bool {
	return n.Book >= 0 && n.Book <= 7 && len(n.Key) >= 1 && len(n.Key) <= 32
}

func (m *model) counts(n api.Name) bool {
	return m.books[n.Book].On && !hist.Neutral(m.books[n.Book].Policy, m.past[n], m.now)
}

func (m *model) check(a api.Ask) api.Told {
	told, l := m.asked(a)
	n := api.Name{Book: a.Book, Key: a.Key}
	if !told.Verdict.Allowed {
		return told
	}
	if !m.counts(n) && len(m.names()) == m.cells {
		return api.Told{Code: api.ErrCapacity}
	}
	m.past[n] = l
	return told
}

func (m *model) peek(a api.Ask) api.Told {
	told, _ := m.asked(a)
	return told
}

func (m *model) asked(a api.Ask) (api.Told, []api.Hit) {
	n := api.Name{Book: a.Book, Key: a.Key}
	if !m.mayBe(n) || a.Weight < 1 || a.Weight > 1<<20 {
		return api.Told{Code: api.ErrArg}, nil
	}
	if !m.books[n.Book].On {
		return api.Told{Code: api.ErrNone}, nil
	}
	l, v := hist.Ask(m.books[n.Book].Policy, m.past[n], m.now, a.Weight)
	return api.Told{Verdict: v}, l
}

func (m *model) forget(n api.Name) api.Errno {
	if !m.mayBe(n) {
		return api.ErrArg
	}
	if !m.books[n.Book].On {
		return api.ErrNone
	}
	delete(m.past, n)
	return api.OK
}

func (m *model) names() []api.Name {
	var names []api.Name
	for n := range m.past {
		if m.counts(n) {
			names = append(names, n)
		}
	}
	slices.SortFunc(names, func(a, b api.Name) int {
		return cmp.Or(cmp.Compare(a.Book, b.Book), strings.Compare(a.Key, b.Key))
	})
	return names
}

// both are an engine and its model.
type both struct {
	*testing.T
	g *Engine
	m *model
}

func newEngine(t *testing.T, cells int, seed uint64) *Engine {
	t.Helper()
	g, e := New(api.Config{Cells: cells, Seed: seed})
	if e != api.OK || g == nil {
		t.Fatalf("New(%d): %d", cells, e)
	}
	return g
}

func newBoth(t *testing.T, cells int, seed uint64) both {
	t.Helper()
	return both{t, newEngine(t, cells, seed), newModel(cells)}
}

func (b both) copy() both {
	b.Helper()
	return both{b.T, b.g.Copy(), b.m.copy()}
}

func (b both) tick(now int) {
	b.Helper()
	if got, want := b.g.Tick(now), b.m.tick(now); got != want {
		b.Fatalf("Tick(%d): %d, not %d", now, got, want)
	}
	b.same()
}

func (b both) set(id int, p api.Policy) {
	b.Helper()
	n, e := b.g.Set(id, p)
	if want, f := b.m.set(id, p); n != want || e != f {
		b.Fatalf("Set(%d, %v): %d, %d, not %d, %d", id, p, n, e, want, f)
	}
	b.same()
}

func (b both) remove(id int) {
	b.Helper()
	if e, want := b.g.Delete(id), b.m.remove(id); e != want {
		b.Fatalf("Delete(%d): %d, not %d", id, e, want)
	}
	b.same()
}

func (b both) check(book int, key string, weight int) api.Told {
	b.Helper()
	a := api.Ask{Book: book, Key: key, Weight: weight}
	b.peek(a)
	got, want := b.g.Check(a), b.m.check(a)
	if got != want {
		b.Fatalf("Check(%v) at %d: %v, not %v", a, b.m.now, got, want)
	}
	b.same()
	return got
}

func (b both) peek(a api.Ask) {
	b.Helper()
	count := b.g.Count()
	for range 2 {
		if got, want := b.g.Peek(a), b.m.peek(a); got != want {
			b.Fatalf("Peek(%v) at %d: %v, not %v", a, b.m.now, got, want)
		}
	}
	if n := b.g.Count(); n != count {
		b.Fatalf("Peek(%v): Count %d, not %d", a, n, count)
	}
}

func (b both) forget(book int, key string) {
	b.Helper()
	n := api.Name{Book: book, Key: key}
	if e, want := b.g.Forget(n), b.m.forget(n); e != want {
		b.Fatalf("Forget(%v): %d, not %d", n, e, want)
	}
	b.same()
}

// work looks whether no more is done than is asked for, and no cell is taken.
func (b both) work(most int) int {
	b.Helper()
	count := b.g.Count()
	done := b.g.Work(most)
	if done < 0 || done > max(most, 0) || b.g.Count() > count {
		b.Fatalf("Work(%d): %d, Count %d, not %d", most, done, b.g.Count(), count)
	}
	if most >= 1000 && b.g.Count() != len(b.m.names()) {
		b.Fatalf("Work(%d): Count %d, of %v", most, b.g.Count(), b.m.names())
	}
	b.same()
	return done
}

// same holds all that an engine tells without a name against the model.
func (b both) same() {
	b.Helper()
	names := b.g.Names()
	if want := b.m.names(); !slices.Equal(names, want) {
		b.Fatalf("Names at %d: %v, not %v", b.m.now, names, want)
	}
	if n := b.g.Count(); n < len(names) || n > b.m.cells {
		b.Fatalf("Count: %d, of %d cells, and %v", n, b.m.cells, names)
	}
	for id := -1; id <= 8; id++ {
		p, n, e := b.g.Policy(id)
		if want, v, f := b.m.policy(id); p != want || n != v || e != f {
			b.Fatalf("Policy(%d): %v, %d, %d, not %v, %d, %d", id, p, n, e, want, v, f)
		}
	}
	if now := b.g.Tick(-1); now != b.m.now {
		b.Fatalf("Now: %d, not %d", now, b.m.now)
	}
	wellKept(b.T, b.g.store)
}

// wellKept looks whether the layers below have the same cells: each by its name, each of a timer or over or without end, each in the order.
func wellKept(t *testing.T, s *store) {
	t.Helper()
	if n, live := len(s.holders), s.cells.Live(); n != len(live) || n != s.numbers.Len() || n != s.order.Len() || n < s.timers.Len() {
		t.Fatalf("%d cells, %d live, %d names, %d in order, %d timers", n, len(live), s.numbers.Len(), s.order.Len(), s.timers.Len())
	}
	for number, h := range s.holders {
		if n, there := s.numbers.Get(keyOf(h.name)); n != number || !there || h.handle%64 != number {
			t.Fatalf("%v: cell %d, but %d, %v", h, number, n, there)
		}
		if due, there := s.timers.Due(number); there && (h.over || due <= s.now()) {
			t.Fatalf("%v is due at %d, now %d", h, due, s.now())
		}
	}
}

// step is one thing to be done, by its kind, and what that needs.
type step struct {
	kind, id, weight, tick, most int
	key                          string
	policy                       api.Policy
}

// anyStep tells a step of few names and policies, so that they meet.
func anyStep(r *rand.Rand, keys int, now int) step {
	x := step{kind: r.Intn(20), id: r.Intn(3), weight: 1 + r.Intn(3), most: r.Intn(4), key: anyKey(r, keys), policy: anyPolicy(r)}
	switch r.Intn(12) {
	case 0:
		x.tick = now + r.Intn(100)
	case 1:
		x.tick = now - r.Intn(10)
	default:
		x.tick = now + r.Intn(4)
	}
	switch r.Intn(40) {
	case 0:
		x.id = r.Intn(12) - 2
	case 1:
		x.weight = r.Intn(1<<20+3) - 1
	case 2:
		x.key = strings.Repeat("k", 33*r.Intn(2))
	case 3:
		x.policy = api.Policy{Kind: r.Intn(6), Limit: r.Intn(20), Window: r.Intn(3), Buckets: r.Intn(2)}
	case 4:
		x.most = 1000
	case 5:
		x.most = -r.Intn(5)
	}
	return x
}

func anyKey(r *rand.Rand, keys int) string {
	n := r.Intn(keys)
	return strings.Repeat(string([]byte{byte(n), 255}), n%16) + string([]byte{byte(255 - n)})
}

func anyPolicy(r *rand.Rand) api.Policy {
	p := api.Policy{Kind: 1 + r.Intn(4), Limit: 1 + r.Intn(6), Window: 1 + r.Intn(20)}
	if p.Kind == api.Ring {
		p.Buckets = 1 + r.Intn(5)
		p.Window = p.Buckets * (1 + r.Intn(4))
	}
	return p
}

// do does a step; most of them are checks.
func (b both) do(x step) {
	b.Helper()
	switch x.kind {
	case 0:
		b.remove(x.id)
	case 1:
		b.set(x.id, x.policy)
	case 2:
		b.forget(x.id, x.key)
	case 3, 4, 5, 6, 7:
		b.tick(x.tick)
	case 8:
		b.work(x.most)
	default:
		b.check(x.id, x.key, x.weight)
	}
}
