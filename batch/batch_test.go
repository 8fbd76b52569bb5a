package batch

import (
	"fmt"
	"math"
	"math/rand"
	"slices"
	"strings"
	"testing"

	"sandglass/api"
	"sandglass/engine"
)

// kinds are policies of each kind that let in 2, and in which what was let in at 20 counts till 29.
var kinds = []api.Policy{
	{Kind: api.Bucket, Limit: 2, Window: 10},
	{Kind: api.Fixed, Limit: 2, Window: 10},
	{Kind: api.Ring, Limit: 2, Window: 10, Buckets: 2},
	{Kind: api.Exact, Limit: 2, Window: 10},
}

// twin is an engine, and all that made it what it is, one behind the other.
type twin struct {
	g      *engine.Engine
	config api.Config
	past   []func(g *engine.Engine)
}

func newTwin(t *testing.T, cells int, seed uint64) *twin {
	t.Helper()
	w := &twin{config: api.Config{Cells: cells, Seed: seed}}
	g, code := engine.New(w.config)
	if code != api.OK {
		t.Fatalf("New: %d", code)
	}
	w.g = g
	return w
}

// does what f does, to the engine, and to all that are made anew later.
func (w *twin) does(f func(g *engine.Engine)) {
	f(w.g)
	w.past = append(w.past, f)
}

// anew tells another engine to which all was done that made w what it is.
func (w *twin) anew() *engine.Engine {
	g, _ := engine.New(w.config)
	for _, f := range w.past {
		f(g)
	}
	return g
}

func (w *twin) tick(now int) { w.does(func(g *engine.Engine) { g.Tick(now) }) }

func (w *twin) set(id int, p api.Policy) { w.does(func(g *engine.Engine) { g.Set(id, p) }) }

// lets is what is told of asks one behind the other, and whether each was let in.
func lets(g *engine.Engine, l []api.Ask) ([]api.Told, bool) {
	var told []api.Told
	all := true
	for _, a := range l {
		x := g.Check(a)
		told = append(told, x)
		all = all && x.Code == api.OK && x.Verdict.Allowed
	}
	return told, all
}

func (w *twin) each(t *testing.T, l []api.Ask) []api.Told {
	t.Helper()
	want, _ := lets(w.anew(), l)
	kept := slices.Clone(l)
	got, code := Each(w.g, l)
	if code != api.OK || !slices.Equal(got, want) {
		t.Fatalf("Each(%v): %v, %d, not %v", l, got, code, want)
	}
	if !slices.Equal(l, kept) {
		t.Fatalf("Each changed %v to %v", kept, l)
	}
	w.past = append(w.past, func(g *engine.Engine) { lets(g, kept) })
	w.same(t)
	return got
}

func (w *twin) all(t *testing.T, l []api.Ask) ([]api.Told, bool) {
	t.Helper()
	want, in := lets(w.anew(), l)
	kept := slices.Clone(l)
	got, all, code := All(w.g, l)
	if code != api.OK || all != in || !slices.Equal(got, want) {
		t.Fatalf("All(%v): %v, %v, %d, not %v, %v", l, got, all, code, want, in)
	}
	if !slices.Equal(l, kept) {
		t.Fatalf("All changed %v to %v", kept, l)
	}
	if in {
		w.past = append(w.past, func(g *engine.Engine) { lets(g, kept) })
	}
	w.same(t)
	return got, all
}

// same holds the engine against another one to which the same was done.
func (w *twin) same(t *testing.T) {
	t.Helper()
	g := w.anew()
	names := g.Names()
	if got := w.g.Names(); !slices.Equal(got, names) {
		t.Fatalf("Names: %v, not %v", got, names)
	}
	if got, want := w.g.Count(), g.Count(); got != want {
		t.Fatalf("Count: %d, not %d", got, want)
	}
	if got, want := w.g.Tick(0), g.Tick(0); got != want {
		t.Fatalf("Now: %d, not %d", got, want)
	}
	for _, n := range names {
		a := api.Ask{Book: n.Book, Key: n.Key, Weight: 1}
		if got, want := w.g.Peek(a), g.Peek(a); got != want {
			t.Fatalf("Peek(%v): %v, not %v", a, got, want)
		}
	}
}

func ask(book int, key string, weight int) api.Ask {
	return api.Ask{Book: book, Key: key, Weight: weight}
}

// short tells of each ask y for let in, n for not let in, or the error's digit.
func short(l []api.Told) string {
	s := ""
	for _, x := range l {
		switch {
		case x.Code != api.OK:
			s += fmt.Sprint(int(x.Code))
		case x.Verdict.Allowed:
			s += "y"
		default:
			s += "n"
		}
	}
	return s
}

// P19.1: each ask is checked behind the one ahead of it; what can't be is told, and those behind it go on.
func TestEach(t *testing.T) {
	for i, c := range []struct {
		l    []api.Ask
		want string
	}{
		{[]api.Ask{ask(0, "a", 1)}, "y"},
		{[]api.Ask{ask(0, "a", 3)}, "n"},
		{[]api.Ask{ask(0, "a", 1), ask(0, "a", 1), ask(0, "a", 1)}, "yyn"},
		{[]api.Ask{ask(0, "a", 2), ask(0, "a", 1), ask(0, "b", 2), ask(0, "c", 1), ask(0, "c", 3)}, "yny7n"},
		{[]api.Ask{ask(0, "a", 0), ask(0, "", 1), ask(8, "a", 1), ask(1, "a", 1), ask(0, "a", 2)}, "1115y"},
		{[]api.Ask{ask(0, "a", 3), ask(0, "a", 2), ask(0, "a", 3), ask(0, "b", 1), ask(0, "b", 2), ask(0, "b", 1), ask(0, "b", 1), ask(0, "a", 1)}, "nynynynn"},
		{make([]api.Ask, 8), "11111111"},
	} {
		for _, p := range kinds {
			w := newTwin(t, 2, 9)
			w.set(0, p)
			w.tick(20)
			if got := short(w.each(t, c.l)); got != c.want {
				t.Errorf("case %d: %q, not %q", i, got, c.want)
			}
		}
	}
}

// P19.1: what is told is the whole verdict.
func TestVerdicts(t *testing.T) {
	w := newTwin(t, 2, 0)
	w.set(0, kinds[0])
	want := []api.Told{
		{Verdict: api.Verdict{Allowed: true, Reset: 10}},
		{Verdict: api.Verdict{Retry: 5, Reset: 10}},
		{Code: api.ErrNone},
	}
	l := []api.Ask{ask(0, "a", 2), ask(0, "a", 1), ask(1, "a", 1)}
	if got, all := w.all(t, l); all || !slices.Equal(got, want) {
		t.Errorf("All: %v, %v", got, all)
	}
	if got := w.each(t, l); !slices.Equal(got, want) {
		t.Errorf("Each: %v", got)
	}
}

// P19.2, P19.4: all are let in, or none; the document's examples (1, and 7 of the whole).
func TestAll(t *testing.T) {
	for i, c := range []struct {
		l    []api.Ask
		want string
		all  bool
	}{
		{[]api.Ask{ask(0, "a", 1)}, "y", true},
		{[]api.Ask{ask(0, "a", 2)}, "y", true},
		{[]api.Ask{ask(0, "a", 3)}, "n", false},
		{[]api.Ask{ask(0, "a", 1), ask(0, "a", 2)}, "yn", false},
		{[]api.Ask{ask(0, "a", 2), ask(0, "a", 1)}, "yn", false},
		{[]api.Ask{ask(0, "a", 1), ask(0, "a", 1)}, "yy", true},
		{[]api.Ask{ask(0, "a", 1), ask(0, "b", 2), ask(0, "a", 1)}, "yyy", true},
		{[]api.Ask{ask(0, "a", 3), ask(0, "a", 2)}, "ny", false},
		{[]api.Ask{ask(0, "a", 2), ask(0, "b", 2), ask(0, "c", 2)}, "yy7", false},
		{[]api.Ask{ask(0, "a", 1), ask(1, "a", 1), ask(0, "a", 1)}, "y5y", false},
		{[]api.Ask{ask(0, "a", 1), ask(0, "a", 0)}, "y1", false},
		{make([]api.Ask, 8), "11111111", false},
	} {
		for _, p := range kinds {
			w := newTwin(t, 2, 5)
			w.set(0, p)
			w.tick(20)
			if got, all := w.all(t, c.l); short(got) != c.want || all != c.all {
				t.Errorf("case %d: %q, %v, not %q, %v", i, short(got), all, c.want, c.all)
			}
			if n := len(w.g.Names()); (n > 0) != c.all {
				t.Errorf("case %d: %d names", i, n)
			}
		}
	}
}

// P19.2: where some would not be let in, no cell is taken, and none is given to another name.
func TestAllTakesNoCell(t *testing.T) {
	for _, p := range kinds {
		w := newTwin(t, 2, 5)
		w.set(0, p)
		w.each(t, []api.Ask{ask(0, "a", 2), ask(0, "b", 1)})
		w.tick(100)
		w.all(t, []api.Ask{ask(0, "c", 1), ask(0, "d", 1), ask(0, "d", 2)})
		if n := w.g.Work(1000); n != 2 {
			t.Errorf("Work: %d, not 2", n)
		}
		if n := w.g.Count(); n != 0 {
			t.Errorf("Count: %d, not 0", n)
		}
	}
}

// P19.1, P19.2: how many asks there may be.
func TestLengths(t *testing.T) {
	for n := range 20 {
		w := newTwin(t, 20, 0)
		w.set(0, api.Policy{Kind: api.Fixed, Limit: 16, Window: 10})
		l := slices.Repeat([]api.Ask{ask(0, "a", 1)}, n)
		if n >= 1 && n <= 8 {
			w.each(t, l)
			if _, all := w.all(t, l); !all {
				t.Errorf("All of %d: false", n)
			}
			continue
		}
		if told, code := Each(w.g, l); len(told) != 0 || code != api.ErrArg {
			t.Errorf("Each of %d: %v, %d", n, told, code)
		}
		if told, all, code := All(w.g, l); len(told) != 0 || all || code != api.ErrArg {
			t.Errorf("All of %d: %v, %v, %d", n, told, all, code)
		}
		w.same(t)
	}
}

// pagesOf tells a twin with names that count, in their order.
func pagesOf(t *testing.T) (*twin, []api.Name) {
	t.Helper()
	w := newTwin(t, 64, 1)
	keys := []string{"b", "a", "\xff", "\x00", "aa", "a\x00", strings.Repeat("\xff", 32), "ÿ"}
	for _, book := range []int{7, 0, 3} {
		w.set(book, kinds[0])
		for _, key := range keys {
			w.each(t, []api.Ask{ask(book, key, 1)})
		}
	}
	slices.Sort(keys)
	var names []api.Name
	for _, book := range []int{0, 3, 7} {
		for _, key := range keys {
			names = append(names, api.Name{Book: book, Key: key})
		}
	}
	return w, names
}

// P19.3: behind any name, be it one that counts, one that does not, or one that may not be.
func TestPage(t *testing.T) {
	w, names := pagesOf(t)
	afters := slices.Clone(names)
	for _, book := range []int{math.MinInt, -1, 0, 1, 3, 4, 7, 8, math.MaxInt} {
		for _, key := range []string{"", "\x00\x00", "a", "ab", "b", "c", strings.Repeat("\xff", 33)} {
			afters = append(afters, api.Name{Book: book, Key: key})
		}
	}
	for _, after := range afters {
		var behind []api.Name
		for _, n := range names {
			if n.Book > after.Book || n.Book == after.Book && n.Key > after.Key {
				behind = append(behind, n)
			}
		}
		for _, most := range []int{math.MinInt, -1, 0, 1, 2, 7, 8, 23, 24, 25, math.MaxInt} {
			want := behind[:min(max(most, 0), len(behind))]
			if got := Page(w.g, after, most); !slices.Equal(got, want) {
				t.Fatalf("Page(%v, %d): %v, not %v", after, most, got, want)
			}
		}
	}
	w.same(t)
}

// P19.3: names that do not count any more are not told.
func TestPageCounts(t *testing.T) {
	w := newTwin(t, 8, 1)
	w.set(0, kinds[0])
	w.set(1, api.Policy{Kind: api.Fixed, Limit: 2, Window: 1000})
	w.each(t, []api.Ask{ask(0, "a", 1), ask(1, "a", 1), ask(0, "b", 2), ask(1, "b", 2), ask(1, "c", 3)})
	for _, c := range []struct {
		now  int
		want []api.Name
	}{
		{4, []api.Name{{Key: "a"}, {Key: "b"}, {Book: 1, Key: "a"}, {Book: 1, Key: "b"}}},
		{5, []api.Name{{Key: "b"}, {Book: 1, Key: "a"}, {Book: 1, Key: "b"}}},
		{10, []api.Name{{Book: 1, Key: "a"}, {Book: 1, Key: "b"}}},
		{1000, nil},
	} {
		w.tick(c.now)
		if got := Page(w.g, api.Name{}, 9); !slices.Equal(got, c.want) {
			t.Errorf("at %d: %v, not %v", c.now, got, c.want)
		}
	}
}

// P19.4: pages, one behind the other, are all names.
func TestPages(t *testing.T) {
	w, names := pagesOf(t)
	for most := 1; most < 30; most++ {
		var all []api.Name
		after := api.Name{}
		for {
			page := Page(w.g, after, most)
			all = append(all, page...)
			if len(page) < most {
				break
			}
			after = page[len(page)-1]
		}
		if !slices.Equal(all, names) {
			t.Errorf("pages of %d: %v", most, all)
		}
	}
}

// R5: what is told is its caller's.
func TestSharesNothing(t *testing.T) {
	w, names := pagesOf(t)
	page := Page(w.g, names[0], 3)
	page[0] = api.Name{Book: 5, Key: "x"}
	_ = append(page, api.Name{Book: 6, Key: "y"})
	if got := Page(w.g, names[0], 4); !slices.Equal(got, names[1:5]) {
		t.Errorf("Page: %v", got)
	}
	l := []api.Ask{ask(0, "z", 1), ask(0, "z", 1)}
	told, _ := w.all(t, l)
	kept := slices.Clone(told)
	l[0] = api.Ask{}
	again := w.each(t, []api.Ask{ask(0, "z", 1), ask(0, "z", 1)})
	if !slices.Equal(told, kept) || slices.Equal(told, again) {
		t.Errorf("told %v, then %v", kept, told)
	}
	told[0] = api.Told{}
	w.same(t)
}

// P19.1 to P19.3: of no engine; and of one that engine.New did not make, nothing is let in.
func TestNone(t *testing.T) {
	l := []api.Ask{ask(0, "a", 1)}
	for _, l := range [][]api.Ask{l, nil, make([]api.Ask, 9)} {
		if told, code := Each(nil, l); len(told) != 0 || code != api.ErrArg {
			t.Errorf("Each: %v, %d", told, code)
		}
		if told, all, code := All(nil, l); len(told) != 0 || all || code != api.ErrArg {
			t.Errorf("All: %v, %v, %d", told, all, code)
		}
	}
	if page := Page(nil, api.Name{}, 5); len(page) != 0 {
		t.Errorf("Page: %v", page)
	}
	g := &engine.Engine{}
	if told, code := Each(g, l); short(told) != "1" || code != api.OK {
		t.Errorf("Each: %v, %d", told, code)
	}
	if told, all, code := All(g, l); short(told) != "1" || all || code != api.OK {
		t.Errorf("All: %v, %v, %d", told, all, code)
	}
	if page := Page(g, api.Name{}, 5); len(page) != 0 {
		t.Errorf("Page: %v", page)
	}
}

// P19.1 to P19.4: any asks, at any times, of few cells, against an engine to which the same was done by single checks.
func TestAny(t *testing.T) {
	for seed := range int64(150) {
		r := rand.New(rand.NewSource(seed))
		w := newTwin(t, 1+r.Intn(4), uint64(seed))
		for id, p := range kinds {
			w.set(id, p)
		}
		now := 0
		for range 40 {
			if r.Intn(3) == 0 {
				now += r.Intn(12)
				w.tick(now)
			}
			l := make([]api.Ask, 1+r.Intn(8))
			for i := range l {
				l[i] = ask(r.Intn(5), string(rune('a'+r.Intn(3))), r.Intn(4))
			}
			switch r.Intn(4) {
			case 0:
				w.each(t, l)
			case 1:
				w.set(r.Intn(4), kinds[r.Intn(4)])
			default:
				w.all(t, l[:1+r.Intn(min(len(l), 3))])
			}
			names := w.g.Names()
			after := api.Name{Book: r.Intn(6) - 1, Key: string(rune('a' + r.Intn(3)))}
			page := Page(w.g, after, 64)
			if !slices.Equal(page, names[len(names)-len(page):]) {
				t.Fatalf("Page(%v): %v of %v", after, page, names)
			}
		}
	}
}
