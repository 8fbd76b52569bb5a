package session

import (
	"math"
	"math/rand"
	"reflect"
	"slices"
	"strings"
	"testing"

	"sandglass/answer"
	"sandglass/api"
	"sandglass/batch"
	"sandglass/engine"
	"sandglass/frame"
	"sandglass/wire"
)

// kinds are policies of each kind that let in 2, and in which what was let in at 20 counts till 29.
var kinds = []api.Policy{
	{Kind: api.Bucket, Limit: 2, Window: 10},
	{Kind: api.Fixed, Limit: 2, Window: 10},
	{Kind: api.Ring, Limit: 2, Window: 10, Buckets: 2},
	{Kind: api.Exact, Limit: 2, Window: 10},
}

// pair is a session, and an engine to which the same is done.
type pair struct {
	t *testing.T
	s *Session
	g *engine.Engine
}

func newPair(t *testing.T, cells int, seed uint64) pair {
	t.Helper()
	s, code := New(api.Config{Cells: cells, Seed: seed})
	if code != api.OK || s == nil {
		t.Fatalf("New: %d", code)
	}
	g, _ := engine.New(api.Config{Cells: cells, Seed: ^seed})
	return pair{t, s, g}
}

func (p pair) tick(now int) {
	p.t.Helper()
	p.g.Tick(now)
	if s := p.s.Step(api.Step{Tick: now}); s != "" {
		p.t.Fatalf("Step: %q", s)
	}
	p.same()
}

// wanted is what the document says that a command is answered, of an engine.
func wanted(g *engine.Engine, c api.Command) api.Answer {
	a := api.Answer{Kind: c.Kind}
	first := append(slices.Clone(c.Asks), api.Ask{})[0]
	switch c.Kind {
	case 1:
		a.Told = []api.Told{g.Check(first)}
	case 2:
		if c.All {
			var all bool
			a.Told, all, a.Code = batch.All(g, c.Asks)
			if all {
				a.Count = len(c.Asks)
			}
			break
		}
		a.Told, a.Code = batch.Each(g, c.Asks)
		for _, told := range a.Told {
			if told.Code == api.OK && told.Verdict.Allowed {
				a.Count++
			}
		}
	case 3:
		a.Told = []api.Told{g.Peek(first)}
	case 4:
		a.Code = g.Forget(c.After)
	case 5:
		a.Version, a.Code = g.Set(c.Book, c.Policy)
	case 6:
		a.Policy, a.Version, a.Code = g.Policy(c.Book)
	case 7:
		a.Code = g.Delete(c.Book)
	case 8:
		a.Now, a.Count = g.Tick(-1), len(g.Names())
	case 9:
		a.Names = batch.Page(g, c.After, 12)
		a.Names = a.Names[:min(len(a.Names), max(c.Most, 0))]
	default:
		a.Code = api.ErrArg
	}
	return a
}

func equal(a api.Answer, b api.Answer) bool {
	told, names := slices.Equal(a.Told, b.Told), slices.Equal(a.Names, b.Names)
	a.Told, b.Told, a.Names, b.Names = nil, nil, nil, nil
	return told && names && reflect.DeepEqual(a, b)
}

// do does a command, and holds its answer against that of the engine.
func (p pair) do(c api.Command) api.Answer {
	p.t.Helper()
	kept := c
	kept.Asks = slices.Clone(c.Asks)
	got := p.s.Do(c)
	if want := wanted(p.g, c); !equal(got, want) {
		p.t.Fatalf("Do(%v): %v, not %v", c, got, want)
	}
	if !reflect.DeepEqual(c, kept) {
		p.t.Fatalf("Do changed %v to %v", kept, c)
	}
	p.same()
	return got
}

// same holds what the session and the engine have.
func (p pair) same() {
	p.t.Helper()
	names := p.g.Names()
	if got := p.s.Names(); !slices.Equal(got, names) {
		p.t.Fatalf("Names: %v, not %v", got, names)
	}
	if got, want := p.s.engine.Tick(0), p.g.Tick(0); got != want {
		p.t.Fatalf("now %d, not %d", got, want)
	}
	for book := range 8 {
		q, version, code := p.s.engine.Policy(book)
		wantQ, wantVersion, wantCode := p.g.Policy(book)
		if q != wantQ || version != wantVersion || code != wantCode {
			p.t.Fatalf("book %d: %v, %d, %d, not %v, %d, %d", book, q, version, code, wantQ, wantVersion, wantCode)
		}
	}
	for _, n := range names {
		a := api.Ask{Book: n.Book, Key: n.Key, Weight: 1}
		if got, want := p.s.engine.Peek(a), p.g.Peek(a); got != want {
			p.t.Fatalf("%v: %v, not %v", a, got, want)
		}
	}
}

func ask(book int, key string, weight int) api.Ask {
	return api.Ask{Book: book, Key: key, Weight: weight}
}

func set(book int, p api.Policy) api.Command {
	return api.Command{Kind: api.Set, Book: book, Policy: p}
}

func check(l ...api.Ask) api.Command { return api.Command{Kind: api.Check, Asks: l} }

// P23.1: all numbers of cells that may be, of any seed; R3: with an error there is none.
func TestNew(t *testing.T) {
	for cells := 1; cells <= 64; cells++ {
		for _, seed := range []uint64{0, 1, 1 << 63, math.MaxUint64} {
			p := newPair(t, cells, seed)
			p.same()
			if l := p.s.Names(); len(l) != 0 {
				t.Fatalf("Names: %v", l)
			}
			// It was fed nothing, and the clock is at 0.
			if s := p.s.Step(api.Step{Chunk: "\x00\x01\x08"}); s != "\x00\x1a\x08"+strings.Repeat("\x00", 25) {
				t.Fatalf("Step: %q", s)
			}
		}
	}
	for _, cells := range []int{math.MinInt, -1, 0, 65, 128, 1 << 32, math.MaxInt} {
		if s, code := New(api.Config{Cells: cells, Seed: 1}); s != nil || code != api.ErrArg {
			t.Errorf("New of %d cells: %v, %d", cells, s, code)
		}
	}
}

// P23.1: there are as many cells as was told.
func TestCells(t *testing.T) {
	for _, cells := range []int{1, 2, 63, 64} {
		p := newPair(t, cells, 9)
		p.do(set(0, kinds[3]))
		for i := range cells + 1 {
			told := p.do(check(ask(0, string([]byte{byte(i)}), 1))).Told[0]
			if told.Verdict.Allowed != (i < cells) || (told.Code == api.ErrCapacity) != (i == cells) {
				t.Fatalf("name %d of %d: %v", i, cells, told)
			}
		}
	}
}

// P23.1: Names are those that count, by book and by key, and no others.
func TestNames(t *testing.T) {
	p := newPair(t, 8, 1)
	p.do(set(2, kinds[1]))
	p.do(set(1, kinds[1]))
	for _, a := range []api.Ask{ask(2, "a", 1), ask(1, "b", 1), ask(1, "a", 2), ask(1, "a", 1), ask(1, "c", 3), ask(3, "a", 1)} {
		p.do(check(a))
	}
	want := []api.Name{{Book: 1, Key: "a"}, {Book: 1, Key: "b"}, {Book: 2, Key: "a"}}
	if l := p.s.Names(); !slices.Equal(l, want) {
		t.Fatalf("Names: %v", l)
	}
	p.tick(9)
	if l := p.s.Names(); !slices.Equal(l, want) {
		t.Fatalf("Names: %v", l)
	}
	p.tick(10)
	if l := p.s.Names(); len(l) != 0 {
		t.Fatalf("Names: %v", l)
	}
}

// P23.2: Check and Peek, of the first ask, or of the zero one.
func TestFirstAsk(t *testing.T) {
	for _, kind := range []int{api.Check, api.Peek} {
		p := newPair(t, 2, 1)
		p.do(set(1, kinds[0]))
		// The zero ask has no key, so that this is an error even where its book has a policy.
		p.do(set(0, kinds[0]))
		let := api.Told{Verdict: api.Verdict{Allowed: true, Remaining: 1, Reset: 5}}
		for _, c := range []struct {
			l    []api.Ask
			want api.Told
		}{
			{nil, api.Told{Code: api.ErrArg}},
			{[]api.Ask{}, api.Told{Code: api.ErrArg}},
			{[]api.Ask{{}}, api.Told{Code: api.ErrArg}},
			{[]api.Ask{ask(2, "a", 1)}, api.Told{Code: api.ErrNone}},
			{[]api.Ask{ask(2, "a", 1), ask(1, "a", 1)}, api.Told{Code: api.ErrNone}},
			{[]api.Ask{ask(1, "a", 1)}, let},
			{[]api.Ask{ask(1, "b", 1), ask(1, "c", 1), ask(9, "", 0)}, let},
			{append([]api.Ask{ask(2, "b", 1)}, make([]api.Ask, 100)...), api.Told{Code: api.ErrNone}},
		} {
			a := p.do(api.Command{Kind: kind, Asks: c.l})
			if !equal(a, api.Answer{Kind: kind, Told: []api.Told{c.want}}) {
				t.Errorf("kind %d of %v: %v, not %v", kind, c.l, a, c.want)
			}
		}
	}
}

// P23.2: Check lets in, Peek does not.
func TestPeekLetsNothingIn(t *testing.T) {
	for _, q := range kinds {
		p := newPair(t, 1, 1)
		p.do(set(1, q))
		for range 3 {
			p.do(api.Command{Kind: api.Peek, Asks: []api.Ask{ask(1, "a", 2)}})
		}
		if len(p.s.Names()) != 0 {
			t.Errorf("%v: %v", q, p.s.Names())
		}
		p.do(check(ask(1, "b", 2)))
		// Of Peek there is no want of room.
		if a := p.do(api.Command{Kind: api.Peek, Asks: []api.Ask{ask(1, "a", 2)}}); !a.Told[0].Verdict.Allowed {
			t.Errorf("%v: %v", q, a)
		}
		if a := p.do(check(ask(1, "a", 2))); a.Told[0] != (api.Told{Code: api.ErrCapacity}) {
			t.Errorf("%v: %v", q, a)
		}
	}
}

// P23.2: what Batch tells and counts, of each and of all.
func TestBatch(t *testing.T) {
	for _, c := range []struct {
		all        bool
		l          []api.Ask
		count, let int
	}{
		{false, []api.Ask{ask(1, "a", 1)}, 1, 1},
		{true, []api.Ask{ask(1, "a", 1)}, 1, 1},
		{false, []api.Ask{ask(1, "a", 3)}, 0, 0},
		{true, []api.Ask{ask(1, "a", 3)}, 0, 0},
		{false, []api.Ask{ask(1, "a", 1), ask(1, "a", 2), ask(1, "a", 1)}, 2, 1},
		{true, []api.Ask{ask(1, "a", 1), ask(1, "a", 2), ask(1, "a", 1)}, 0, 0},
		{true, []api.Ask{ask(1, "a", 1), ask(1, "b", 2), ask(1, "a", 1)}, 3, 2},
		{false, []api.Ask{ask(1, "a", 1), ask(2, "b", 2), ask(1, "", 1), ask(1, "b", 1), ask(1, "c", 1)}, 2, 2},
		{true, []api.Ask{ask(1, "a", 1), ask(1, "b", 1), ask(1, "c", 1)}, 0, 0},
		{true, []api.Ask{ask(2, "a", 1), ask(1, "b", 1)}, 0, 0},
		{true, slices.Repeat([]api.Ask{ask(1, "a", 1)}, 8), 0, 0},
		{false, slices.Repeat([]api.Ask{ask(1, "a", 1)}, 8), 2, 1},
		{true, slices.Repeat([]api.Ask{ask(3, "a", 1)}, 8), 8, 1},
		{false, slices.Repeat([]api.Ask{ask(3, "a", 1)}, 8), 8, 1},
	} {
		p := newPair(t, 2, 1)
		p.do(set(1, kinds[3]))
		p.do(set(3, api.Policy{Kind: api.Fixed, Limit: 8, Window: 10}))
		a := p.do(api.Command{Kind: api.Batch, All: c.all, Asks: c.l})
		if a.Code != api.OK || a.Count != c.count || len(a.Told) != len(c.l) || len(p.s.Names()) != c.let {
			t.Errorf("Batch of %v: %v, and %v counts", c, a, p.s.Names())
		}
	}
	for _, all := range []bool{false, true} {
		for _, n := range []int{0, 9, 32, 1000} {
			p := newPair(t, 2, 1)
			p.do(set(1, kinds[3]))
			a := p.do(api.Command{Kind: api.Batch, All: all, Asks: slices.Repeat([]api.Ask{ask(1, "a", 1)}, n)})
			if !equal(a, api.Answer{Kind: api.Batch, Code: api.ErrArg}) || len(p.s.Names()) != 0 {
				t.Errorf("Batch of %d: %v", n, a)
			}
		}
	}
}

// P23.2: Reset, Set, Get and Delete, and their errors.
func TestBooks(t *testing.T) {
	p := newPair(t, 4, 1)
	for _, c := range []struct {
		c    api.Command
		want api.Answer
	}{
		{api.Command{Kind: api.Get}, api.Answer{Code: api.ErrNone}},
		{api.Command{Kind: api.Delete, Book: 7}, api.Answer{Code: api.ErrNone}},
		{api.Command{Kind: api.Reset, After: api.Name{Book: 7, Key: "a"}}, api.Answer{Code: api.ErrNone}},
		{set(7, kinds[1]), api.Answer{Version: 1}},
		{set(7, api.Policy{}), api.Answer{Code: api.ErrArg}},
		{set(8, kinds[1]), api.Answer{Code: api.ErrArg}},
		{set(-1, kinds[1]), api.Answer{Code: api.ErrArg}},
		{api.Command{Kind: api.Get, Book: 7}, api.Answer{Version: 1, Policy: kinds[1]}},
		{api.Command{Kind: api.Get, Book: 8}, api.Answer{Code: api.ErrArg}},
		{check(ask(7, "a", 2)), api.Answer{Told: []api.Told{{Verdict: api.Verdict{Allowed: true, Reset: 10}}}}},
		{check(ask(7, "b", 2)), api.Answer{Told: []api.Told{{Verdict: api.Verdict{Allowed: true, Reset: 10}}}}},
		{api.Command{Kind: api.Reset, After: api.Name{Book: 7, Key: "a"}}, api.Answer{}},
		{api.Command{Kind: api.Reset, After: api.Name{Book: 7, Key: "never"}}, api.Answer{}},
		{api.Command{Kind: api.Reset, After: api.Name{Book: 7}}, api.Answer{Code: api.ErrArg}},
		{api.Command{Kind: api.Reset, Book: 7}, api.Answer{Code: api.ErrArg}},
		{check(ask(7, "a", 1)), api.Answer{Told: []api.Told{{Verdict: api.Verdict{Allowed: true, Remaining: 1, Reset: 10}}}}},
		{check(ask(7, "b", 1)), api.Answer{Told: []api.Told{{Verdict: api.Verdict{Retry: 10, Reset: 10}}}}},
		{set(7, kinds[1]), api.Answer{Version: 2}},
		{api.Command{Kind: api.Stats}, api.Answer{}},
		{api.Command{Kind: api.Delete, Book: 7}, api.Answer{}},
		{api.Command{Kind: api.Delete, Book: 7}, api.Answer{Code: api.ErrNone}},
		{api.Command{Kind: api.Delete, Book: 256}, api.Answer{Code: api.ErrArg}},
		{api.Command{Kind: api.Get, Book: 7}, api.Answer{Code: api.ErrNone}},
		{set(7, kinds[2]), api.Answer{Version: 3}},
		{api.Command{Kind: api.Get, Book: 7}, api.Answer{Version: 3, Policy: kinds[2]}},
	} {
		c.want.Kind = c.c.Kind
		if a := p.do(c.c); !equal(a, c.want) {
			t.Errorf("Do(%v): %v, not %v", c.c, a, c.want)
		}
	}
}

// P23.2: Stats tells the clock, and how many names count, not how many cells are taken.
func TestStats(t *testing.T) {
	p := newPair(t, 8, 1)
	p.do(set(1, kinds[1]))
	p.tick(15)
	p.do(check(ask(1, "a", 1)))
	p.do(check(ask(1, "b", 1)))
	for _, c := range [][3]int{{15, 15, 2}, {3, 15, 2}, {19, 19, 2}, {20, 20, 0}, {1<<40 + 1, 20, 0}, {1 << 40, 1 << 40, 0}, {0, 1 << 40, 0}} {
		p.tick(c[0])
		if a := p.do(api.Command{Kind: api.Stats}); !equal(a, api.Answer{Kind: api.Stats, Now: c[1], Count: c[2]}) {
			t.Errorf("at %d: %v", c[0], a)
		}
	}
}

// P23.2: pages of names, twelve of them at most, however long their keys are.
func TestDump(t *testing.T) {
	p := newPair(t, 64, 1)
	p.do(set(1, kinds[1]))
	p.do(set(2, kinds[1]))
	var names []api.Name
	for i := range 40 {
		n := api.Name{Book: 1 + i/20, Key: strings.Repeat(string([]byte{byte(i)}), 32)}
		names = append(names, n)
		p.do(check(ask(n.Book, n.Key, 1)))
	}
	for _, most := range []int{math.MinInt, -1, 0, 1, 2, 11, 12, 13, 40, 255, math.MaxInt} {
		for from := range len(names) + 1 {
			after := append([]api.Name{{}}, names...)[from]
			a := p.do(api.Command{Kind: api.Dump, After: after, Most: most})
			want := names[from:min(len(names), from+max(0, min(most, 12)))]
			if !equal(a, api.Answer{Kind: api.Dump, Names: want}) {
				t.Fatalf("Dump of %d behind %d: %v", most, from, a)
			}
			if s, code := answer.Encode(a); code != api.OK || len(s) > 512 {
				t.Fatalf("Encode: %d", code)
			}
		}
	}
	for _, after := range []api.Name{{Book: 3}, {Book: 255, Key: "a"}, {Book: 2, Key: strings.Repeat("\xff", 200)}, {Book: math.MaxInt}} {
		if a := p.do(api.Command{Kind: api.Dump, After: after, Most: 5}); len(a.Names) != 0 {
			t.Errorf("Dump behind %v: %v", after, a)
		}
	}
	if a := p.do(api.Command{Kind: api.Dump, After: api.Name{Book: math.MinInt, Key: "z"}, Most: 1}); !slices.Equal(a.Names, names[:1]) {
		t.Errorf("Dump: %v", a)
	}
}

// P23.2: kinds that there are not: the kind is told, and ErrArg, and nothing is done.
func TestOtherKinds(t *testing.T) {
	p := newPair(t, 4, 1)
	p.do(set(1, kinds[1]))
	p.do(check(ask(1, "a", 1)))
	for _, kind := range []int{math.MinInt, -256, -1, 0, 10, 11, 255, 256, 257, 1 << 32, 1<<32 + 1, math.MaxInt} {
		a := p.do(api.Command{Kind: kind, All: true, Asks: []api.Ask{ask(1, "b", 1)}, Book: 1, Policy: kinds[0], After: api.Name{Book: 1, Key: "a"}, Most: 9})
		if !equal(a, api.Answer{Kind: kind, Code: api.ErrArg}) {
			t.Errorf("kind %d: %v", kind, a)
		}
	}
}

// P23.2: what is of no moment to a kind changes nothing.
func TestNeedless(t *testing.T) {
	for kind := 1; kind <= 9; kind++ {
		p := newPair(t, 4, 1)
		p.do(set(1, kinds[1]))
		p.do(check(ask(1, "a", 1)))
		p.do(api.Command{Kind: kind, All: true, Asks: []api.Ask{ask(1, "b", 1), ask(1, "a", 1)}, Book: 1, Policy: kinds[0], After: api.Name{Book: 1, Key: "a"}, Most: 9})
	}
}

func anyAsk(r *rand.Rand) api.Ask {
	a := ask(r.Intn(3), string([]byte{byte(r.Intn(4))}), 1+r.Intn(2))
	switch r.Intn(30) {
	case 0:
		a.Book = r.Intn(20) - 5
	case 1:
		a.Key = strings.Repeat("k", 33*r.Intn(2))
	case 2:
		a.Weight = r.Intn(1<<20+3) - 1
	}
	return a
}

func anyCommand(r *rand.Rand) api.Command {
	c := api.Command{Kind: []int{1, 1, 1, 1, 2, 2, 2, 3, 4, 5, 6, 7, 8, 9}[r.Intn(14)]}
	switch c.Kind {
	case api.Check, api.Peek:
		c.Asks = []api.Ask{anyAsk(r)}
	case api.Batch:
		c.All = r.Intn(2) == 0
		for range r.Intn(1 + r.Intn(10)) {
			c.Asks = append(c.Asks, anyAsk(r))
		}
	case api.Reset, api.Dump:
		n := anyAsk(r)
		c.After = api.Name{Book: n.Book, Key: n.Key}
		if c.Kind == api.Dump {
			c.Most = r.Intn(4)
		}
	default:
		if c.Kind != api.Stats {
			c.Book = anyAsk(r).Book
		}
		if c.Kind == api.Set {
			c.Policy = kinds[r.Intn(4)]
			c.Policy.Limit = r.Intn(5)
		}
	}
	return c
}

// P23.2: any commands at any times, one behind the other.
func TestAnyCommands(t *testing.T) {
	for seed := range int64(100) {
		r := rand.New(rand.NewSource(seed))
		p := newPair(t, 1+r.Intn(6), r.Uint64())
		now := 0
		for range 150 {
			if r.Intn(3) == 0 {
				now += r.Intn(6)
				p.tick(now - r.Intn(3))
			}
			p.do(anyCommand(r))
		}
	}
}

// framedText is a text's frame, in the document's words.
func framedText(s string) string { return string([]byte{byte(len(s) >> 8), byte(len(s))}) + s }

// commandText is a command's bytes.
func commandText(t *testing.T, c api.Command) string {
	t.Helper()
	s, code := wire.Encode(c)
	if code != api.OK {
		t.Fatalf("Encode(%v): %d", c, code)
	}
	return s
}

// answerFrame is an answer's frame.
func answerFrame(t *testing.T, a api.Answer) string {
	t.Helper()
	s, code := answer.Encode(a)
	if code != api.OK {
		t.Fatalf("Encode(%v): %d", a, code)
	}
	return framedText(s)
}

// stepper is a session whose steps are held against what a pair's engine says.
type stepper struct {
	pair
	reader *frame.Reader
}

func newStepper(t *testing.T, cells int, seed uint64) stepper {
	t.Helper()
	return stepper{newPair(t, cells, seed), frame.New()}
}

func (p stepper) step(x api.Step) string {
	p.t.Helper()
	p.g.Tick(x.Tick)
	want := ""
	for _, piece := range p.reader.Feed(x.Chunk) {
		a := api.Answer{Code: piece.Code}
		if piece.Code == api.OK {
			var c api.Command
			c, a.Code = wire.Decode(piece.Text)
			if a.Code == api.OK {
				a = wanted(p.g, c)
			}
		}
		want += answerFrame(p.t, a)
	}
	got := p.s.Step(x)
	if got != want {
		p.t.Fatalf("Step(%v): %q, not %q", x, got, want)
	}
	p.same()
	return got
}

// P23.3: the document's example.
func TestExample(t *testing.T) {
	p := newStepper(t, 1, 1)
	if s := p.step(api.Step{Chunk: "\x00\x01\x08"}); s != "\x00\x1a\x08"+strings.Repeat("\x00", 25) || len(s) != 28 {
		t.Errorf("%q", s)
	}
}

// P23.3: the clock goes on ahead of what comes, also of what comes with a Tick that is no time, or one that is over.
func TestClockFirst(t *testing.T) {
	p := newStepper(t, 1, 1)
	p.do(set(1, kinds[1]))
	stats := framedText("\x08")
	for _, c := range []struct{ tick, now int }{{0, 0}, {-1, 0}, {9, 9}, {5, 9}, {math.MinInt, 9}, {1<<40 + 1, 9}, {math.MaxInt, 9}, {10, 10}, {1 << 40, 1 << 40}, {0, 1 << 40}} {
		if s := p.step(api.Step{Tick: c.tick, Chunk: stats}); s != answerFrame(t, api.Answer{Kind: api.Stats, Now: c.now}) {
			t.Errorf("at %d: %q", c.tick, s)
		}
	}
}

// P23.3: last, the engine works, as much as Budget tells, and what comes in the same step is done by then.
func TestWorksLast(t *testing.T) {
	for _, c := range []struct{ budget, left int }{{math.MinInt, 5}, {-1, 5}, {0, 5}, {1, 4}, {2, 3}, {4, 1}, {5, 0}, {1000, 0}, {math.MaxInt, 0}} {
		p := newStepper(t, 8, 1)
		p.do(set(1, kinds[1]))
		for i := range 5 {
			p.do(check(ask(1, string([]byte{byte(i)}), 1)))
		}
		p.step(api.Step{Budget: 1000})
		if n := p.s.engine.Count(); n != 5 {
			t.Fatalf("Count: %d", n)
		}
		p.step(api.Step{Chunk: framedText(commandText(t, api.Command{Kind: api.Delete, Book: 1})), Budget: c.budget})
		if n := p.s.engine.Count(); n != c.left {
			t.Errorf("budget %d: Count %d, not %d", c.budget, n, c.left)
		}
		// It works just once a step.
		if c.left > 0 {
			p.step(api.Step{Budget: 1})
			if n := p.s.engine.Count(); n != c.left-1 {
				t.Errorf("budget %d, and 1: Count %d, not %d", c.budget, n, c.left-1)
			}
		}
	}
}

// P23.3, P23.4: what is no command has an answer of just an error, and changes nothing; what is behind it is done.
func TestNoCommand(t *testing.T) {
	stats := framedText("\x08")
	for _, c := range []struct {
		chunk string
		code  api.Errno
	}{
		{"\x00\x00", api.ErrBig},
		{"\x02\x01" + strings.Repeat("\x00\x01\x08", 171), api.ErrBig},
		{"\xff\xff" + strings.Repeat(stats, 65535/3), api.ErrBig},
		{framedText("\x00"), api.ErrKind},
		{framedText("\x0a"), api.ErrKind},
		{framedText("\xff" + strings.Repeat("\x00", 511)), api.ErrKind},
		{framedText("\x06"), api.ErrForm},
		{framedText("\x08\x00"), api.ErrForm},
		{framedText(commandText(t, api.Command{Kind: api.Delete, Book: 1}) + "\x00"), api.ErrForm},
		{framedText(commandText(t, set(1, kinds[2]))[:11]), api.ErrForm},
		{framedText("\x02\x02\x01\x01\x01a\x00\x00\x00\x01"), api.ErrForm},
	} {
		p := newStepper(t, 2, 1)
		p.do(set(1, kinds[1]))
		p.do(check(ask(1, "a", 1)))
		want := answerFrame(t, api.Answer{Code: c.code})
		if s := p.step(api.Step{Chunk: c.chunk}); s != want {
			t.Errorf("%q: %q, not %q", c.chunk, s, want)
		}
		count := answerFrame(t, api.Answer{Kind: api.Stats, Count: 1})
		if s := p.step(api.Step{Chunk: stats + c.chunk + stats}); s != count+want+count {
			t.Errorf("%q: %q", c.chunk, s)
		}
	}
}

// P23.3: what a command tells may have an error too: then its kind is told.
func TestCommandErrors(t *testing.T) {
	p := newStepper(t, 2, 1)
	for _, c := range []struct {
		text string
		want api.Answer
	}{
		{"\x02\x00\x00", api.Answer{Kind: api.Batch, Code: api.ErrArg}},
		{"\x02\x01\x20" + strings.Repeat("\x00\x00\x00\x00\x00\x00", 32), api.Answer{Kind: api.Batch, Code: api.ErrArg}},
		{"\x06\x03", api.Answer{Kind: api.Get, Code: api.ErrNone}},
		{"\x07\xff", api.Answer{Kind: api.Delete, Code: api.ErrArg}},
		{"\x04\x03\x01a", api.Answer{Kind: api.Reset, Code: api.ErrNone}},
		{"\x05\x00" + strings.Repeat("\xff", 10), api.Answer{Kind: api.Set, Code: api.ErrArg}},
		{"\x01\x00\x01a\xff\xff\xff\xff", api.Answer{Kind: api.Check, Told: []api.Told{{Code: api.ErrArg}}}},
	} {
		if s := p.step(api.Step{Chunk: framedText(c.text)}); s != answerFrame(t, c.want) {
			t.Errorf("%q: %q", c.text, s)
		}
	}
}

// P23.3: what is told at most has room in an answer: eight asks, and twelve names of the longest keys.
func TestGreatestAnswers(t *testing.T) {
	p := newStepper(t, 64, 1)
	p.do(set(7, kinds[1]))
	var l []api.Ask
	for i := range 13 {
		l = append(l, ask(7, strings.Repeat(string([]byte{byte(i)}), 32), 1))
	}
	sizes := []int{28 + 18*8, 28 + 18*5, 28 + 34*12}
	for i, c := range []api.Command{{Kind: api.Batch, Asks: l[:8]}, {Kind: api.Batch, All: true, Asks: l[8:]}, {Kind: api.Dump, Most: 255}} {
		if s := p.step(api.Step{Tick: 1 << 40, Chunk: framedText(commandText(t, c))}); len(s) != sizes[i] {
			t.Errorf("%d bytes: %q", len(s), s)
		}
	}
}

// anyPieces is the bytes of so many pieces.
func anyPieces(t *testing.T, r *rand.Rand, count int) string {
	t.Helper()
	s := ""
	for range count {
		switch r.Intn(12) {
		case 0:
			s += "\x00\x00"
		case 1:
			s += "\x02\x01" + strings.Repeat("\x00", 513)
		case 2:
			s += framedText(strings.Repeat("\x01", 1+r.Intn(9)))
		default:
			c := anyCommand(r)
			for !wire.May(c) {
				c = anyCommand(r)
			}
			s += framedText(commandText(t, c))
		}
	}
	return s
}

// P23.4, P6: each piece has one answer, in order, however its bytes are cut, and however much is worked.
func TestAnySteps(t *testing.T) {
	for seed := range int64(100) {
		r := rand.New(rand.NewSource(seed))
		cells := 1 + r.Intn(4)
		whole, cut := newStepper(t, cells, 1), newStepper(t, cells, 2)
		for now := range 10 {
			pieces := r.Intn(20)
			chunk := anyPieces(t, r, pieces)
			want := whole.step(api.Step{Tick: 3 * now, Chunk: chunk, Budget: r.Intn(3)})
			// The clock alone goes on; a Tick that is over changes nothing then.
			got, most := cut.step(api.Step{Tick: 3 * now}), []int{1, 2, 20, 1000}[r.Intn(4)]
			for rest := chunk; rest != ""; {
				n := min(r.Intn(most+1), len(rest))
				got += cut.step(api.Step{Tick: r.Intn(3*now + 1), Chunk: rest[:n], Budget: r.Intn(3)})
				rest = rest[n:]
			}
			if l := frame.New().Feed(want); len(l) != pieces || got != want {
				t.Fatalf("seed %d: %d answers, not %d: %q, not %q", seed, len(l), pieces, got, want)
			}
		}
	}
}

// P23.3: bytes of a frame that is not whole are kept till the others come, whatever is done meanwhile; the command is done at the time of its last byte.
func TestKeepsBytes(t *testing.T) {
	p := newStepper(t, 2, 1)
	p.do(set(1, kinds[1]))
	text := framedText(commandText(t, check(ask(1, "a", 2))))
	for i, at := range []int{0, 1, 2, 5, len(text) - 1} {
		if s := p.step(api.Step{Tick: 100 * i, Chunk: text[:at]}); s != "" {
			t.Errorf("%q", s)
		}
		p.do(api.Command{Kind: api.Stats})
		p.do(check(ask(1, "b", 1)))
		want := answerFrame(t, api.Answer{Kind: api.Check, Told: []api.Told{{Verdict: api.Verdict{Allowed: true, Reset: 3}}}})
		if s := p.step(api.Step{Tick: 100*i + 57, Chunk: text[at:]}); s != want {
			t.Errorf("cut at %d: %q", at, s)
		}
	}
}

// R5, R6: what is told is not changed later, nor does it change what is told later; sessions are nothing to each other.
func TestSharesNothing(t *testing.T) {
	p, other := newPair(t, 4, 1), newPair(t, 4, 1)
	p.do(set(1, kinds[1]))
	other.do(set(1, kinds[2]))
	l := []api.Ask{ask(1, "a", 1), ask(1, "b", 1)}
	a := p.do(api.Command{Kind: api.Batch, Asks: l})
	l[0] = ask(7, "changed", 9)
	names := p.s.Names()
	page := p.do(api.Command{Kind: api.Dump, Most: 9}).Names
	a.Told[0] = api.Told{Code: 9}
	names[0], page[1] = api.Name{Key: "changed"}, api.Name{Key: "changed"}
	_ = append(names[:1], api.Name{})
	p.same()
	other.same()
	kept := p.s.Names()
	p.do(check(ask(1, "c", 1)))
	p.do(api.Command{Kind: api.Reset, After: api.Name{Book: 1, Key: "a"}})
	if !slices.Equal(kept, []api.Name{{Book: 1, Key: "a"}, {Book: 1, Key: "b"}}) {
		t.Errorf("Names: %v", kept)
	}
	if page[0] != (api.Name{Book: 1, Key: "a"}) {
		t.Errorf("page: %v", page)
	}
}

// P23.3: of a nil Session, and of one that New did not make.
func TestNone(t *testing.T) {
	for _, s := range []*Session{nil, {}} {
		for _, kind := range []int{math.MinInt, -1, 0, 1, 2, 3, 4, 5, 6, 7, 8, 9, 10, math.MaxInt} {
			c := set(1, kinds[0])
			c.Kind, c.Asks, c.Most, c.After = kind, []api.Ask{ask(1, "a", 1)}, 9, api.Name{Book: 1, Key: "a"}
			if a := s.Do(c); !equal(a, api.Answer{Kind: kind, Code: api.ErrArg}) {
				t.Errorf("kind %d: %v", kind, a)
			}
			if a := s.Do(api.Command{Kind: kind}); !equal(a, api.Answer{Kind: kind, Code: api.ErrArg}) {
				t.Errorf("kind %d: %v", kind, a)
			}
		}
		for _, chunk := range []string{"", "\x00", "\x00\x01\x08", "\x00\x00"} {
			if out := s.Step(api.Step{Tick: 5, Budget: 5, Chunk: chunk}); out != "" {
				t.Errorf("Step(%q): %q", chunk, out)
			}
		}
		if l := s.Names(); len(l) != 0 {
			t.Errorf("Names: %v", l)
		}
	}
}
