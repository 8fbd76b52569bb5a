package exact

import (
	"math"
	"math/rand"
	"reflect"
	"slices"
	"testing"

	"sandglass/api"
)

const lastTick = 1 << 40

var wrongTimes = []int{math.MinInt, -lastTick, -1, lastTick + 1, 1 << 41, math.MaxInt}

var wrongWeights = []int{math.MinInt, -1 << 20, -1, 0, 1<<20 + 1, 1 << 40, math.MaxInt}

// exactOf tells an Exact policy.
func exactOf(limit, window int) api.Policy {
	return api.Policy{Kind: api.Exact, Limit: limit, Window: window}
}

// log is all that was ever let in, by ticks.
type log map[int]int

// logOf tells what a cell's Hits mean.
func logOf(c api.Cell) log {
	in := log{}
	for _, hit := range c.Hits {
		in[hit.Tick] += hit.Weight
	}
	return in
}

// counts tells what counts at t: what was let in at ticks above t less Window.
func (in log) counts(p api.Policy, t int) int {
	n := 0
	for tick, weight := range in {
		if tick > t-p.Window {
			n += weight
		}
	}
	return n
}

// hits tells what counts at t, in order.
func (in log) hits(p api.Policy, t int) []api.Hit {
	var hits []api.Hit
	for tick, weight := range in {
		if tick > t-p.Window {
			hits = append(hits, api.Hit{Tick: tick, Weight: weight})
		}
	}
	slices.SortFunc(hits, func(a, b api.Hit) int { return a.Tick - b.Tick })
	return hits
}

// least tells the first number from 0 on of which is holds.
func least(is func(n int) bool) int {
	n := 0
	for !is(n) {
		n++
	}
	return n
}

// ask is P13.2 by its words alone, of what was ever let in; t is not below any time in it. If it is let in, the log has it then.
func (in log) ask(p api.Policy, t, w int) (api.Cell, api.Verdict) {
	v := api.Verdict{}
	switch {
	case in.counts(p, t)+w <= p.Limit:
		v.Allowed = true
		in[t] += w
	case w > p.Limit:
		v.Retry = 1 << 41
	default:
		v.Retry = least(func(n int) bool { return in.counts(p, t+n)+w <= p.Limit })
	}
	v.Remaining = p.Limit - in.counts(p, t)
	v.Reset = least(func(n int) bool { return in.counts(p, t+n) == 0 })
	return api.Cell{At: t, Hits: in.hits(p, t)}, v
}

// holds asks, and holds the answer against want.
func holds(t *testing.T, p api.Policy, c api.Cell, at, w int, want api.Cell, told api.Verdict) {
	t.Helper()
	d, v := Ask(p, c, at, w)
	if v != told || d.At != want.At || d.Level != 0 || len(d.Sums) != 0 || !slices.Equal(d.Hits, want.Hits) {
		t.Fatalf("Ask(%v, %v, %d, %d): %v, %v, not %v, %v", p, c, at, w, d, v, want, told)
	}
	if !May(p, d) {
		t.Fatalf("May(%v, %v) of what came of a cell that may be", p, d)
	}
}

// P13.2: the chapter's example, and that of the whole: what was let in at 5 counts till 14.
func TestExample(t *testing.T) {
	p := exactOf(2, 10)
	c := api.Cell{}
	for i, x := range []struct {
		t, w int
		v    api.Verdict
		hits []api.Hit
	}{
		{5, 1, api.Verdict{Allowed: true, Remaining: 1, Reset: 10}, []api.Hit{{Tick: 5, Weight: 1}}},
		{8, 1, api.Verdict{Allowed: true, Reset: 10}, []api.Hit{{Tick: 5, Weight: 1}, {Tick: 8, Weight: 1}}},
		{14, 1, api.Verdict{Retry: 1, Reset: 4}, []api.Hit{{Tick: 5, Weight: 1}, {Tick: 8, Weight: 1}}},
		{14, 2, api.Verdict{Retry: 4, Reset: 4}, []api.Hit{{Tick: 5, Weight: 1}, {Tick: 8, Weight: 1}}},
		{15, 2, api.Verdict{Remaining: 1, Retry: 3, Reset: 3}, []api.Hit{{Tick: 8, Weight: 1}}},
		{15, 1, api.Verdict{Allowed: true, Reset: 10}, []api.Hit{{Tick: 8, Weight: 1}, {Tick: 15, Weight: 1}}},
		{18, 1, api.Verdict{Allowed: true, Reset: 10}, []api.Hit{{Tick: 15, Weight: 1}, {Tick: 18, Weight: 1}}},
		{28, 3, api.Verdict{Remaining: 2, Retry: api.Never}, nil},
		{28, 1, api.Verdict{Allowed: true, Remaining: 1, Reset: 10}, []api.Hit{{Tick: 28, Weight: 1}}},
		{20, 1, api.Verdict{Allowed: true, Reset: 10}, []api.Hit{{Tick: 28, Weight: 2}}},
	} {
		d, v := Ask(p, c, x.t, x.w)
		if v != x.v || !slices.Equal(d.Hits, x.hits) {
			t.Errorf("ask %d: %v, %v", i, d, v)
		}
		c = d
	}
}

// allHits hands all lists of hits to do whose ticks rise from least to most, and whose weights are at most limit together.
func allHits(least, most, limit int, do func(hits []api.Hit)) {
	var fill func(from, left int, hits []api.Hit)
	fill = func(from, left int, hits []api.Hit) {
		do(slices.Clone(hits))
		for tick := from; tick <= most; tick++ {
			for weight := 1; weight <= left; weight++ {
				fill(tick+1, left-weight, append(slices.Clone(hits), api.Hit{Tick: tick, Weight: weight}))
			}
		}
	}
	fill(least, limit, nil)
}

// P13.1 to P13.3: all small policies, cells, times and weights, against the chapter's words, tick by tick.
func TestSmall(t *testing.T) {
	for _, p := range []api.Policy{exactOf(1, 1), exactOf(3, 1), exactOf(1, 5), exactOf(2, 2), exactOf(2, 4), exactOf(3, 3), exactOf(4, 4), exactOf(2, 7)} {
		for at := range 2*p.Window + 2 {
			// Ticks that no longer count at At, are below 0 or above At are among them.
			allHits(at-p.Window-1, at+1, p.Limit, func(hits []api.Hit) {
				c := api.Cell{At: at, Hits: hits}
				may := true
				for _, hit := range hits {
					may = may && hit.Tick >= 0 && hit.Tick > at-p.Window && hit.Tick <= at
				}
				if May(p, c) != may {
					t.Fatalf("May(%v, %v)", p, c)
				}
				if may {
					smallCell(t, p, c)
				}
			})
		}
	}
}

// smallCell holds all calls of a cell that may be against the chapter's words.
func smallCell(t *testing.T, p api.Policy, c api.Cell) {
	t.Helper()
	in := logOf(c)
	if n := Ends(p, c); n != c.At+least(func(n int) bool { return in.counts(p, c.At+n) == 0 }) {
		t.Fatalf("Ends(%v, %v): %d", p, c, n)
	}
	for now := max(c.At-p.Window-1, 0); now <= c.At+p.Window+1; now++ {
		if n := Total(p, c, now); n != in.counts(p, max(now, c.At)) {
			t.Fatalf("Total(%v, %v, %d): %d", p, c, now, n)
		}
		for w := 1; w <= p.Limit+2; w++ {
			d, v := logOf(c).ask(p, max(now, c.At), w)
			holds(t, p, c, now, w, d, v)
		}
	}
}

// ones tells so many hits of weight 1, one at each tick from first on.
func ones(first, count int) []api.Hit {
	var hits []api.Hit
	for i := range count {
		hits = append(hits, api.Hit{Tick: first + i, Weight: 1})
	}
	return hits
}

// P13.1: the edges of At and Hits, and all that a cell may not have.
func TestMay(t *testing.T) {
	for _, p := range []api.Policy{exactOf(1, 1), exactOf(3, 10), exactOf(16, 16), exactOf(16, 1), exactOf(1, 1<<20), exactOf(16, 1<<20)} {
		most := min(p.Limit, p.Window)
		for _, c := range []api.Cell{
			{}, {At: lastTick}, {Sums: []int{}, Hits: []api.Hit{}},
			{Hits: []api.Hit{{Weight: 1}}}, {Hits: []api.Hit{{Weight: p.Limit}}},
			{At: p.Window - 1, Hits: []api.Hit{{Weight: p.Limit}}}, {At: p.Window, Hits: []api.Hit{{Tick: 1, Weight: p.Limit}}},
			{At: lastTick, Hits: []api.Hit{{Tick: lastTick, Weight: p.Limit}}}, {At: lastTick, Hits: []api.Hit{{Tick: lastTick - p.Window + 1, Weight: p.Limit}}},
			{At: p.Window - 1, Hits: ones(0, most)}, {At: lastTick, Hits: ones(lastTick-most+1, most)}, {At: lastTick, Hits: ones(lastTick-p.Window+1, most)},
		} {
			if !May(p, c) {
				t.Errorf("May(%v, %v)", p, c)
			}
		}
		for _, c := range wrongCells(p) {
			if May(p, c) {
				t.Errorf("May(%v, %v)", p, c)
			}
		}
	}
}

// wrongCells tells cells that may not be ones of an Exact policy.
func wrongCells(p api.Policy) []api.Cell {
	const late = 1 << 30
	at := func(ticks ...int) []api.Hit {
		var hits []api.Hit
		for _, tick := range ticks {
			hits = append(hits, api.Hit{Tick: tick, Weight: 1})
		}
		return hits
	}
	weigh := func(weights ...int) []api.Hit {
		hits := ones(late-len(weights)+1, len(weights))
		for i, weight := range weights {
			hits[i].Weight = weight
		}
		return hits
	}
	cells := []api.Cell{
		{Level: 1}, {Level: -1}, {Level: math.MaxInt}, {At: late, Level: 1, Hits: at(late)},
		{Sums: []int{0}}, {At: late, Sums: []int{1}, Hits: at(late)}, {At: late, Sums: make([]int, 16)},
		// Ticks that are below 0, are above At, or no longer count.
		{Hits: at(-1)}, {Hits: at(1)}, {Hits: at(math.MinInt)}, {Hits: at(math.MaxInt)}, {At: late, Hits: at(-1)}, {At: late, Hits: at(late + 1)},
		{At: p.Window, Hits: at(0)}, {At: late, Hits: at(late - p.Window)}, {At: late, Hits: at(math.MinInt)}, {At: late, Hits: at(math.MaxInt)},
		{At: lastTick, Hits: at(lastTick + 1)}, {At: lastTick, Hits: at(lastTick - p.Window)}, {At: lastTick, Hits: at(0)},
		// Ticks that do not rise.
		{At: late, Hits: at(late, late)}, {At: late, Hits: at(late, late-1)}, {At: late, Hits: at(late-1, late-1)}, {At: late, Hits: at(late-2, late, late-1)}, {At: late, Hits: at(late-1, late, late)},
		// Weights that may not be, and more than Limit together; also those that would pass 64 bits, or would even out.
		{At: late, Hits: weigh(0)}, {At: late, Hits: weigh(-1)}, {At: late, Hits: weigh(math.MinInt)}, {At: late, Hits: weigh(p.Limit + 1)}, {At: late, Hits: weigh(math.MaxInt)},
		{At: late, Hits: weigh(0, 1)}, {At: late, Hits: weigh(1, 0)}, {At: late, Hits: weigh(p.Limit, 1)}, {At: late, Hits: weigh(1, p.Limit)},
		{At: late, Hits: weigh(math.MaxInt, math.MaxInt)}, {At: late, Hits: weigh(math.MaxInt, math.MinInt)}, {At: late, Hits: weigh(1<<62, 1<<62, 1<<62, 1<<62)}, {At: late, Hits: weigh(p.Limit+1, -1)}, {At: late, Hits: weigh(-1, p.Limit+1)},
		{At: late, Hits: ones(late-p.Limit, p.Limit+1)}, {At: late, Hits: ones(late-16, 17)}, {At: late, Hits: make([]api.Hit, 1000)},
	}
	for _, time := range wrongTimes {
		cells = append(cells, api.Cell{At: time}, api.Cell{At: time, Hits: at(time)}, api.Cell{At: time, Hits: at(0)}, api.Cell{At: time, Hits: at(lastTick)})
	}
	return cells
}

// nothing holds Ask of something wrong against the cell itself and the zero verdict.
func nothing(t *testing.T, p api.Policy, c api.Cell, at, w int) {
	t.Helper()
	if d, v := Ask(p, c, at, w); v != (api.Verdict{}) || !reflect.DeepEqual(d, c) {
		t.Errorf("Ask(%v, %v, %d, %d): %v, %v", p, c, at, w, d, v)
	}
}

// P13.1 to P13.3: cells that may not be: the cell itself, and zero.
func TestWrongCells(t *testing.T) {
	for _, p := range []api.Policy{exactOf(1, 1), exactOf(3, 10), exactOf(16, 1<<20)} {
		for _, c := range wrongCells(p) {
			for _, at := range []int{-1, 0, 1, 100, lastTick, lastTick + 1} {
				for _, w := range []int{0, 1, 3, 1 << 20} {
					nothing(t, p, c, at, w)
				}
				if n := Total(p, c, at); n != 0 {
					t.Errorf("Total(%v, %v, %d): %d", p, c, at, n)
				}
			}
			if n := Ends(p, c); n != 0 {
				t.Errorf("Ends(%v, %v): %d", p, c, n)
			}
		}
	}
}

// P13.1 to P13.3: policies that may not be, and those of other layers.
func TestWrongPolicies(t *testing.T) {
	for _, p := range []api.Policy{
		{}, {Kind: 5, Limit: 3, Window: 10}, {Kind: -1, Limit: 3, Window: 10}, {Kind: math.MaxInt, Limit: 3, Window: 10},
		{Kind: api.Bucket, Limit: 3, Window: 10}, {Kind: api.Fixed, Limit: 3, Window: 10}, {Kind: api.Ring, Limit: 3, Window: 10, Buckets: 2},
		exactOf(0, 10), exactOf(17, 10), exactOf(-3, 10), exactOf(1<<20, 10), exactOf(3, 0), exactOf(3, -10), exactOf(3, 1<<20+1),
		exactOf(math.MaxInt, math.MaxInt), exactOf(math.MinInt, math.MinInt), exactOf(3, math.MaxInt), exactOf(3, math.MinInt),
		{Kind: api.Exact, Limit: 3, Window: 10, Buckets: 1}, {Kind: api.Exact, Limit: 3, Window: 10, Buckets: -1},
	} {
		for _, c := range []api.Cell{{}, {At: 9}, {At: 9, Hits: []api.Hit{{Tick: 8, Weight: 1}}}, {At: 9, Level: 1}, {At: 9, Sums: []int{0, 0}}, {At: -1, Level: -1}} {
			if May(p, c) || Ends(p, c) != 0 {
				t.Errorf("May, Ends of %v, %v", p, c)
			}
			for _, at := range []int{-1, 0, 9, 10, lastTick} {
				nothing(t, p, c, at, 1)
				if n := Total(p, c, at); n != 0 {
					t.Errorf("Total(%v, %v, %d): %d", p, c, at, n)
				}
			}
		}
	}
}

// P13.1, P13.2: times and weights that may not be, of a cell that may: the cell itself, also where t is above At.
func TestWrongAsks(t *testing.T) {
	p := exactOf(3, 5)
	for _, c := range []api.Cell{{}, {At: 100, Hits: []api.Hit{{Tick: 96, Weight: 1}, {Tick: 99, Weight: 2}}}, {At: lastTick, Hits: []api.Hit{{Tick: lastTick, Weight: 3}}}, {At: 5, Hits: []api.Hit{}}} {
		for _, at := range wrongTimes {
			for _, w := range append([]int{1, 3, 4}, wrongWeights...) {
				nothing(t, p, c, at, w)
			}
			if n := Total(p, c, at); n != 0 {
				t.Errorf("Total(%v, %v, %d): %d", p, c, at, n)
			}
		}
		for _, w := range wrongWeights {
			for _, at := range []int{0, 100, 200, lastTick} {
				nothing(t, p, c, at, w)
			}
		}
	}
}

// P13.1 to P13.3: the greatest numbers, by hand; ticks go on beyond the last one.
func TestGreat(t *testing.T) {
	const most = 1 << 20
	great := exactOf(16, most)
	first := []api.Hit{{Weight: 16}}
	holds(t, great, api.Cell{}, 0, 16, api.Cell{Hits: first}, api.Verdict{Allowed: true, Reset: most})
	holds(t, great, api.Cell{Hits: first}, most-1, 1, api.Cell{At: most - 1, Hits: first}, api.Verdict{Retry: 1, Reset: 1})
	holds(t, great, api.Cell{Hits: first}, most-1, most, api.Cell{At: most - 1, Hits: first}, api.Verdict{Retry: api.Never, Reset: 1})
	holds(t, great, api.Cell{Hits: first}, most, 16, api.Cell{At: most, Hits: []api.Hit{{Tick: most, Weight: 16}}}, api.Verdict{Allowed: true, Reset: most})
	last := api.Cell{At: lastTick, Hits: []api.Hit{{Tick: lastTick, Weight: 16}}}
	holds(t, great, api.Cell{}, lastTick, 16, last, api.Verdict{Allowed: true, Reset: most})
	holds(t, great, last, 0, 1, last, api.Verdict{Retry: most, Reset: most})
	if n := Ends(great, last); n != lastTick+most {
		t.Errorf("Ends: %d", n)
	}
	// As many hits as there may be, the first one about to go.
	full := api.Cell{At: lastTick, Hits: append([]api.Hit{{Tick: lastTick - most + 1, Weight: 1}}, ones(lastTick-14, 15)...)}
	holds(t, great, full, lastTick, 1, full, api.Verdict{Retry: 1, Reset: most})
	holds(t, great, full, lastTick, 2, full, api.Verdict{Retry: most - 14, Reset: most})
	holds(t, great, full, lastTick, 16, full, api.Verdict{Retry: most, Reset: most})
	one := exactOf(1, 1)
	holds(t, one, api.Cell{At: lastTick - 1, Hits: ones(lastTick-1, 1)}, lastTick, 1, api.Cell{At: lastTick, Hits: ones(lastTick, 1)}, api.Verdict{Allowed: true, Reset: 1})
	holds(t, one, api.Cell{At: lastTick, Hits: ones(lastTick, 1)}, lastTick, 1, api.Cell{At: lastTick, Hits: ones(lastTick, 1)}, api.Verdict{Retry: 1, Reset: 1})
}

// anyExact tells an Exact policy, of any greatness.
func anyExact(r *rand.Rand) api.Policy {
	return exactOf(1+r.Intn(16), 1+r.Intn(1<<r.Intn(21)))
}

// anyCell tells a cell that may be one of a policy.
func anyCell(r *rand.Rand, p api.Policy) api.Cell {
	at := p.Window + r.Intn(1<<39)
	in, left := log{}, p.Limit
	for range r.Intn(20) {
		weight := r.Intn(min(left, 3) + 1)
		if weight > 0 {
			in[at-r.Intn(p.Window)] += weight
		}
		left -= weight
	}
	return api.Cell{At: at, Hits: in.hits(p, at)}
}

// P13.2, P13.3, P5: Retry, Reset and Ends are the least ones, and Remaining the most that there is room for.
func TestLeastAndMost(t *testing.T) {
	r := rand.New(rand.NewSource(1))
	for range 2000 {
		p := anyExact(r)
		c := anyCell(r, p)
		for range 20 {
			now, w := c.At+r.Intn(p.Window/2+2)-1, 1+r.Intn(p.Limit+1)
			d, v := Ask(p, c, now, w)
			c = d
			if v.Allowed != (v.Retry == 0) || (v.Retry == api.Never) != (w > p.Limit) {
				t.Fatalf("Ask(%v, .., %d, %d): %v", p, now, w, v)
			}
			if v.Retry > 0 && v.Retry < api.Never {
				_, then := Ask(p, c, c.At+v.Retry, w)
				_, sooner := Ask(p, c, c.At+v.Retry-1, w)
				if !then.Allowed || sooner.Allowed {
					t.Fatalf("Retry of %v, %v, %d: %d", p, c, w, v.Retry)
				}
			}
			if v.Remaining > 0 {
				if _, more := Ask(p, c, c.At, v.Remaining); !more.Allowed || more.Remaining != 0 {
					t.Fatalf("Remaining of %v, %v: %d", p, c, v.Remaining)
				}
			}
			if _, more := Ask(p, c, c.At, v.Remaining+1); more.Allowed {
				t.Fatalf("Remaining of %v, %v: %d", p, c, v.Remaining)
			}
			end := Ends(p, c)
			if end != c.At+v.Reset || Total(p, c, end) != 0 || end > c.At && Total(p, c, end-1) == 0 {
				t.Fatalf("Ends(%v, %v): %d, Reset %d", p, c, end, v.Reset)
			}
		}
	}
}

// P13.4: from its Ends on a cell is as a new one.
func TestAsNew(t *testing.T) {
	r := rand.New(rand.NewSource(2))
	for range 3000 {
		p := anyExact(r)
		c := anyCell(r, p)
		w := 1 + r.Intn(p.Limit+1)
		for _, now := range []int{Ends(p, c), Ends(p, c) + 1, lastTick} {
			d, v := Ask(p, api.Cell{}, now, w)
			holds(t, p, c, now, w, d, v)
		}
	}
}

// P13.4, P1: in no Window of ticks is more let in than Limit, by all that was ever let in; P4: a clock that goes back stands still.
func TestNoMoreThanLimit(t *testing.T) {
	r := rand.New(rand.NewSource(3))
	for range 300 {
		p := exactOf(1+r.Intn(16), 1+r.Intn(30))
		c, in := api.Cell{}, log{}
		now, latest := 0, 0
		for range 60 {
			now = max(now+r.Intn(p.Window/4+4)-2, 0)
			latest = max(latest, now)
			w := 1 + r.Intn(p.Limit+1)
			if r.Intn(3) > 0 {
				w = 1
			}
			want, told := in.ask(p, latest, w)
			holds(t, p, c, now, w, want, told)
			c = want
			sum := 0
			for back := range p.Window {
				sum += in[latest-back]
			}
			if sum > p.Limit {
				t.Fatalf("%v: %d up to %d", p, sum, latest)
			}
		}
	}
}

// P13.2: whoever is refused leaves nothing, so that it is the same whether it asked.
func TestRefusedLeavesNothing(t *testing.T) {
	r := rand.New(rand.NewSource(4))
	for range 3000 {
		p := anyExact(r)
		c := anyCell(r, p)
		now := c.At + r.Intn(p.Window+1)
		d, v := Ask(p, c, now, 1+r.Intn(20))
		if v.Allowed {
			continue
		}
		later, w := now+r.Intn(p.Window+1), 1+r.Intn(p.Limit)
		want, told := Ask(p, c, later, w)
		holds(t, p, d, later, w, want, told)
	}
}

// R5: what is handed in is not changed, and what is answered is not changed by a later call.
func TestHandedInStays(t *testing.T) {
	p := exactOf(9, 10)
	// Behind the hits there is room in their memory, which is not the answer's to write into.
	memory := []api.Hit{{Tick: 20, Weight: 1}, {Tick: 25, Weight: 2}, {Tick: 99, Weight: 9}}
	before := slices.Clone(memory)
	sums := []int{7}
	c := api.Cell{At: 25, Sums: sums[:0], Hits: memory[:2]}
	for _, now := range []int{25, 26, 30} {
		d, v := Ask(p, c, now, 3)
		if !v.Allowed || !slices.Equal(memory, before) {
			t.Fatalf("at %d: %v", now, memory)
		}
		for i := range d.Hits {
			d.Hits[i].Weight = 100
		}
		_ = append(d.Hits, api.Hit{Tick: 100, Weight: 100})
		_ = append(d.Sums, 100)
		if !slices.Equal(memory, before) || sums[0] != 7 {
			t.Errorf("the answer at %d shares %v, %v", now, memory, sums)
		}
	}
	d, _ := Ask(p, c, 30, 3)
	kept := slices.Clone(d.Hits)
	Ask(p, d, 30, 1)
	Ask(p, d, 31, 1)
	Total(p, d, 45)
	Ends(p, d)
	if d.At != 30 || !slices.Equal(d.Hits, kept) {
		t.Errorf("a later call made %v of it", d)
	}
	// Two answers of one cell share nothing that the one would write and the other read.
	e, _ := Ask(p, d, 31, 1)
	f, _ := Ask(p, d, 32, 2)
	if e.Hits[len(e.Hits)-1] != (api.Hit{Tick: 31, Weight: 1}) || f.Hits[len(f.Hits)-1] != (api.Hit{Tick: 32, Weight: 2}) {
		t.Errorf("%v, %v", e, f)
	}
}
