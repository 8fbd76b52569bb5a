package fixed

import (
	"math"
	"math/rand"
	"reflect"
	"testing"

	"sandglass/api"
)

const lastTick = 1 << 40

var wrongTimes = []int{math.MinInt, -lastTick, -1, lastTick + 1, 1 << 41, math.MaxInt}

var wrongWeights = []int{math.MinInt, -1 << 20, -1, 0, 1<<20 + 1, 1 << 40, math.MaxInt}

func fixedOf(limit, window int) api.Policy {
	return api.Policy{Kind: api.Fixed, Limit: limit, Window: window}
}

// toNext tells in how many ticks the next window begins, tick by tick.
func toNext(p api.Policy, t int) int {
	n := 1
	for (t+n)%p.Window != 0 {
		n++
	}
	return n
}

// totalOf is P11.1 by its words alone, of arguments that may be, tick by tick.
func totalOf(p api.Policy, c api.Cell, t int) int {
	if t < c.At || t < c.At+toNext(p, c.At) {
		return c.Level
	}
	return 0
}

// ask is P11.2 by its words alone, of arguments that may be.
func ask(p api.Policy, c api.Cell, t, w int) (api.Cell, api.Verdict) {
	t = max(t, c.At)
	n := totalOf(p, c, t)
	v := api.Verdict{}
	switch {
	case n+w <= p.Limit:
		v.Allowed = true
		n += w
	case w > p.Limit:
		v.Retry = 1 << 41
	default:
		v.Retry = toNext(p, t)
	}
	v.Remaining = p.Limit - n
	if n > 0 {
		v.Reset = toNext(p, t)
	}
	return api.Cell{At: t, Level: n}, v
}

// holds asks, and holds the answer against want.
func holds(t *testing.T, p api.Policy, c api.Cell, at, w int, want api.Cell, told api.Verdict) {
	t.Helper()
	d, v := Ask(p, c, at, w)
	if v != told || d.At != want.At || d.Level != want.Level || len(d.Sums) != 0 || len(d.Hits) != 0 {
		t.Fatalf("Ask(%v, %v, %d, %d): %v, %v, not %v, %v", p, c, at, w, d, v, want, told)
	}
	if !May(p, d) {
		t.Fatalf("May(%v, %v) of what came of a cell that may be", p, d)
	}
}

// P11.2: the chapter's example.
func TestExample(t *testing.T) {
	p := fixedOf(2, 10)
	c := api.Cell{}
	for i, x := range []struct {
		t, w int
		v    api.Verdict
	}{
		{18, 2, api.Verdict{Allowed: true, Reset: 2}},
		{19, 1, api.Verdict{Retry: 1, Reset: 1}},
		{20, 1, api.Verdict{Allowed: true, Remaining: 1, Reset: 10}},
		{20, 1, api.Verdict{Allowed: true, Reset: 10}},
		{20, 1, api.Verdict{Retry: 10, Reset: 10}},
	} {
		d, v := Ask(p, c, x.t, x.w)
		if v != x.v {
			t.Errorf("ask %d: %v", i, v)
		}
		c = d
	}
	if c.At != 20 || c.Level != 2 || Ends(p, c) != 30 {
		t.Errorf("%v ends at %d", c, Ends(p, c))
	}
}

// P11.1 to P11.3: all small policies, levels, times and weights, against the chapter's words, tick by tick.
func TestSmall(t *testing.T) {
	for limit := 1; limit <= 4; limit++ {
		for window := 1; window <= 6; window++ {
			p := fixedOf(limit, window)
			for at := range 2*window + 1 {
				for level := 0; level <= limit; level++ {
					smallCell(t, p, api.Cell{At: at, Level: level})
				}
			}
		}
	}
}

// smallCell holds all calls of a cell that may be against the chapter's words.
func smallCell(t *testing.T, p api.Policy, c api.Cell) {
	t.Helper()
	if !May(p, c) {
		t.Fatalf("May(%v, %v)", p, c)
	}
	end := c.At
	if c.Level > 0 {
		end += toNext(p, c.At)
	}
	if n := Ends(p, c); n != end {
		t.Fatalf("Ends(%v, %v): %d", p, c, n)
	}
	for now := range c.At + 3*p.Window {
		if n := Total(p, c, now); n != totalOf(p, c, now) {
			t.Fatalf("Total(%v, %v, %d): %d", p, c, now, n)
		}
		for w := 1; w <= p.Limit+2; w++ {
			d, v := ask(p, c, now, w)
			holds(t, p, c, now, w, d, v)
		}
	}
}

// P11.1: the edges of At and Level, and all that a cell may not have.
func TestMay(t *testing.T) {
	for _, p := range []api.Policy{fixedOf(1, 1), fixedOf(3, 10), fixedOf(1<<20, 1), fixedOf(1, 1<<20), fixedOf(1<<20, 1<<20)} {
		for _, c := range []api.Cell{
			{}, {At: lastTick}, {Level: p.Limit}, {At: lastTick, Level: p.Limit}, {At: 5, Level: 1}, {Sums: []int{}, Hits: []api.Hit{}},
		} {
			if !May(p, c) {
				t.Errorf("May(%v, %v)", p, c)
			}
		}
		for _, c := range wrongCells(p) {
			if May(p, c) {
				t.Errorf("May(%v, %v)", p, c)
			}
		}
	}
}

// wrongCells tells cells that may not be ones of a Fixed policy.
func wrongCells(p api.Policy) []api.Cell {
	cells := []api.Cell{
		{Level: p.Limit + 1}, {Level: -1}, {Level: math.MinInt}, {Level: math.MaxInt}, {At: 7, Level: -p.Limit},
		{Sums: []int{0}}, {At: 3, Level: 1, Sums: []int{1, 2}}, {Hits: []api.Hit{{}}}, {At: 3, Hits: []api.Hit{{Tick: 3, Weight: 1}}},
	}
	for _, at := range wrongTimes {
		cells = append(cells, api.Cell{At: at}, api.Cell{At: at, Level: 1})
	}
	return cells
}

// nothing holds Ask of something wrong against the cell itself and the zero verdict.
func nothing(t *testing.T, p api.Policy, c api.Cell, at, w int) {
	t.Helper()
	if d, v := Ask(p, c, at, w); v != (api.Verdict{}) || !reflect.DeepEqual(d, c) {
		t.Errorf("Ask(%v, %v, %d, %d): %v, %v", p, c, at, w, d, v)
	}
}

// P11.1 to P11.3: cells that may not be: the cell itself, and zero.
func TestWrongCells(t *testing.T) {
	for _, p := range []api.Policy{fixedOf(3, 10), fixedOf(1<<20, 1<<20)} {
		for _, c := range wrongCells(p) {
			for _, at := range []int{-1, 0, 1, 100, lastTick, lastTick + 1} {
				for _, w := range []int{0, 1, 3, 1 << 20} {
					nothing(t, p, c, at, w)
				}
				if n := Total(p, c, at); n != 0 {
					t.Errorf("Total(%v, %v, %d): %d", p, c, at, n)
				}
			}
			if n := Ends(p, c); n != 0 {
				t.Errorf("Ends(%v, %v): %d", p, c, n)
			}
		}
	}
}

// P11.1 to P11.3: policies that may not be, and those of other layers.
func TestWrongPolicies(t *testing.T) {
	for _, p := range []api.Policy{
		{}, {Kind: 5, Limit: 3, Window: 10}, {Kind: -1, Limit: 3, Window: 10},
		{Kind: api.Bucket, Limit: 3, Window: 10}, {Kind: api.Ring, Limit: 3, Window: 10, Buckets: 5}, {Kind: api.Exact, Limit: 3, Window: 10},
		fixedOf(0, 10), fixedOf(3, 0), fixedOf(-3, 10), fixedOf(3, -10), fixedOf(-3, -10), fixedOf(1<<20+1, 10), fixedOf(3, 1<<20+1),
		fixedOf(math.MaxInt, math.MaxInt), fixedOf(math.MinInt, math.MinInt), {Kind: api.Fixed, Limit: 3, Window: 10, Buckets: 1},
	} {
		for _, c := range []api.Cell{{}, {At: 9}, {At: 9, Level: 1}, {At: 9, Level: 3}, {At: -1, Level: -1}, {Sums: []int{1}}} {
			if May(p, c) || Ends(p, c) != 0 {
				t.Errorf("May, Ends of %v, %v", p, c)
			}
			for _, at := range []int{-1, 0, 9, 10, lastTick} {
				nothing(t, p, c, at, 1)
				if n := Total(p, c, at); n != 0 {
					t.Errorf("Total(%v, %v, %d): %d", p, c, at, n)
				}
			}
		}
	}
}

// P11.1, P11.2: times and weights that may not be, of a cell that may: the cell itself, also where t is above At.
func TestWrongAsks(t *testing.T) {
	p := fixedOf(3, 10)
	for _, c := range []api.Cell{{}, {At: 100, Level: 2}, {At: lastTick, Level: 3}, {At: 5, Level: 1, Sums: []int{}}} {
		for _, at := range wrongTimes {
			for _, w := range append([]int{1, 3, 4}, wrongWeights...) {
				nothing(t, p, c, at, w)
			}
			if n := Total(p, c, at); n != 0 {
				t.Errorf("Total(%v, %v, %d): %d", p, c, at, n)
			}
		}
		for _, w := range wrongWeights {
			for _, at := range []int{0, 100, 200, lastTick} {
				nothing(t, p, c, at, w)
			}
		}
	}
}

// P11.1 to P11.3: the greatest numbers, by hand; ticks go on beyond the last one.
func TestGreat(t *testing.T) {
	const most = 1 << 20
	great := fixedOf(most, most)
	full := api.Cell{At: lastTick, Level: most}
	holds(t, great, api.Cell{}, 0, most, api.Cell{Level: most}, api.Verdict{Allowed: true, Reset: most})
	holds(t, great, api.Cell{Level: most}, most-1, 1, api.Cell{At: most - 1, Level: most}, api.Verdict{Retry: 1, Reset: 1})
	holds(t, great, api.Cell{Level: most}, most, most, api.Cell{At: most, Level: most}, api.Verdict{Allowed: true, Reset: most})
	// The last tick is the first one of a window here, as it is a multiple of Window.
	holds(t, great, api.Cell{At: lastTick - 1, Level: most}, lastTick, most, full, api.Verdict{Allowed: true, Reset: most})
	holds(t, great, full, lastTick, most, full, api.Verdict{Retry: most, Reset: most})
	holds(t, great, full, 0, 1, full, api.Verdict{Retry: most, Reset: most})
	if n := Ends(great, full); n != lastTick+most {
		t.Errorf("Ends: %d", n)
	}
	odd := fixedOf(1, most-1)
	// 2^40 is 2^20 + 1 windows of 2^20 - 1 ticks, and one tick more.
	holds(t, odd, api.Cell{}, lastTick, 1, api.Cell{At: lastTick, Level: 1}, api.Verdict{Allowed: true, Reset: most - 2})
	holds(t, odd, api.Cell{At: lastTick - 1, Level: 1}, lastTick, most, api.Cell{At: lastTick, Level: 1}, api.Verdict{Retry: api.Never, Reset: most - 2})
	holds(t, odd, api.Cell{At: lastTick - 2, Level: 1}, lastTick, 2, api.Cell{At: lastTick}, api.Verdict{Remaining: 1, Retry: api.Never})
	if n := Ends(odd, api.Cell{At: lastTick, Level: 1}); n != lastTick+most-2 {
		t.Errorf("Ends: %d", n)
	}
	if n := Ends(odd, api.Cell{At: lastTick}); n != lastTick {
		t.Errorf("Ends of a cell in which nothing counts: %d", n)
	}
	each := fixedOf(most, 1)
	holds(t, each, api.Cell{}, 0, most, api.Cell{Level: most}, api.Verdict{Allowed: true, Reset: 1})
	holds(t, each, api.Cell{Level: most}, 0, 1, api.Cell{Level: most}, api.Verdict{Retry: 1, Reset: 1})
	holds(t, each, api.Cell{Level: most}, 1, most, api.Cell{At: 1, Level: most}, api.Verdict{Allowed: true, Reset: 1})
}

// anyFixed tells a Fixed policy, of any greatness.
func anyFixed(r *rand.Rand) api.Policy {
	return fixedOf(1+r.Intn(1<<r.Intn(21)), 1+r.Intn(1<<r.Intn(21)))
}

// P11.2, P11.3, P5: Retry, Reset and Ends are the least ones, and Remaining the most that there is room for.
func TestLeastAndMost(t *testing.T) {
	r := rand.New(rand.NewSource(1))
	for range 3000 {
		p := anyFixed(r)
		c := api.Cell{At: r.Intn(1 << r.Intn(40))}
		for range 20 {
			now, w := c.At+r.Intn(p.Window/2+2)-1, 1+r.Intn(min(p.Limit+1, 1<<20))
			d, v := Ask(p, c, max(now, 0), w)
			c = d
			if v.Allowed != (v.Retry == 0) || (v.Retry == api.Never) != (w > p.Limit) {
				t.Fatalf("Ask(%v, .., %d, %d): %v", p, now, w, v)
			}
			if v.Retry > 0 && v.Retry < api.Never {
				_, then := Ask(p, c, c.At+v.Retry, w)
				_, sooner := Ask(p, c, c.At+v.Retry-1, w)
				if !then.Allowed || sooner.Allowed {
					t.Fatalf("Retry of %v, %v, %d: %d", p, c, w, v.Retry)
				}
			}
			if v.Remaining > 0 {
				if _, more := Ask(p, c, c.At, v.Remaining); !more.Allowed || more.Remaining != 0 {
					t.Fatalf("Remaining of %v, %v: %d", p, c, v.Remaining)
				}
			}
			if _, more := Ask(p, c, c.At, min(v.Remaining+1, 1<<20)); more.Allowed && v.Remaining < 1<<20 {
				t.Fatalf("Remaining of %v, %v: %d", p, c, v.Remaining)
			}
			end := Ends(p, c)
			if end != c.At+v.Reset || Total(p, c, end) != 0 || c.Level > 0 && Total(p, c, end-1) == 0 || c.Level == 0 && end != c.At {
				t.Fatalf("Ends(%v, %v): %d, Reset %d", p, c, end, v.Reset)
			}
		}
	}
}

// P11.4: from its Ends on a cell is as a new one.
func TestAsNew(t *testing.T) {
	r := rand.New(rand.NewSource(2))
	for range 5000 {
		p := anyFixed(r)
		c := api.Cell{At: r.Intn(1 << 39), Level: r.Intn(p.Limit + 1)}
		w := 1 + r.Intn(min(p.Limit+1, 1<<20))
		for _, now := range []int{Ends(p, c), Ends(p, c) + 1, lastTick} {
			d, v := Ask(p, api.Cell{}, now, w)
			holds(t, p, c, now, w, d, v)
		}
	}
}

// P11.4, P1: in no window is more let in than Limit, by all that was ever let in; P4: a clock that goes back stands still.
func TestNoMoreThanLimit(t *testing.T) {
	r := rand.New(rand.NewSource(3))
	for range 300 {
		p := fixedOf(1+r.Intn(12), 1+r.Intn(12))
		c := api.Cell{}
		now, latest := 0, 0
		in := map[int]int{}
		for range 60 {
			now = max(now+r.Intn(6)-2, 0)
			latest = max(latest, now)
			w := 1 + r.Intn(p.Limit+1)
			d, v := Ask(p, c, now, w)
			number := latest / p.Window
			if v.Allowed != (in[number]+w <= p.Limit) {
				t.Fatalf("%v: %d at %d (%d) on top of %d: %v", p, w, now, latest, in[number], v)
			}
			if v.Allowed {
				in[number] += w
			}
			if d.At != latest || d.Level != in[number] || v.Remaining != p.Limit-in[number] || in[number] > p.Limit {
				t.Fatalf("%v: %v, %v where %d were let in", p, d, v, in[number])
			}
			c = d
		}
	}
}

// P11.2: whoever is refused leaves nothing, so that it is the same whether it asked.
func TestRefusedLeavesNothing(t *testing.T) {
	r := rand.New(rand.NewSource(4))
	for range 3000 {
		p := anyFixed(r)
		c := api.Cell{At: r.Intn(1 << 30), Level: r.Intn(p.Limit + 1)}
		now := c.At + r.Intn(p.Window+1)
		d, v := Ask(p, c, now, 1+r.Intn(1<<20))
		if v.Allowed {
			continue
		}
		later, w := now+r.Intn(p.Window+1), 1+r.Intn(p.Limit)
		want, told := Ask(p, c, later, w)
		holds(t, p, d, later, w, want, told)
	}
}

// R5: what is handed in is not changed.
func TestHandedInStays(t *testing.T) {
	sums, hits := []int{4, 5}, []api.Hit{{Tick: 6, Weight: 7}}
	c := api.Cell{At: 1, Level: 2, Sums: sums[:0], Hits: hits[:0]}
	d, v := Ask(fixedOf(3, 10), c, 2, 1)
	if !v.Allowed || c.At != 1 || c.Level != 2 {
		t.Errorf("%v of %v: %v", d, c, v)
	}
	_, _ = append(d.Sums, 8), append(d.Hits, api.Hit{})
	if sums[0] != 4 || hits[0].Tick != 6 {
		t.Errorf("the answer shares %v, %v", sums, hits)
	}
}
