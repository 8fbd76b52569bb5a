package gcra

import (
	"math"
	"math/rand"
	"reflect"
	"testing"

	"sandglass/api"
)

const lastTick = 1 << 40

var wrongTimes = []int{math.MinInt, -lastTick, -1, lastTick + 1, 1 << 41, math.MaxInt}

var wrongWeights = []int{math.MinInt, -1 << 20, -1, 0, 1<<20 + 1, 1 << 40, math.MaxInt}

func bucket(limit, window int) api.Policy {
	return api.Policy{Kind: api.Bucket, Limit: limit, Window: window}
}

// runOut tells what is left of a level after so many ticks, tick by tick.
func runOut(p api.Policy, level, ticks int) int {
	for ; ticks > 0 && level > 0; ticks-- {
		level = max(level-p.Limit, 0)
	}
	return level
}

// least tells the first number from 0 on of which is holds.
func least(is func(n int) bool) int {
	n := 0
	for !is(n) {
		n++
	}
	return n
}

// ask is P10.2 by its words alone, of arguments that may be.
func ask(p api.Policy, c api.Cell, t, w int) (api.Cell, api.Verdict) {
	t = max(t, c.At)
	l := runOut(p, c.Level, t-c.At)
	full := p.Limit * p.Window
	v := api.Verdict{}
	switch {
	case l+w*p.Window <= full:
		v.Allowed = true
		l += w * p.Window
	case w > p.Limit:
		v.Retry = 1 << 41
	default:
		v.Retry = least(func(n int) bool { return runOut(p, l, n)+w*p.Window <= full })
	}
	for l+(v.Remaining+1)*p.Window <= full {
		v.Remaining++
	}
	v.Reset = least(func(n int) bool { return runOut(p, l, n) == 0 })
	return api.Cell{At: t, Level: l}, v
}

// holds asks, and holds the answer against want.
func holds(t *testing.T, p api.Policy, c api.Cell, at, w int, want api.Cell, told api.Verdict) {
	t.Helper()
	d, v := Ask(p, c, at, w)
	if v != told || d.At != want.At || d.Level != want.Level || len(d.Sums) != 0 || len(d.Hits) != 0 {
		t.Fatalf("Ask(%v, %v, %d, %d): %v, %v, not %v, %v", p, c, at, w, d, v, want, told)
	}
	if !May(p, d) {
		t.Fatalf("May(%v, %v) of what came of a cell that may be", p, d)
	}
}

// P10.2: the chapter's example.
func TestExample(t *testing.T) {
	p := bucket(2, 10)
	c := api.Cell{}
	for i, x := range []struct {
		t, w int
		v    api.Verdict
	}{
		{7, 1, api.Verdict{Allowed: true, Remaining: 1, Reset: 5}},
		{7, 1, api.Verdict{Allowed: true, Reset: 10}},
		{7, 1, api.Verdict{Retry: 5, Reset: 10}},
		{11, 1, api.Verdict{Retry: 1, Reset: 6}},
		{12, 1, api.Verdict{Allowed: true, Reset: 10}},
	} {
		d, v := Ask(p, c, x.t, x.w)
		if v != x.v {
			t.Errorf("ask %d: %v", i, v)
		}
		c = d
	}
	if c.At != 12 || c.Level != 20 || Ends(p, c) != 22 {
		t.Errorf("%v ends at %d", c, Ends(p, c))
	}
}

// P10.1 to P10.3: all small policies, levels, times and weights, against the chapter's words, tick by tick.
func TestSmall(t *testing.T) {
	const at = 20
	for limit := 1; limit <= 5; limit++ {
		for window := 1; window <= 6; window++ {
			p := bucket(limit, window)
			for level := 0; level <= limit*window; level++ {
				c := api.Cell{At: at, Level: level}
				if !May(p, c) {
					t.Fatalf("May(%v, %v)", p, c)
				}
				if n := Ends(p, c); n != at+least(func(n int) bool { return runOut(p, level, n) == 0 }) {
					t.Fatalf("Ends(%v, %v): %d", p, c, n)
				}
				for now := at - 3; now <= at+window+3; now++ {
					if n := Level(p, c, now); n != runOut(p, level, now-at) {
						t.Fatalf("Level(%v, %v, %d): %d", p, c, now, n)
					}
					for w := 1; w <= limit+2; w++ {
						d, v := ask(p, c, now, w)
						holds(t, p, c, now, w, d, v)
					}
				}
			}
		}
	}
}

// P10.1: the edges of At and Level, and all that a cell may not have.
func TestMay(t *testing.T) {
	for _, p := range []api.Policy{bucket(1, 1), bucket(3, 10), bucket(1<<20, 1), bucket(1, 1<<20), bucket(1<<20, 1<<20)} {
		full := p.Limit * p.Window
		for _, c := range []api.Cell{
			{}, {At: lastTick}, {Level: full}, {At: lastTick, Level: full}, {At: 5, Level: 1}, {Sums: []int{}, Hits: []api.Hit{}},
		} {
			if !May(p, c) {
				t.Errorf("May(%v, %v)", p, c)
			}
		}
		for _, c := range wrongCells(p) {
			if May(p, c) {
				t.Errorf("May(%v, %v)", p, c)
			}
		}
	}
}

// wrongCells tells cells that may not be ones of a Bucket.
func wrongCells(p api.Policy) []api.Cell {
	full := p.Limit * p.Window
	cells := []api.Cell{
		{Level: full + 1}, {Level: -1}, {Level: math.MinInt}, {Level: math.MaxInt}, {At: 7, Level: -full},
		{Sums: []int{0}}, {At: 3, Level: 1, Sums: []int{1, 2}}, {Hits: []api.Hit{{}}}, {At: 3, Hits: []api.Hit{{Tick: 3, Weight: 1}}},
	}
	for _, at := range wrongTimes {
		cells = append(cells, api.Cell{At: at}, api.Cell{At: at, Level: 1})
	}
	return cells
}

// nothing holds Ask of something wrong against the cell itself and the zero verdict.
func nothing(t *testing.T, p api.Policy, c api.Cell, at, w int) {
	t.Helper()
	if d, v := Ask(p, c, at, w); v != (api.Verdict{}) || !reflect.DeepEqual(d, c) {
		t.Errorf("Ask(%v, %v, %d, %d): %v, %v", p, c, at, w, d, v)
	}
}

// P10.1 to P10.3: cells that may not be: the cell itself, and zero.
func TestWrongCells(t *testing.T) {
	for _, p := range []api.Policy{bucket(3, 10), bucket(1<<20, 1<<20)} {
		for _, c := range wrongCells(p) {
			for _, at := range []int{-1, 0, 1, 100, lastTick, lastTick + 1} {
				for _, w := range []int{0, 1, 3, 1 << 20} {
					nothing(t, p, c, at, w)
				}
				if n := Level(p, c, at); n != 0 {
					t.Errorf("Level(%v, %v, %d): %d", p, c, at, n)
				}
			}
			if n := Ends(p, c); n != 0 {
				t.Errorf("Ends(%v, %v): %d", p, c, n)
			}
		}
	}
}

// P10.1 to P10.3: policies that may not be, and those of other layers.
func TestWrongPolicies(t *testing.T) {
	for _, p := range []api.Policy{
		{}, {Kind: 5, Limit: 3, Window: 10}, {Kind: -1, Limit: 3, Window: 10},
		{Kind: api.Fixed, Limit: 3, Window: 10}, {Kind: api.Ring, Limit: 3, Window: 10, Buckets: 5}, {Kind: api.Exact, Limit: 3, Window: 10},
		bucket(0, 10), bucket(3, 0), bucket(-3, 10), bucket(3, -10), bucket(-3, -10), bucket(1<<20+1, 10), bucket(3, 1<<20+1),
		bucket(math.MaxInt, math.MaxInt), bucket(math.MinInt, math.MinInt), {Kind: api.Bucket, Limit: 3, Window: 10, Buckets: 1},
	} {
		for _, c := range []api.Cell{{}, {At: 9}, {At: 9, Level: 1}, {At: 9, Level: 30}, {At: -1, Level: -1}, {Sums: []int{1}}} {
			if May(p, c) || Ends(p, c) != 0 {
				t.Errorf("May, Ends of %v, %v", p, c)
			}
			for _, at := range []int{-1, 0, 9, 10, lastTick} {
				nothing(t, p, c, at, 1)
				if n := Level(p, c, at); n != 0 {
					t.Errorf("Level(%v, %v, %d): %d", p, c, at, n)
				}
			}
		}
	}
}

// P10.1, P10.2: times and weights that may not be, of a cell that may: the cell itself, also where t is above At.
func TestWrongAsks(t *testing.T) {
	p := bucket(3, 10)
	for _, c := range []api.Cell{{}, {At: 100, Level: 20}, {At: lastTick, Level: 30}, {At: 5, Level: 7, Sums: []int{}}} {
		for _, at := range wrongTimes {
			for _, w := range append([]int{1, 3, 4}, wrongWeights...) {
				nothing(t, p, c, at, w)
			}
			if n := Level(p, c, at); n != 0 {
				t.Errorf("Level(%v, %v, %d): %d", p, c, at, n)
			}
		}
		for _, w := range wrongWeights {
			for _, at := range []int{0, 100, 200, lastTick} {
				nothing(t, p, c, at, w)
			}
		}
	}
}

// P10.1 to P10.3: the greatest numbers, by hand; ticks go on beyond the last one.
func TestGreat(t *testing.T) {
	const most = 1 << 20
	great := bucket(most, most)
	full := api.Cell{At: lastTick, Level: most * most}
	holds(t, great, api.Cell{}, 0, most, api.Cell{Level: most * most}, api.Verdict{Allowed: true, Reset: most})
	holds(t, great, full, lastTick, most, full, api.Verdict{Retry: most, Reset: most})
	holds(t, great, full, 0, 1, full, api.Verdict{Retry: 1, Reset: most})
	holds(t, great, api.Cell{Level: most * most}, lastTick, most, full, api.Verdict{Allowed: true, Reset: most})
	if n := Ends(great, full); n != lastTick+most {
		t.Errorf("Ends: %d", n)
	}
	slow := bucket(1, most)
	drop := api.Cell{At: lastTick, Level: most}
	holds(t, slow, api.Cell{}, lastTick, 1, drop, api.Verdict{Allowed: true, Reset: most})
	holds(t, slow, drop, lastTick, 1, drop, api.Verdict{Retry: most, Reset: most})
	holds(t, slow, drop, lastTick, 2, drop, api.Verdict{Retry: api.Never, Reset: most})
	holds(t, slow, drop, lastTick, most, drop, api.Verdict{Retry: api.Never, Reset: most})
	if n := Ends(slow, drop); n != lastTick+most {
		t.Errorf("Ends: %d", n)
	}
	fast := bucket(most, 1)
	holds(t, fast, api.Cell{}, 0, most, api.Cell{Level: most}, api.Verdict{Allowed: true, Reset: 1})
	holds(t, fast, api.Cell{Level: most}, 0, 1, api.Cell{Level: most}, api.Verdict{Retry: 1, Reset: 1})
	holds(t, fast, api.Cell{Level: most}, 1, most, api.Cell{At: 1, Level: most}, api.Verdict{Allowed: true, Reset: 1})
	if n := Level(great, api.Cell{Level: most * most}, most-1); n != most {
		t.Errorf("Level one tick ahead of the end: %d", n)
	}
}

// anyBucket tells a Bucket, of any greatness.
func anyBucket(r *rand.Rand) api.Policy {
	return bucket(1+r.Intn(1<<r.Intn(21)), 1+r.Intn(1<<r.Intn(21)))
}

// anyTime tells a time at, ahead of or behind c's At, near it, or far.
func anyTime(r *rand.Rand, p api.Policy, c api.Cell) int {
	switch r.Intn(8) {
	case 0:
		return c.At
	case 1:
		return r.Intn(c.At + 1)
	case 2:
		return min(c.At+r.Intn(1<<30), lastTick)
	}
	return min(c.At+r.Intn(p.Window+2), lastTick)
}

// P10.2, P10.3, P5: Retry, Reset and Ends are the least ones, and Remaining the most that there is room for.
func TestLeastAndMost(t *testing.T) {
	r := rand.New(rand.NewSource(1))
	for range 3000 {
		p := anyBucket(r)
		c := api.Cell{At: r.Intn(1 << r.Intn(40))}
		for range 20 {
			now, w := anyTime(r, p, c), 1+r.Intn(min(p.Limit+2, 1<<20))
			d, v := Ask(p, c, now, w)
			c = d
			if c.At+1<<20 > lastTick {
				break
			}
			if v.Allowed != (v.Retry == 0) || (v.Retry == api.Never) != (w > p.Limit) {
				t.Fatalf("Ask(%v, .., %d, %d): %v", p, now, w, v)
			}
			if v.Retry > 0 && v.Retry < api.Never {
				_, then := Ask(p, c, c.At+v.Retry, w)
				_, sooner := Ask(p, c, c.At+v.Retry-1, w)
				if !then.Allowed || sooner.Allowed {
					t.Fatalf("Retry of %v, %v, %d: %d", p, c, w, v.Retry)
				}
			}
			if v.Remaining > 0 {
				if _, more := Ask(p, c, c.At, v.Remaining); !more.Allowed || more.Remaining != 0 {
					t.Fatalf("Remaining of %v, %v: %d", p, c, v.Remaining)
				}
			}
			if _, more := Ask(p, c, c.At, min(v.Remaining+1, 1<<20)); more.Allowed && v.Remaining < 1<<20 {
				t.Fatalf("Remaining of %v, %v: %d", p, c, v.Remaining)
			}
			end := Ends(p, c)
			if end != c.At+v.Reset || Level(p, c, end) != 0 || c.Level > 0 && Level(p, c, end-1) <= 0 || c.Level == 0 && end != c.At {
				t.Fatalf("Ends(%v, %v): %d, Reset %d", p, c, end, v.Reset)
			}
		}
	}
}

// P10.4: from its Ends on a cell is as a new one.
func TestAsNew(t *testing.T) {
	r := rand.New(rand.NewSource(2))
	for range 5000 {
		p := anyBucket(r)
		c := api.Cell{At: r.Intn(1 << 39), Level: r.Intn(p.Limit*p.Window + 1)}
		w := 1 + r.Intn(min(p.Limit+1, 1<<20))
		for _, now := range []int{Ends(p, c), Ends(p, c) + 1, lastTick} {
			d, v := Ask(p, api.Cell{}, now, w)
			holds(t, p, c, now, w, d, v)
		}
	}
}

// P10.4, P1: from any ask to any later one no more is let in than the Limit, and what runs out in between; P4: a clock that goes back stands still.
func TestNoMoreThanLimit(t *testing.T) {
	r := rand.New(rand.NewSource(3))
	for range 300 {
		p := bucket(1+r.Intn(12), 1+r.Intn(12))
		c := api.Cell{}
		now := 0
		var times, worth []int
		for range 60 {
			now = max(now+r.Intn(6)-2, 0)
			w := 1 + r.Intn(p.Limit+1)
			want, told := ask(p, c, max(now, c.At), w)
			holds(t, p, c, now, w, want, told)
			c = want
			times, worth = append(times, c.At), append(worth, 0)
			if told.Allowed {
				worth[len(worth)-1] = w * p.Window
			}
			sum := 0
			for i := len(times) - 1; i >= 0; i-- {
				sum += worth[i]
				if sum > p.Limit*p.Window+p.Limit*(c.At-times[i]) {
					t.Fatalf("%v: %d parts from %d to %d", p, sum, times[i], c.At)
				}
			}
		}
	}
}

// P10.2: whoever is refused leaves nothing, so that it is the same whether it asked.
func TestRefusedLeavesNothing(t *testing.T) {
	r := rand.New(rand.NewSource(4))
	for range 3000 {
		p := anyBucket(r)
		c := api.Cell{At: r.Intn(1 << 30), Level: r.Intn(p.Limit*p.Window + 1)}
		now := c.At + r.Intn(p.Window+1)
		d, v := Ask(p, c, now, 1+r.Intn(1<<20))
		if v.Allowed {
			continue
		}
		later, w := now+r.Intn(p.Window+1), 1+r.Intn(p.Limit)
		want, told := Ask(p, c, later, w)
		holds(t, p, d, later, w, want, told)
	}
}

// R5: what is handed in is not changed.
func TestHandedInStays(t *testing.T) {
	sums, hits := []int{4, 5}, []api.Hit{{Tick: 6, Weight: 7}}
	c := api.Cell{At: 1, Level: 2, Sums: sums[:0], Hits: hits[:0]}
	d, v := Ask(bucket(3, 10), c, 2, 1)
	if !v.Allowed || c.At != 1 || c.Level != 2 {
		t.Errorf("%v of %v: %v", d, c, v)
	}
	_, _ = append(d.Sums, 8), append(d.Hits, api.Hit{})
	if sums[0] != 4 || hits[0].Tick != 6 {
		t.Errorf("the answer shares %v, %v", sums, hits)
	}
}
