package ring

import (
	"math"
	"math/rand"
	"reflect"
	"slices"
	"testing"

	"sandglass/api"
)

const lastTick = 1 << 40

var wrongTimes = []int{math.MinInt, -lastTick, -1, lastTick + 1, 1 << 41, math.MaxInt}

var wrongWeights = []int{math.MinInt, -1 << 20, -1, 0, 1<<20 + 1, 1 << 40, math.MaxInt}

// ringOf tells a Ring of so many buckets, of so many ticks each.
func ringOf(limit, buckets, slot int) api.Policy {
	return api.Policy{Kind: api.Ring, Limit: limit, Window: buckets * slot, Buckets: buckets}
}

// log is all that was ever let in, by the numbers of the buckets.
type log map[int]int

// logOf tells what a cell's Sums mean: at each place the last bucket of that place, up to that of At.
func logOf(p api.Policy, c api.Cell) log {
	in := log{}
	slot := p.Window / p.Buckets
	for i, sum := range c.Sums {
		for number := c.At / slot; number >= 0; number-- {
			if number%p.Buckets == i {
				in[number] = sum
				break
			}
		}
	}
	return in
}

// counts tells what counts at t: the bucket of t, and the Buckets - 1 ahead of it.
func (in log) counts(p api.Policy, t int) int {
	n := 0
	for back := range p.Buckets {
		n += in[t/(p.Window/p.Buckets)-back]
	}
	return n
}

// least tells the first number from 0 on of which is holds.
func least(is func(n int) bool) int {
	n := 0
	for !is(n) {
		n++
	}
	return n
}

// ask is P12.2 by its words alone, of what was ever let in; t is not below any time in it. If it is let in, the log has it then.
func (in log) ask(p api.Policy, t, w int) (api.Cell, api.Verdict) {
	slot := p.Window / p.Buckets
	v := api.Verdict{}
	switch {
	case in.counts(p, t)+w <= p.Limit:
		v.Allowed = true
		in[t/slot] += w
	case w > p.Limit:
		v.Retry = 1 << 41
	default:
		v.Retry = least(func(n int) bool { return in.counts(p, t+n)+w <= p.Limit })
	}
	v.Remaining = p.Limit - in.counts(p, t)
	v.Reset = least(func(n int) bool { return in.counts(p, t+n) == 0 })
	sums := make([]int, p.Buckets)
	for back := range p.Buckets {
		if number := t/slot - back; number >= 0 {
			sums[number%p.Buckets] = in[number]
		}
	}
	return api.Cell{At: t, Sums: sums}, v
}

// holds asks, and holds the answer against want.
func holds(t *testing.T, p api.Policy, c api.Cell, at, w int, want api.Cell, told api.Verdict) {
	t.Helper()
	d, v := Ask(p, c, at, w)
	if v != told || d.At != want.At || d.Level != 0 || !slices.Equal(d.Sums, want.Sums) || len(d.Hits) != 0 {
		t.Fatalf("Ask(%v, %v, %d, %d): %v, %v, not %v, %v", p, c, at, w, d, v, want, told)
	}
	if !May(p, d) {
		t.Fatalf("May(%v, %v) of what came of a cell that may be", p, d)
	}
}

// P12.2: the chapter's example.
func TestExample(t *testing.T) {
	p := ringOf(2, 3, 10)
	c := api.Cell{}
	for i, x := range []struct {
		t, w int
		v    api.Verdict
		sums []int
	}{
		{5, 1, api.Verdict{Allowed: true, Remaining: 1, Reset: 25}, []int{1, 0, 0}},
		{5, 1, api.Verdict{Allowed: true, Reset: 25}, []int{2, 0, 0}},
		{29, 1, api.Verdict{Retry: 1, Reset: 1}, []int{2, 0, 0}},
		{30, 1, api.Verdict{Allowed: true, Remaining: 1, Reset: 30}, []int{1, 0, 0}},
		{30, 1, api.Verdict{Allowed: true, Reset: 30}, []int{2, 0, 0}},
		{45, 3, api.Verdict{Retry: api.Never, Reset: 15}, []int{2, 0, 0}},
		{60, 3, api.Verdict{Remaining: 2, Retry: api.Never}, []int{0, 0, 0}},
	} {
		d, v := Ask(p, c, x.t, x.w)
		if v != x.v || !slices.Equal(d.Sums, x.sums) {
			t.Errorf("ask %d: %v, %v", i, d, v)
		}
		c = d
	}
}

// allSums hands all lists of so many numbers to do that are at most limit together.
func allSums(buckets, limit int, do func(sums []int)) {
	sums := make([]int, buckets)
	var fill func(i, left int)
	fill = func(i, left int) {
		if i == buckets {
			do(slices.Clone(sums))
			return
		}
		for sums[i] = 0; sums[i] <= left; sums[i]++ {
			fill(i+1, left-sums[i])
		}
	}
	fill(0, limit)
}

// P12.1 to P12.3: all small policies, cells, times and weights, against the chapter's words, tick by tick.
func TestSmall(t *testing.T) {
	for _, p := range []api.Policy{
		ringOf(1, 1, 1), ringOf(3, 1, 4), ringOf(2, 2, 1), ringOf(3, 2, 3), ringOf(2, 3, 2), ringOf(4, 3, 1), ringOf(2, 4, 2), ringOf(1, 5, 1),
	} {
		for at := range 2*p.Window + 2 {
			smallCell(t, p, api.Cell{At: at})
			allSums(p.Buckets, p.Limit, func(sums []int) {
				c := api.Cell{At: at, Sums: sums}
				// What stands at a place that had no bucket yet may not be.
				may := true
				for i, sum := range sums {
					may = may && (sum == 0 || i <= at/(p.Window/p.Buckets))
				}
				if May(p, c) != may {
					t.Fatalf("May(%v, %v)", p, c)
				}
				if may {
					smallCell(t, p, c)
				}
			})
		}
	}
}

// smallCell holds all calls of a cell that may be against the chapter's words.
func smallCell(t *testing.T, p api.Policy, c api.Cell) {
	t.Helper()
	if !May(p, c) {
		t.Fatalf("May(%v, %v)", p, c)
	}
	in := logOf(p, c)
	if n := Ends(p, c); n != c.At+least(func(n int) bool { return in.counts(p, c.At+n) == 0 }) {
		t.Fatalf("Ends(%v, %v): %d", p, c, n)
	}
	for now := max(c.At-p.Window-1, 0); now <= c.At+p.Window+1; now++ {
		if n := Total(p, c, now); n != in.counts(p, max(now, c.At)) {
			t.Fatalf("Total(%v, %v, %d): %d", p, c, now, n)
		}
		for w := 1; w <= p.Limit+2; w++ {
			d, v := logOf(p, c).ask(p, max(now, c.At), w)
			holds(t, p, c, now, w, d, v)
		}
	}
}

// P12.1: the edges of At and Sums, and all that a cell may not have.
func TestMay(t *testing.T) {
	for _, p := range []api.Policy{ringOf(1, 1, 1), ringOf(3, 4, 10), ringOf(1<<20, 16, 1), ringOf(1, 1, 1<<20), ringOf(1<<20, 16, 1<<16)} {
		full := make([]int, p.Buckets)
		full[0] = p.Limit
		last := make([]int, p.Buckets)
		last[p.Buckets-1] = p.Limit
		begins := (p.Buckets - 1) * (p.Window / p.Buckets)
		for _, c := range []api.Cell{
			{}, {At: lastTick}, {Sums: make([]int, p.Buckets)}, {Sums: full}, {At: lastTick, Sums: full}, {At: begins, Sums: last}, {At: lastTick, Sums: last},
			{Sums: []int{}, Hits: []api.Hit{}}, {At: lastTick, Sums: slices.Clone(full), Hits: []api.Hit{}},
		} {
			if !May(p, c) {
				t.Errorf("May(%v, %v)", p, c)
			}
		}
		if c := (api.Cell{At: begins - 1, Sums: last}); May(p, c) {
			t.Errorf("May(%v, %v): its last bucket has not begun", p, c)
		}
		for _, c := range wrongCells(p) {
			if May(p, c) {
				t.Errorf("May(%v, %v)", p, c)
			}
		}
	}
}

// wrongCells tells cells that may not be ones of a Ring.
func wrongCells(p api.Policy) []api.Cell {
	const late = 1 << 30
	with := func(i, sum int) []int {
		sums := make([]int, p.Buckets)
		sums[i] = sum
		return sums
	}
	cells := []api.Cell{
		{Level: 1}, {Level: -1}, {Level: math.MaxInt}, {At: late, Level: 1, Sums: make([]int, p.Buckets)},
		{Hits: []api.Hit{{}}}, {At: late, Sums: make([]int, p.Buckets), Hits: []api.Hit{{Tick: 3, Weight: 1}}},
		{At: late, Sums: make([]int, p.Buckets+1)}, {At: late, Sums: make([]int, 1000)},
	}
	if p.Buckets > 1 {
		cells = append(cells, api.Cell{At: late, Sums: make([]int, p.Buckets-1)}, api.Cell{At: late, Sums: []int{0}}, api.Cell{Sums: with(p.Buckets-1, 1)})
		both := with(0, p.Limit)
		both[p.Buckets-1] = 1
		cells = append(cells, api.Cell{At: late, Sums: both})
		// Sums that pass 64 bits together, and would be small again, or that would even out.
		cells = append(cells, api.Cell{At: late, Sums: append(with(0, math.MaxInt)[:p.Buckets-1], math.MaxInt)}, api.Cell{At: late, Sums: append(with(0, -1)[:p.Buckets-1], 1)})
	}
	for i := range p.Buckets {
		for _, sum := range []int{p.Limit + 1, -1, math.MinInt, math.MaxInt} {
			cells = append(cells, api.Cell{At: late, Sums: with(i, sum)})
		}
	}
	if p.Buckets >= 4 {
		round := make([]int, p.Buckets)
		for i := range 4 {
			round[i] = 1 << 62
		}
		cells = append(cells, api.Cell{At: late, Sums: round})
	}
	for _, at := range wrongTimes {
		cells = append(cells, api.Cell{At: at}, api.Cell{At: at, Sums: make([]int, p.Buckets)}, api.Cell{At: at, Sums: with(0, 1)})
	}
	return cells
}

// nothing holds Ask of something wrong against the cell itself and the zero verdict.
func nothing(t *testing.T, p api.Policy, c api.Cell, at, w int) {
	t.Helper()
	if d, v := Ask(p, c, at, w); v != (api.Verdict{}) || !reflect.DeepEqual(d, c) {
		t.Errorf("Ask(%v, %v, %d, %d): %v, %v", p, c, at, w, d, v)
	}
}

// P12.1 to P12.3: cells that may not be: the cell itself, and zero.
func TestWrongCells(t *testing.T) {
	for _, p := range []api.Policy{ringOf(3, 1, 10), ringOf(3, 4, 10), ringOf(1<<20, 16, 1<<16)} {
		for _, c := range wrongCells(p) {
			for _, at := range []int{-1, 0, 1, 100, lastTick, lastTick + 1} {
				for _, w := range []int{0, 1, 3, 1 << 20} {
					nothing(t, p, c, at, w)
				}
				if n := Total(p, c, at); n != 0 {
					t.Errorf("Total(%v, %v, %d): %d", p, c, at, n)
				}
			}
			if n := Ends(p, c); n != 0 {
				t.Errorf("Ends(%v, %v): %d", p, c, n)
			}
		}
	}
}

// P12.1 to P12.3: policies that may not be, and those of other layers.
func TestWrongPolicies(t *testing.T) {
	for _, p := range []api.Policy{
		{}, {Kind: 5, Limit: 3, Window: 10}, {Kind: -1, Limit: 3, Window: 10, Buckets: 2},
		{Kind: api.Bucket, Limit: 3, Window: 10}, {Kind: api.Fixed, Limit: 3, Window: 10}, {Kind: api.Exact, Limit: 3, Window: 10},
		ringOf(0, 2, 5), ringOf(3, 0, 5), ringOf(3, 2, 0), ringOf(-3, 2, 5), ringOf(3, -2, 5), ringOf(3, -2, -5), ringOf(3, 17, 1), ringOf(3, 16, 1<<16+1), ringOf(1<<20+1, 2, 5),
		{Kind: api.Ring, Limit: 3, Window: 10}, {Kind: api.Ring, Limit: 3, Window: 10, Buckets: 3}, {Kind: api.Ring, Limit: 3, Window: 1, Buckets: 2},
		{Kind: api.Ring, Limit: math.MaxInt, Window: math.MaxInt, Buckets: math.MaxInt}, {Kind: api.Ring, Limit: math.MinInt, Window: math.MinInt, Buckets: -1},
	} {
		for _, c := range []api.Cell{{}, {At: 9}, {At: 9, Sums: []int{1, 2}}, {At: 9, Sums: []int{0, 0, 0}}, {At: -1, Level: -1}, {Sums: []int{1}}} {
			if May(p, c) || Ends(p, c) != 0 {
				t.Errorf("May, Ends of %v, %v", p, c)
			}
			for _, at := range []int{-1, 0, 9, 10, lastTick} {
				nothing(t, p, c, at, 1)
				if n := Total(p, c, at); n != 0 {
					t.Errorf("Total(%v, %v, %d): %d", p, c, at, n)
				}
			}
		}
	}
}

// P12.1, P12.2: times and weights that may not be, of a cell that may: the cell itself, also where t is above At.
func TestWrongAsks(t *testing.T) {
	p := ringOf(3, 2, 5)
	for _, c := range []api.Cell{{}, {At: 100, Sums: []int{1, 2}}, {At: lastTick, Sums: []int{0, 3}}, {At: 5, Sums: []int{}}} {
		for _, at := range wrongTimes {
			for _, w := range append([]int{1, 3, 4}, wrongWeights...) {
				nothing(t, p, c, at, w)
			}
			if n := Total(p, c, at); n != 0 {
				t.Errorf("Total(%v, %v, %d): %d", p, c, at, n)
			}
		}
		for _, w := range wrongWeights {
			for _, at := range []int{0, 100, 200, lastTick} {
				nothing(t, p, c, at, w)
			}
		}
	}
}

// P12.1 to P12.3: the greatest numbers, by hand; ticks go on beyond the last one.
func TestGreat(t *testing.T) {
	const most, slot = 1 << 20, 1 << 16
	great := ringOf(most, 16, slot)
	// The last tick is the first one of a bucket that stands at place 0, as it is a multiple of Window.
	first := append([]int{most}, make([]int, 15)...)
	holds(t, great, api.Cell{}, 0, most, api.Cell{Sums: first}, api.Verdict{Allowed: true, Reset: most})
	holds(t, great, api.Cell{Sums: first}, most-1, 1, api.Cell{At: most - 1, Sums: first}, api.Verdict{Retry: 1, Reset: 1})
	holds(t, great, api.Cell{Sums: first}, most, most, api.Cell{At: most, Sums: first}, api.Verdict{Allowed: true, Reset: most})
	holds(t, great, api.Cell{}, lastTick, most, api.Cell{At: lastTick, Sums: first}, api.Verdict{Allowed: true, Reset: most})
	holds(t, great, api.Cell{At: lastTick, Sums: first}, 0, 1, api.Cell{At: lastTick, Sums: first}, api.Verdict{Retry: most, Reset: most})
	if n := Ends(great, api.Cell{At: lastTick, Sums: first}); n != lastTick+most {
		t.Errorf("Ends: %d", n)
	}
	// The eldest bucket at the last tick stands at place 1: it goes first.
	even := slices.Repeat([]int{slot}, 16)
	full := api.Cell{At: lastTick, Sums: even}
	holds(t, great, full, lastTick, slot, full, api.Verdict{Retry: slot, Reset: most})
	holds(t, great, full, lastTick, slot+1, full, api.Verdict{Retry: 2 * slot, Reset: most})
	holds(t, great, full, lastTick, most, full, api.Verdict{Retry: most, Reset: most})
	one := ringOf(1, 1, most)
	holds(t, one, api.Cell{}, lastTick, 1, api.Cell{At: lastTick, Sums: []int{1}}, api.Verdict{Allowed: true, Reset: most})
	holds(t, one, api.Cell{At: lastTick, Sums: []int{1}}, lastTick, most, api.Cell{At: lastTick, Sums: []int{1}}, api.Verdict{Retry: api.Never, Reset: most})
	holds(t, one, api.Cell{At: lastTick - 1, Sums: []int{1}}, lastTick, 1, api.Cell{At: lastTick, Sums: []int{1}}, api.Verdict{Allowed: true, Reset: most})
}

// anyRing tells a Ring, of any greatness.
func anyRing(r *rand.Rand) api.Policy {
	buckets := 1 + r.Intn(16)
	return ringOf(1+r.Intn(1<<r.Intn(21)), buckets, 1+r.Intn(1<<r.Intn(17)))
}

// anyCell tells a cell that may be one of a Ring, of a time at which all places have had a bucket.
func anyCell(r *rand.Rand, p api.Policy) api.Cell {
	c := api.Cell{At: p.Window + r.Intn(1<<39), Sums: make([]int, p.Buckets)}
	left := p.Limit
	for range r.Intn(2 * p.Buckets) {
		sum := r.Intn(left + 1)
		c.Sums[r.Intn(p.Buckets)] += sum
		left -= sum
	}
	return c
}

// P12.2, P12.3, P5: Retry, Reset and Ends are the least ones, and Remaining the most that there is room for.
func TestLeastAndMost(t *testing.T) {
	r := rand.New(rand.NewSource(1))
	for range 2000 {
		p := anyRing(r)
		c := anyCell(r, p)
		for range 20 {
			now, w := c.At+r.Intn(p.Window/2+2)-1, 1+r.Intn(min(p.Limit+1, 1<<20))
			d, v := Ask(p, c, now, w)
			c = d
			if v.Allowed != (v.Retry == 0) || (v.Retry == api.Never) != (w > p.Limit) {
				t.Fatalf("Ask(%v, .., %d, %d): %v", p, now, w, v)
			}
			if v.Retry > 0 && v.Retry < api.Never {
				_, then := Ask(p, c, c.At+v.Retry, w)
				_, sooner := Ask(p, c, c.At+v.Retry-1, w)
				if !then.Allowed || sooner.Allowed {
					t.Fatalf("Retry of %v, %v, %d: %d", p, c, w, v.Retry)
				}
			}
			if v.Remaining > 0 {
				if _, more := Ask(p, c, c.At, v.Remaining); !more.Allowed || more.Remaining != 0 {
					t.Fatalf("Remaining of %v, %v: %d", p, c, v.Remaining)
				}
			}
			if _, more := Ask(p, c, c.At, min(v.Remaining+1, 1<<20)); more.Allowed && v.Remaining < 1<<20 {
				t.Fatalf("Remaining of %v, %v: %d", p, c, v.Remaining)
			}
			end := Ends(p, c)
			if end != c.At+v.Reset || Total(p, c, end) != 0 || end > c.At && Total(p, c, end-1) == 0 {
				t.Fatalf("Ends(%v, %v): %d, Reset %d", p, c, end, v.Reset)
			}
		}
	}
}

// P12.4: from its Ends on a cell is as a new one.
func TestAsNew(t *testing.T) {
	r := rand.New(rand.NewSource(2))
	for range 3000 {
		p := anyRing(r)
		c := anyCell(r, p)
		w := 1 + r.Intn(min(p.Limit+1, 1<<20))
		for _, now := range []int{Ends(p, c), Ends(p, c) + 1, lastTick} {
			d, v := Ask(p, api.Cell{}, now, w)
			holds(t, p, c, now, w, d, v)
		}
	}
}

// P12.4, P1: in no Window less one Slot of ticks is more let in than Limit, by all that was ever let in; P4: a clock that goes back stands still.
func TestNoMoreThanLimit(t *testing.T) {
	r := rand.New(rand.NewSource(3))
	for range 300 {
		p := ringOf(1+r.Intn(12), 1+r.Intn(6), 1+r.Intn(5))
		c, in := api.Cell{}, log{}
		now, latest := 0, 0
		ticks := map[int]int{}
		for range 60 {
			now = max(now+r.Intn(p.Window/2+4)-2, 0)
			latest = max(latest, now)
			w := 1 + r.Intn(p.Limit+1)
			want, told := in.ask(p, latest, w)
			holds(t, p, c, now, w, want, told)
			c = want
			if told.Allowed {
				ticks[latest] += w
			}
			sum := 0
			for back := range p.Window - p.Window/p.Buckets {
				sum += ticks[latest-back]
			}
			if sum > p.Limit {
				t.Fatalf("%v: %d up to %d", p, sum, latest)
			}
		}
	}
}

// P12.2: whoever is refused leaves nothing, so that it is the same whether it asked.
func TestRefusedLeavesNothing(t *testing.T) {
	r := rand.New(rand.NewSource(4))
	for range 3000 {
		p := anyRing(r)
		c := anyCell(r, p)
		now := c.At + r.Intn(p.Window+1)
		d, v := Ask(p, c, now, 1+r.Intn(1<<20))
		if v.Allowed {
			continue
		}
		later, w := now+r.Intn(p.Window+1), 1+r.Intn(p.Limit)
		want, told := Ask(p, c, later, w)
		holds(t, p, d, later, w, want, told)
	}
}

// R5: what is handed in is not changed, and what is answered is not changed by a later call.
func TestHandedInStays(t *testing.T) {
	p := ringOf(9, 3, 10)
	hits := []api.Hit{{Tick: 6, Weight: 7}}
	c := api.Cell{At: 25, Sums: []int{1, 2, 3}, Hits: hits[:0]}
	d, v := Ask(p, c, 31, 4)
	if !v.Allowed || c.At != 25 || !slices.Equal(c.Sums, []int{1, 2, 3}) || !slices.Equal(d.Sums, []int{4, 2, 3}) {
		t.Errorf("%v of %v: %v", d, c, v)
	}
	_ = append(d.Hits, api.Hit{})
	if hits[0].Tick != 6 {
		t.Errorf("the answer shares %v", hits)
	}
	Ask(p, d, 45, 1)
	Total(p, d, 45)
	Ends(p, d)
	if d.At != 31 || !slices.Equal(d.Sums, []int{4, 2, 3}) {
		t.Errorf("a later call made %v of it", d)
	}
	sums := []int{5, 6}
	e, _ := Ask(p, api.Cell{Sums: sums[:0]}, 0, 1)
	if e.Sums[0]++; !slices.Equal(sums, []int{5, 6}) {
		t.Errorf("the answer shares %v", sums)
	}
}
