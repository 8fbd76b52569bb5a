package hist

import (
	"math"
	"math/rand"
	"reflect"
	"slices"
	"testing"

	"sandglass/api"
	"sandglass/cell"
)

const lastTick = 1 << 40

var wrongTimes = []int{math.MinInt, -lastTick, -1, lastTick + 1, 1 << 41, math.MaxInt}

var wrongWeights = []int{math.MinInt, -1 << 20, -1, 0, 1<<20 + 1, 1 << 40, math.MaxInt}

var wrongPolicies = []api.Policy{
	{}, {Limit: 3, Window: 10}, {Kind: 5, Limit: 3, Window: 10}, {Kind: -1, Limit: 3, Window: 10}, {Kind: math.MaxInt, Limit: 3, Window: 10},
	bucketOf(0, 10), bucketOf(1<<20+1, 10), bucketOf(3, 0), bucketOf(3, 1<<20+1), bucketOf(-3, 10), bucketOf(3, -10), bucketOf(math.MaxInt, math.MaxInt), bucketOf(math.MinInt, math.MinInt),
	fixedOf(0, 10), fixedOf(1<<20+1, 10), fixedOf(3, 0), fixedOf(3, 1<<20+1), fixedOf(3, math.MinInt),
	ringOf(0, 10, 2), ringOf(3, 0, 2), ringOf(3, 10, 0), ringOf(3, 10, 3), ringOf(3, 10, -2), ringOf(3, 34, 17), ringOf(3, 10, math.MinInt),
	exactOf(0, 10), exactOf(17, 10), exactOf(3, 0), exactOf(3, 1<<20+1), exactOf(3, math.MaxInt),
	{Kind: api.Bucket, Limit: 3, Window: 10, Buckets: 1}, {Kind: api.Fixed, Limit: 3, Window: 10, Buckets: 1}, {Kind: api.Exact, Limit: 3, Window: 10, Buckets: 1},
}

func bucketOf(limit, window int) api.Policy {
	return api.Policy{Kind: api.Bucket, Limit: limit, Window: window}
}

func fixedOf(limit, window int) api.Policy {
	return api.Policy{Kind: api.Fixed, Limit: limit, Window: window}
}

func ringOf(limit, window, buckets int) api.Policy {
	return api.Policy{Kind: api.Ring, Limit: limit, Window: window, Buckets: buckets}
}

func exactOf(limit, window int) api.Policy {
	return api.Policy{Kind: api.Exact, Limit: limit, Window: window}
}

// The chapter's words, by themselves: nothing below here to 'asked' leans on the package.

// counting tells what counts at t, hit by hit.
func counting(p api.Policy, l []api.Hit, t int) int {
	n := 0
	for i, hit := range l {
		in := false
		switch p.Kind {
		case api.Bucket:
			n = max(n, p.Window*weights(l[i:])-p.Limit*(t-hit.Tick))
		case api.Fixed:
			in = hit.Tick/p.Window == t/p.Window
		case api.Ring:
			slot := p.Window / p.Buckets
			in = hit.Tick/slot <= t/slot && hit.Tick/slot >= t/slot-(p.Buckets-1)
		case api.Exact:
			in = hit.Tick > t-p.Window
		}
		if in {
			n += hit.Weight
		}
	}
	return n
}

// weights tells the Weights together.
func weights(l []api.Hit) int {
	n := 0
	for _, hit := range l {
		n += hit.Weight
	}
	return n
}

// worth tells what a weight is worth.
func worth(p api.Policy, w int) int {
	if p.Kind == api.Bucket {
		return w * p.Window
	}
	return w
}

// isOf tells whether l is a history of a policy that may be.
func isOf(p api.Policy, l []api.Hit) bool {
	for i, hit := range l {
		if hit.Tick < 0 || hit.Tick > lastTick || hit.Weight < 1 || hit.Weight > 1<<20 || i > 0 && hit.Tick < l[i-1].Tick {
			return false
		}
	}
	for i, hit := range l {
		if counting(p, l[:i+1], hit.Tick) > worth(p, p.Limit) {
			return false
		}
	}
	return true
}

// least tells the first number from 0 on of which is holds.
func least(is func(n int) bool) int {
	n := 0
	for !is(n) {
		n++
	}
	return n
}

// asked is P15.2, of a history of p and a time that is not below its last Tick.
func asked(p api.Policy, l []api.Hit, t, w int) ([]api.Hit, api.Verdict) {
	fits := func(l []api.Hit, t, w int) bool { return counting(p, l, t)+worth(p, w) <= worth(p, p.Limit) }
	v := api.Verdict{Allowed: fits(l, t, w)}
	switch {
	case v.Allowed:
		l = slices.Concat(l, []api.Hit{{Tick: t, Weight: w}})
	case w > p.Limit:
		v.Retry = 1 << 41
	default:
		v.Retry = least(func(n int) bool { return fits(l, t+n, w) })
	}
	v.Remaining = least(func(n int) bool { return !fits(l, t, n+1) })
	v.Reset = least(func(n int) bool { return counting(p, l, t+n) == 0 })
	return l, v
}

// same tells whether two histories have the same hits; one without hits may be nil.
func same(l, m []api.Hit) bool {
	return slices.Equal(l, m)
}

// holds asks, and holds the answer against want and told.
func holds(t *testing.T, p api.Policy, l []api.Hit, at, w int, want []api.Hit, told api.Verdict) {
	t.Helper()
	m, v := Ask(p, l, at, w)
	if v != told || !same(m, want) {
		t.Fatalf("Ask(%v, %v, %d, %d): %v, %v, not %v, %v", p, l, at, w, m, v, want, told)
	}
}

// nothing holds all calls of something wrong against zero, and the history itself.
func nothing(t *testing.T, p api.Policy, l []api.Hit, at int) {
	t.Helper()
	if n := Counts(p, l, at); n != 0 {
		t.Errorf("Counts(%v, %v, %d): %d", p, l, at, n)
	}
	if Neutral(p, l, at) {
		t.Errorf("Neutral(%v, %v, %d)", p, l, at)
	}
	for _, w := range append([]int{1, 3, 1 << 20}, wrongWeights...) {
		if m, v := Ask(p, l, at, w); v != (api.Verdict{}) || !reflect.DeepEqual(m, l) {
			t.Errorf("Ask(%v, %v, %d, %d): %v, %v", p, l, at, w, m, v)
		}
	}
}

// P15.1: the chapter's example; and the document's, of each kind.
func TestExamples(t *testing.T) {
	two := []api.Hit{{Tick: 100, Weight: 2}}
	if n := Counts(bucketOf(2, 10), two, 104); n != 12 {
		t.Errorf("Counts: %d", n)
	}
	holds(t, bucketOf(2, 10), two, 100, 1, two, api.Verdict{Retry: 5, Reset: 10})
	holds(t, bucketOf(2, 10), two, 104, 1, two, api.Verdict{Retry: 1, Reset: 6})
	holds(t, bucketOf(2, 10), two, 105, 1, append(two, api.Hit{Tick: 105, Weight: 1}), api.Verdict{Allowed: true, Reset: 10})
	nine := []api.Hit{{Tick: 9, Weight: 2}}
	holds(t, fixedOf(2, 10), nil, 9, 2, nine, api.Verdict{Allowed: true, Reset: 1})
	holds(t, fixedOf(2, 10), nine, 9, 1, nine, api.Verdict{Retry: 1, Reset: 1})
	holds(t, fixedOf(2, 10), nine, 10, 2, append(nine, api.Hit{Tick: 10, Weight: 2}), api.Verdict{Allowed: true, Reset: 10})
	five := []api.Hit{{Tick: 5, Weight: 1}}
	if Counts(ringOf(2, 30, 3), five, 29) != 1 || Counts(ringOf(2, 30, 3), five, 30) != 0 {
		t.Error("Counts of a Ring")
	}
	if Counts(exactOf(2, 10), five, 14) != 1 || Counts(exactOf(2, 10), five, 15) != 0 {
		t.Error("Counts of an Exact one")
	}
}

// P15.1: the edges of Tick and Weight, at the first, a middle and the last place.
func TestMay(t *testing.T) {
	for _, l := range [][]api.Hit{
		nil, {}, {{Weight: 1}}, {{Weight: 1 << 20}}, {{Tick: lastTick, Weight: 1}}, {{Tick: lastTick, Weight: 1 << 20}},
		{{Weight: 1}, {Weight: 1}}, {{Weight: 1}, {Tick: lastTick, Weight: 1}}, {{Tick: 7, Weight: 3}, {Tick: 7, Weight: 4}, {Tick: 8, Weight: 1}},
		{{Tick: lastTick, Weight: 1}, {Tick: lastTick, Weight: 1}}, slices.Repeat([]api.Hit{{Tick: 5, Weight: 1 << 20}}, 1000),
	} {
		if !May(l) {
			t.Errorf("May(%v)", l)
		}
	}
	for _, l := range wrongHistories() {
		if May(l) {
			t.Errorf("May(%v)", l)
		}
	}
}

// wrongHistories tells hits that may not be one behind the other.
func wrongHistories() [][]api.Hit {
	all := [][]api.Hit{
		{{Tick: 1, Weight: 1}, {Weight: 1}}, {{Tick: lastTick, Weight: 1}, {Tick: lastTick - 1, Weight: 1}}, {{Tick: 8, Weight: 1}, {Tick: 9, Weight: 1}, {Tick: 8, Weight: 1}}, {{Tick: 8, Weight: 1}, {Tick: 7, Weight: 1}, {Tick: 9, Weight: 1}},
	}
	for place := range 3 {
		for _, tick := range wrongTimes {
			l := []api.Hit{{Tick: 5, Weight: 1}, {Tick: 5, Weight: 1}, {Tick: 5, Weight: 1}}
			l[place].Tick = tick
			all = append(all, l)
		}
		for _, w := range wrongWeights {
			l := []api.Hit{{Tick: 5, Weight: 1}, {Tick: 5, Weight: 1}, {Tick: 5, Weight: 1}}
			l[place].Weight = w
			all = append(all, l)
		}
	}
	for _, tick := range wrongTimes {
		all = append(all, []api.Hit{{Tick: tick, Weight: 1}})
	}
	for _, w := range wrongWeights {
		all = append(all, []api.Hit{{Tick: 5, Weight: w}})
	}
	return all
}

// histories hands all lists of up to most hits to do, with ticks from 0 to last that do not fall, and weights up to heavy.
func histories(most, last, heavy int, do func(l []api.Hit)) {
	var fill func(from int, l []api.Hit)
	fill = func(from int, l []api.Hit) {
		do(slices.Clone(l))
		if len(l) == most {
			return
		}
		for tick := from; tick <= last; tick++ {
			for weight := 1; weight <= heavy; weight++ {
				fill(tick, append(slices.Clone(l), api.Hit{Tick: tick, Weight: weight}))
			}
		}
	}
	fill(0, nil)
}

// P15.1 to P15.3: all small policies, histories, times and weights, against the chapter's words, tick by tick.
func TestSmall(t *testing.T) {
	for _, p := range []api.Policy{
		bucketOf(1, 1), bucketOf(1, 3), bucketOf(2, 3), bucketOf(3, 2), bucketOf(2, 5), bucketOf(3, 7),
		fixedOf(1, 1), fixedOf(2, 3), fixedOf(3, 4),
		ringOf(1, 1, 1), ringOf(2, 3, 1), ringOf(2, 3, 3), ringOf(3, 4, 2), ringOf(2, 6, 3), ringOf(2, 6, 2),
		exactOf(1, 1), exactOf(2, 3), exactOf(3, 4), exactOf(2, 5),
	} {
		are, arent := 0, 0
		histories(4, 5, min(p.Limit+1, 3), func(l []api.Hit) {
			if !isOf(p, l) {
				arent++
				nothing(t, p, l, 7)
				return
			}
			are++
			smallOne(t, p, l)
		})
		if are < 10 || arent < 10 {
			t.Errorf("%v: %d histories, and %d that are none", p, are, arent)
		}
	}
}

// smallOne holds all calls of a history of p against the chapter's words.
func smallOne(t *testing.T, p api.Policy, l []api.Hit) {
	t.Helper()
	last := 0
	if len(l) > 0 {
		last = l[len(l)-1].Tick
	}
	for now := range last {
		nothing(t, p, l, now)
	}
	for now := last; now <= last+p.Window+1; now++ {
		n := counting(p, l, now)
		if got := Counts(p, l, now); got != n {
			t.Fatalf("Counts(%v, %v, %d): %d, not %d", p, l, now, got, n)
		}
		if Neutral(p, l, now) != (n == 0) {
			t.Fatalf("Neutral(%v, %v, %d)", p, l, now)
		}
		for w := 1; w <= p.Limit+2; w++ {
			m, v := asked(p, l, now, w)
			holds(t, p, l, now, w, m, v)
		}
	}
}

// P15.1: a Bucket's greatest number may be that of any hit: of the first, of a middle one, and of the last.
func TestBucketsGreatest(t *testing.T) {
	p := bucketOf(10, 20)
	l := []api.Hit{{Tick: 0, Weight: 1}, {Tick: 100, Weight: 8}, {Tick: 108, Weight: 3}, {Tick: 130, Weight: 1}}
	for _, x := range []struct{ have, at, want int }{
		{1, 0, 20}, {1, 1, 10}, {1, 2, 0}, {1, 100, 0}, {2, 100, 160}, {2, 108, 80}, {3, 108, 140}, {3, 121, 10}, {3, 122, 0}, {3, 123, 0}, {4, 130, 20}, {4, 131, 10}, {4, 132, 0}, {4, lastTick, 0},
	} {
		if n := Counts(p, l[:x.have], x.at); n != x.want {
			t.Errorf("Counts of %d at %d: %d, not %d", x.have, x.at, n, x.want)
		}
	}
}

// P15.1 to P15.3: one hit that is too much, at the first, a middle and the last place, makes it no history of p, however much later one asks.
func TestNoneOfPolicy(t *testing.T) {
	for _, x := range []struct {
		p    api.Policy
		good []api.Hit
		bad  [][]api.Hit
	}{
		{bucketOf(2, 10), []api.Hit{{Tick: 0, Weight: 2}, {Tick: 5, Weight: 1}, {Tick: 10, Weight: 1}}, [][]api.Hit{{{Tick: 0, Weight: 3}}, {{Tick: 0, Weight: 2}, {Tick: 4, Weight: 1}}, {{Tick: 0, Weight: 2}, {Tick: 5, Weight: 1}, {Tick: 9, Weight: 1}}, {{Tick: 0, Weight: 2}, {Tick: 4, Weight: 1}, {Tick: 90, Weight: 1}}}},
		{fixedOf(2, 10), []api.Hit{{Tick: 9, Weight: 2}, {Tick: 10, Weight: 1}, {Tick: 19, Weight: 1}, {Tick: 20, Weight: 2}}, [][]api.Hit{{{Tick: 0, Weight: 3}}, {{Tick: 0, Weight: 2}, {Tick: 9, Weight: 1}}, {{Tick: 9, Weight: 2}, {Tick: 10, Weight: 2}, {Tick: 19, Weight: 1}}, {{Tick: 0, Weight: 2}, {Tick: 9, Weight: 1}, {Tick: 90, Weight: 1}}}},
		{ringOf(2, 30, 3), []api.Hit{{Tick: 9, Weight: 2}, {Tick: 30, Weight: 1}, {Tick: 59, Weight: 1}, {Tick: 60, Weight: 1}}, [][]api.Hit{{{Tick: 0, Weight: 3}}, {{Tick: 9, Weight: 2}, {Tick: 29, Weight: 1}}, {{Tick: 9, Weight: 2}, {Tick: 30, Weight: 1}, {Tick: 59, Weight: 2}}, {{Tick: 9, Weight: 2}, {Tick: 29, Weight: 1}, {Tick: 90, Weight: 1}}}},
		{exactOf(2, 10), []api.Hit{{Tick: 5, Weight: 1}, {Tick: 9, Weight: 1}, {Tick: 15, Weight: 1}, {Tick: 19, Weight: 1}}, [][]api.Hit{{{Tick: 0, Weight: 3}}, {{Tick: 5, Weight: 2}, {Tick: 14, Weight: 1}}, {{Tick: 5, Weight: 1}, {Tick: 9, Weight: 1}, {Tick: 15, Weight: 1}, {Tick: 18, Weight: 1}}, {{Tick: 5, Weight: 2}, {Tick: 14, Weight: 1}, {Tick: 90, Weight: 1}}}},
	} {
		for have := range len(x.good) + 1 {
			if !isOf(x.p, x.good[:have]) || !Neutral(x.p, x.good[:have], 200) {
				t.Errorf("Neutral(%v, %v, 200)", x.p, x.good[:have])
			}
		}
		for _, l := range x.bad {
			for _, at := range []int{90, 200, lastTick} {
				nothing(t, x.p, l, at)
			}
		}
	}
}

// P15.1 to P15.3: hits that may not be, also such whose weights or ticks would pass 64 bits.
func TestWrongHistories(t *testing.T) {
	great := 1 << 20
	for _, p := range []api.Policy{bucketOf(3, 10), fixedOf(3, 10), ringOf(3, 10, 2), exactOf(3, 10), bucketOf(great, great), fixedOf(great, great), ringOf(great, great, 16), exactOf(16, great)} {
		for _, l := range wrongHistories() {
			for _, at := range []int{-1, 0, 5, 100, lastTick} {
				nothing(t, p, l, at)
			}
		}
		for _, l := range [][]api.Hit{slices.Repeat([]api.Hit{{Tick: lastTick, Weight: 1 << 20}}, 3000), slices.Repeat([]api.Hit{{Tick: 5, Weight: math.MaxInt}}, 3), slices.Repeat([]api.Hit{{Tick: 5, Weight: 1 << 60}}, 32), {{Tick: 5, Weight: 1<<20 + 1}, {Tick: 5, Weight: -1 << 20}}} {
			nothing(t, p, l, lastTick)
		}
	}
}

// P15.1 to P15.3: policies that may not be, of whatever history.
func TestWrongPolicies(t *testing.T) {
	for _, p := range wrongPolicies {
		for _, l := range [][]api.Hit{nil, {}, {{Tick: 5, Weight: 1}}, {{Tick: 5, Weight: 1}, {Tick: 9, Weight: 2}}, {{Tick: -1, Weight: -1}}} {
			for _, at := range []int{-1, 0, 9, 100, lastTick} {
				nothing(t, p, l, at)
			}
		}
	}
}

// P15.1 to P15.3: times that may not be, or are below the last Tick, and weights that may not be.
func TestWrongAsks(t *testing.T) {
	for _, p := range []api.Policy{bucketOf(3, 10), fixedOf(3, 10), ringOf(3, 10, 2), exactOf(3, 10)} {
		for _, l := range [][]api.Hit{nil, {}, {{Weight: 1}}, {{Tick: 5, Weight: 1}}, {{Tick: 5, Weight: 1}, {Tick: 9, Weight: 2}}, {{Tick: lastTick, Weight: 1}}} {
			for _, at := range wrongTimes {
				nothing(t, p, l, at)
			}
			last := 0
			if len(l) > 0 {
				last = l[len(l)-1].Tick
				nothing(t, p, l, last-1)
				nothing(t, p, l, min(last-1, 0))
			}
			for _, w := range wrongWeights {
				if m, v := Ask(p, l, last, w); v != (api.Verdict{}) || !reflect.DeepEqual(m, l) {
					t.Errorf("Ask(%v, %v, %d, %d): %v, %v", p, l, last, w, m, v)
				}
			}
			if _, v := Ask(p, l, last, 3); v == (api.Verdict{}) {
				t.Errorf("Ask(%v, %v, %d, 3): %v", p, l, last, v)
			}
		}
	}
}

// P15.2: Never, if w is above Limit, whatever counts; and Limit itself is let in, if nothing does.
func TestNever(t *testing.T) {
	for _, p := range []api.Policy{bucketOf(3, 10), fixedOf(3, 10), ringOf(3, 10, 2), exactOf(3, 10)} {
		l := []api.Hit{{Tick: 20, Weight: 2}}
		for _, w := range []int{4, 5, 1 << 20} {
			holds(t, p, nil, 20, w, nil, api.Verdict{Remaining: 3, Retry: 1 << 41})
			holds(t, p, l, 20, w, l, api.Verdict{Remaining: 1, Retry: 1 << 41, Reset: least(func(n int) bool { return counting(p, l, 20+n) == 0 })})
		}
		holds(t, p, nil, 20, 3, []api.Hit{{Tick: 20, Weight: 3}}, api.Verdict{Allowed: true, Reset: 10})
	}
}

// P15.2: a Bucket's Remaining is rounded down.
func TestRoundedDown(t *testing.T) {
	p := bucketOf(3, 10)
	l := []api.Hit{{Tick: 20, Weight: 3}}
	for _, x := range []struct{ at, remaining, retry, reset int }{{20, 0, 10, 10}, {23, 0, 7, 7}, {24, 1, 6, 6}, {26, 1, 4, 4}, {27, 2, 3, 3}, {29, 2, 1, 1}} {
		holds(t, p, l, x.at, 3, l, api.Verdict{Remaining: x.remaining, Retry: x.retry, Reset: x.reset})
	}
	holds(t, p, l, 24, 1, append(slices.Clone(l), api.Hit{Tick: 24, Weight: 1}), api.Verdict{Allowed: true, Reset: 10})
}

// P15.1 to P15.3: the greatest numbers, by hand; ticks go on beyond the last one.
func TestGreat(t *testing.T) {
	const most = 1 << 20
	for _, x := range []struct {
		p     api.Policy
		retry int // of all of a full one, at the last tick
		late  int // of all of a one that was full from the tick ahead of the last one on, at the last one
	}{
		{bucketOf(most, most), most, most - 1}, {fixedOf(most, most), most, 0}, {ringOf(most, most, 16), most, most - most/16}, {ringOf(most, most, 1), most, 0}, {exactOf(16, most), most, most - 1},
		{bucketOf(most, 1), 1, 0}, {bucketOf(1, most), most, most - 1}, {fixedOf(1, 1), 1, 0}, {ringOf(1, 1, 1), 1, 0}, {ringOf(1, 16, 16), 16, 15}, {exactOf(1, 1), 1, 0},
	} {
		full := func(tick int) []api.Hit { return []api.Hit{{Tick: tick, Weight: x.p.Limit}} }
		holds(t, x.p, nil, lastTick, x.p.Limit, full(lastTick), api.Verdict{Allowed: true, Reset: x.retry})
		holds(t, x.p, full(lastTick), lastTick, x.p.Limit, full(lastTick), api.Verdict{Retry: x.retry, Reset: x.retry})
		holds(t, x.p, full(0), lastTick, x.p.Limit, append(full(0), full(lastTick)...), api.Verdict{Allowed: true, Reset: x.retry})
		if n := Counts(x.p, full(lastTick), lastTick); n != worth(x.p, x.p.Limit) {
			t.Errorf("Counts(%v): %d", x.p, n)
		}
		if !Neutral(x.p, full(0), lastTick) || Neutral(x.p, full(lastTick), lastTick) {
			t.Errorf("Neutral(%v)", x.p)
		}
		_, v := Ask(x.p, full(lastTick-1), lastTick, x.p.Limit)
		if v.Allowed != (x.late == 0) || v.Retry != x.late {
			t.Errorf("Ask(%v) at the last tick: %v", x.p, v)
		}
	}
	full := []api.Hit{{Tick: lastTick, Weight: most}}
	holds(t, bucketOf(most, most), full, lastTick, 1, full, api.Verdict{Retry: 1, Reset: most})
	holds(t, ringOf(most, most, 16), []api.Hit{{Tick: lastTick - most/16*15, Weight: most}}, lastTick, 1, []api.Hit{{Tick: lastTick - most/16*15, Weight: most}}, api.Verdict{Retry: most / 16, Reset: most / 16})
}

// anyPolicy tells a policy of a kind, of any greatness.
func anyPolicy(r *rand.Rand, kind int) api.Policy {
	p := api.Policy{Kind: kind, Limit: 1 + r.Intn(1<<r.Intn(21)), Window: 1 + r.Intn(1<<r.Intn(21))}
	switch kind {
	case api.Ring:
		p.Buckets = 1 + r.Intn(16)
		p.Window = p.Buckets * (1 + r.Intn(1<<r.Intn(17)))
	case api.Exact:
		p.Limit = 1 + r.Intn(16)
	}
	return p
}

// P15.4, P2: ask by ask, what cell.Ask tells of a new cell; and when it is neutral.
func TestAsCells(t *testing.T) {
	r := rand.New(rand.NewSource(1))
	let, refused := 0, 0
	for i := range 1600 {
		p := anyPolicy(r, 1+i%4)
		var l []api.Hit
		c := api.Cell{}
		now := r.Intn(1 << r.Intn(41))
		for range 60 {
			now = min(now+r.Intn(p.Window/4+2)*r.Intn(2), lastTick)
			w := 1 + r.Intn(p.Limit/2+2)
			if cell.Neutral(p, c, now) != Neutral(p, l, now) {
				t.Fatalf("Neutral(%v, %v, %d)", p, l, now)
			}
			d, told := cell.Ask(p, c, now, w)
			m, v := Ask(p, l, now, w)
			if v != told {
				t.Fatalf("Ask(%v, %v, %d, %d): %v, not %v", p, l, now, w, v, told)
			}
			if v.Allowed {
				l = append(l, api.Hit{Tick: now, Weight: w})
				let++
			} else {
				refused++
			}
			if !same(m, l) {
				t.Fatalf("Ask(%v, .., %d, %d): %v, not %v", p, now, w, m, l)
			}
			l, c = m, d
		}
	}
	if let < 1000 || refused < 1000 {
		t.Errorf("%d let in, %d refused", let, refused)
	}
}

// P15.2, P5: Retry and Reset are the least ones, and Remaining the most that there is room for.
func TestLeastAndMost(t *testing.T) {
	r := rand.New(rand.NewSource(2))
	for i := range 1200 {
		p := anyPolicy(r, 1+i%4)
		var l []api.Hit
		now := r.Intn(1 << 39)
		for range 20 {
			now += r.Intn(p.Window/4 + 2)
			w := 1 + r.Intn(p.Limit)
			m, v := Ask(p, l, now, w)
			if v.Allowed != (v.Retry == 0) {
				t.Fatalf("Ask(%v, %v, %d, %d): %v", p, l, now, w, v)
			}
			if v.Retry > 0 {
				_, early := Ask(p, m, now+v.Retry-1, w)
				_, then := Ask(p, m, now+v.Retry, w)
				if early.Allowed || early.Retry != 1 || !then.Allowed {
					t.Fatalf("%v, %v: Retry %d: %v, %v", p, m, v.Retry, early, then)
				}
			}
			if v.Reset > 0 && Neutral(p, m, now+v.Reset-1) || !Neutral(p, m, now+v.Reset) {
				t.Fatalf("%v, %v: Reset %d", p, m, v.Reset)
			}
			_, most := Ask(p, m, now, max(v.Remaining, 1))
			_, more := Ask(p, m, now, v.Remaining+1)
			if most.Allowed != (v.Remaining > 0) || more.Allowed {
				t.Fatalf("%v, %v: Remaining %d", p, m, v.Remaining)
			}
			l = m
		}
	}
}

// R5: what is handed in is not changed, nor the memory behind it; and what was answered stays.
func TestHandedInStays(t *testing.T) {
	for _, p := range []api.Policy{bucketOf(9, 10), fixedOf(9, 10), ringOf(9, 10, 2), exactOf(9, 10)} {
		room := []api.Hit{{Tick: 21, Weight: 1}, {Tick: 22, Weight: 2}, {Tick: 77, Weight: 7}, {Tick: 78, Weight: 8}}
		was := slices.Clone(room)
		l := room[:2]
		one, _ := Ask(p, l, 23, 3)
		two, _ := Ask(p, l, 24, 4)
		three, v := Ask(p, l, 25, 10)
		wrong, _ := Ask(p, l, -1, 3)
		Counts(p, l, 25)
		Neutral(p, l, 25)
		if !same(room, was) || v.Allowed {
			t.Errorf("%v: %v", p, room)
		}
		for i := range l {
			l[i] = api.Hit{}
		}
		if !same(one, append(was[:2:2], api.Hit{Tick: 23, Weight: 3})) || !same(two, append(was[:2:2], api.Hit{Tick: 24, Weight: 4})) || !same(three, was[:2]) || !same(wrong, was[:2]) {
			t.Errorf("%v: %v, %v, %v, %v", p, one, two, three, wrong)
		}
		// A history that goes on twice from one answer.
		four, _ := Ask(p, one, 23, 1)
		five, _ := Ask(p, one, 23, 2)
		if four[3].Weight != 1 || five[3].Weight != 2 || len(one) != 3 {
			t.Errorf("%v: %v, %v", p, four, five)
		}
	}
}

// P15.1, P15.2, R1: long histories, of each kind.
func TestLong(t *testing.T) {
	const long, most = 300000, 1 << 20
	for _, x := range []struct {
		p     api.Policy
		every int // ticks between hits of weight 1
		w     int
		v     api.Verdict
	}{
		{bucketOf(1000, 1000), 1, 1000, api.Verdict{Remaining: 999, Retry: 1, Reset: 1}},
		{bucketOf(most, most), 0, 1, api.Verdict{Allowed: true, Remaining: most - long - 1, Reset: long + 1}},
		{fixedOf(most, most), 1, 1, api.Verdict{Allowed: true, Remaining: most - long - 1, Reset: most - long + 1}},
		{ringOf(most, most, 16), 1, 1, api.Verdict{Allowed: true, Remaining: most - long - 1, Reset: most + (long-1)/(most/16)*(most/16) - long + 1}},
		{exactOf(16, 16), 1, 1, api.Verdict{Allowed: true, Reset: 16}},
		// Each seventeenth hit in a row is too much of this one.
		{exactOf(16, 17), 1, 1, api.Verdict{}},
	} {
		l := make([]api.Hit, long)
		for i := range l {
			l[i] = api.Hit{Tick: i * x.every, Weight: 1}
		}
		at := l[long-1].Tick
		if x.p.Kind == api.Exact {
			at++
		}
		m, v := Ask(x.p, l, at, x.w)
		if v != x.v || !same(m[:long], l) || v.Allowed != (len(m) > long) {
			t.Errorf("%v: %v, not %v", x.p, v, x.v)
		}
	}
}
