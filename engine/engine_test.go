package engine

import (
	"fmt"
	"math"
	"math/rand"
	"slices"
	"strings"
	"testing"

	"sandglass/api"
	"sandglass/policy"
)

var (
	wrongBooks   = []int{math.MinInt, -256, -8, -2, -1, 8, 9, 16, 255, 256, 1 << 32, math.MaxInt}
	wrongKeys    = []string{"", strings.Repeat("k", 33), strings.Repeat("k", 256), strings.Repeat("\x00", 1000)}
	wrongWeights = []int{math.MinInt, -1 << 20, -1, 0, 1<<20 + 1, 1 << 32, math.MaxInt}
	wrongTimes   = []int{math.MinInt, -lastTick, -1, lastTick + 1, 1 << 41, math.MaxInt}
)

// kinds are policies of each kind that let in 2, and in which what was let in at 20 counts till 29.
var kinds = []api.Policy{
	{Kind: api.Bucket, Limit: 2, Window: 10},
	{Kind: api.Fixed, Limit: 2, Window: 10},
	{Kind: api.Ring, Limit: 2, Window: 10, Buckets: 2},
	{Kind: api.Exact, Limit: 2, Window: 10},
}

func allowed(t *testing.T, told api.Told, want bool) {
	t.Helper()
	if told.Code != api.OK || told.Verdict.Allowed != want {
		t.Fatalf("told %v, want %v", told, want)
	}
}

func refused(t *testing.T, told api.Told, code api.Errno) {
	t.Helper()
	if told != (api.Told{Code: code}) {
		t.Fatalf("told %v, not %d", told, code)
	}
}

func count(t *testing.T, g *Engine, want int) {
	t.Helper()
	if n := g.Count(); n != want {
		t.Fatalf("Count: %d, not %d", n, want)
	}
}

// P18.1: all numbers of cells that may be, of any seed.
func TestNew(t *testing.T) {
	for cells := 1; cells <= 64; cells++ {
		for _, seed := range []uint64{0, 1, 1 << 63, math.MaxUint64} {
			b := newBoth(t, cells, seed)
			b.same()
			if n := b.work(1000); n != 0 {
				t.Fatalf("Work: %d", n)
			}
			b.set(3, kinds[0])
			for i := range cells {
				allowed(t, b.g.Check(api.Ask{Book: 3, Key: fmt.Sprint(i), Weight: 1}), true)
			}
			refused(t, b.g.Check(api.Ask{Book: 3, Key: "more", Weight: 1}), api.ErrCapacity)
			count(t, b.g, cells)
		}
	}
	for _, cells := range []int{math.MinInt, -64, -1, 0, 65, 66, 128, 1 << 32, 1<<32 + 1, math.MaxInt} {
		if g, e := New(api.Config{Cells: cells, Seed: 5}); g != nil || e != api.ErrArg {
			t.Errorf("New(%d): %v, %d", cells, g, e)
		}
	}
}

// P18.1, P4: the clock goes up alone, and not above 2^40.
func TestTick(t *testing.T) {
	b := newBoth(t, 1, 0)
	for _, now := range []int{0, 1, 1, 0, 63, 64, 62, 4096, 1 << 24, 1<<24 - 1, lastTick - 1, lastTick, 5} {
		b.tick(now)
		for _, wrong := range wrongTimes {
			b.tick(wrong)
		}
	}
	if now := b.g.Tick(0); now != lastTick {
		t.Errorf("Now: %d", now)
	}
}

// P4, example 8: a clock that goes back is as one that stands still.
func TestClockGoesBack(t *testing.T) {
	for _, p := range kinds {
		b := newBoth(t, 1, 0)
		b.set(0, p)
		b.tick(20)
		allowed(t, b.check(0, "a", 2), true)
		for _, now := range []int{13, 0, -5, lastTick + 1} {
			b.tick(now)
			allowed(t, b.check(0, "a", 1), false)
			refused(t, b.check(0, "b", 1), api.ErrCapacity)
		}
	}
}

// P18.5: the document's example, of each kind; P18.3: not one tick too soon.
func TestOneCell(t *testing.T) {
	for _, p := range kinds {
		b := newBoth(t, 1, 0)
		b.set(0, p)
		b.tick(20)
		allowed(t, b.check(0, "a", 2), true)
		for now := 20; now < 30; now++ {
			b.tick(now)
			refused(t, b.check(0, "b", 1), api.ErrCapacity)
			// What would not be let in anyhow is told as it is.
			allowed(t, b.check(0, "b", 3), false)
		}
		b.tick(30)
		allowed(t, b.check(0, "b", 1), true)
		refused(t, b.check(0, "a", 1), api.ErrCapacity)
		count(t, b.g, 1)
	}
}

// P18.3: what is let in later makes a name count for longer: what was due once is so no more.
func TestCountsForLonger(t *testing.T) {
	for _, p := range kinds {
		b := newBoth(t, 1, 0)
		b.set(0, p)
		b.tick(20)
		allowed(t, b.check(0, "a", 1), true)
		b.tick(29)
		allowed(t, b.check(0, "a", 1), true)
		for b.m.now < 60 {
			b.tick(b.m.now + 1)
			b.work(1000)
			b.check(0, "b", 2)
			b.work(1000)
		}
	}
}

// P18.3: a name whose cell is over has that cell again, as new, though there is no other one.
func TestOwnCellAgain(t *testing.T) {
	for _, p := range kinds {
		b := newBoth(t, 2, 0)
		b.set(0, p)
		b.tick(20)
		b.check(0, "a", 2)
		b.check(0, "b", 1)
		for _, now := range []int{30, 45, 1000} {
			b.tick(now)
			allowed(t, b.check(0, "a", 2), true)
			allowed(t, b.check(0, "a", 1), false)
			allowed(t, b.check(0, "b", 2), true)
			refused(t, b.check(0, "c", 1), api.ErrCapacity)
			count(t, b.g, 2)
		}
	}
}

// P18.3: errors, in their order, of Check, Peek and Forget; R3, R4: the zero verdict, and nothing changes.
func TestErrors(t *testing.T) {
	b := newBoth(t, 1, 0)
	b.set(0, kinds[3])
	b.set(7, kinds[3])
	b.check(7, "full", 1)
	for _, book := range append([]int{0, 1, 6, 7}, wrongBooks...) {
		for _, key := range append([]string{"k", strings.Repeat("k", 32), "\x00", "full"}, wrongKeys...) {
			for _, weight := range append([]int{1, 2, 3, 1 << 20}, wrongWeights...) {
				a := api.Ask{Book: book, Key: key, Weight: weight}
				b.peek(a)
				got, want := b.g.Check(a), b.m.check(a)
				if got != want {
					t.Fatalf("Check(%v): %v, not %v", a, got, want)
				}
				count(t, b.g, 1)
			}
			if key != "full" {
				b.forget(book, key)
			}
		}
	}
	refused(t, b.check(-1, "k", 1), api.ErrArg)
	refused(t, b.check(0, "", 1), api.ErrArg)
	refused(t, b.check(1, "k", 0), api.ErrArg)
	refused(t, b.check(1, strings.Repeat("k", 33), 1), api.ErrArg)
	refused(t, b.check(1, "k", 1), api.ErrNone)
	refused(t, b.check(0, "k", 1), api.ErrCapacity)
	allowed(t, b.check(0, "k", 1<<20), false)
	b.forget(7, "full")
	allowed(t, b.check(0, strings.Repeat("k", 32), 1), true)
}

// P18.3: what is refused, and what is but looked at, takes no cell.
func TestRefusedTakesNoCell(t *testing.T) {
	for _, p := range kinds {
		b := newBoth(t, 2, 0)
		b.set(0, p)
		allowed(t, b.check(0, "a", 3), false)
		b.peek(api.Ask{Book: 0, Key: "b", Weight: 1})
		count(t, b.g, 0)
		allowed(t, b.check(0, "a", 2), true)
		allowed(t, b.check(0, "a", 1), false)
		count(t, b.g, 1)
		b.peek(api.Ask{Book: 0, Key: "a", Weight: 1})
		count(t, b.g, 1)
	}
}

// P18.2: what books tell; a book that is wrong, or whose policy is, leaves all as it was.
func TestBooks(t *testing.T) {
	b := newBoth(t, 2, 0)
	b.remove(0)
	for id := range 8 {
		b.set(id, kinds[id%4])
		b.set(id, kinds[3-id%4])
		b.check(id, "a", 1)
	}
	names := b.g.Names()
	for _, id := range wrongBooks {
		b.set(id, kinds[0])
		b.remove(id)
	}
	for _, p := range []api.Policy{{}, {Kind: 5, Limit: 1, Window: 1}, {Kind: api.Exact, Limit: 17, Window: 1}, {Kind: api.Ring, Limit: 1, Window: 10, Buckets: 3}} {
		for id := range 8 {
			b.set(id, p)
		}
	}
	if again := b.g.Names(); len(names) != 2 || !slices.Equal(again, names) {
		t.Errorf("Names: %v, not %v", again, names)
	}
	b.remove(3)
	b.remove(3)
	b.set(3, kinds[0])
	if _, n, e := b.g.Policy(3); n != 3 || e != api.OK {
		t.Errorf("Policy: %d, %d", n, e)
	}
}

// P18.2: a book that was set as often as may be: ErrFull, and nothing is forgotten.
func TestSetTooOften(t *testing.T) {
	b := newBoth(t, 1, 0)
	b.set(0, kinds[0])
	b.check(0, "a", 2)
	b.g.books[0].Version = 1 << 30
	if n, e := b.g.Set(0, kinds[0]); n != 0 || e != api.ErrFull {
		t.Errorf("Set: %d, %d", n, e)
	}
	allowed(t, b.g.Check(api.Ask{Key: "a", Weight: 1}), false)
	b.g.books[0].Version = 1<<30 - 1
	if n, e := b.g.Set(0, kinds[0]); n != 1<<30 || e != api.OK {
		t.Errorf("Set: %d, %d", n, e)
	}
	allowed(t, b.g.Check(api.Ask{Key: "a", Weight: 1}), true)
}

// P18.2, P18.3: a policy that is set anew, also the same one, or deleted: all its keys are as new, and no others are; their cells are to be had.
func TestSetAnew(t *testing.T) {
	for _, again := range []func(b both){
		func(b both) { b.set(1, kinds[3]) },
		func(b both) { b.set(1, kinds[0]) },
		func(b both) { b.set(1, kinds[1]); b.set(1, kinds[2]) },
		func(b both) { b.remove(1); b.set(1, kinds[3]) },
	} {
		b := newBoth(t, 3, 0)
		b.set(0, kinds[3])
		b.set(1, kinds[3])
		b.set(2, kinds[3])
		b.check(0, "a", 2)
		b.check(1, "a", 2)
		b.check(2, "a", 2)
		again(b)
		allowed(t, b.check(0, "a", 1), false)
		allowed(t, b.check(2, "a", 1), false)
		c := b.copy()
		allowed(t, b.check(1, "a", 2), true)
		refused(t, b.check(1, "b", 1), api.ErrCapacity)
		allowed(t, c.check(0, "b", 2), true)
		refused(t, c.check(1, "a", 1), api.ErrCapacity)
		// What was let in by the elder policy is not due any more.
		for now := range 40 {
			b.tick(now)
			b.work(1)
			b.check(1, "a", 1)
		}
	}
}

// P18.2: of a book that is not On nothing counts, till it is set, and then as little.
func TestDelete(t *testing.T) {
	b := newBoth(t, 1, 0)
	b.set(0, kinds[1])
	b.check(0, "a", 2)
	b.remove(0)
	refused(t, b.check(0, "a", 1), api.ErrNone)
	b.forget(0, "a")
	if names := b.g.Names(); len(names) != 0 {
		t.Errorf("Names: %v", names)
	}
	if n := b.work(1000); n != 1 {
		t.Errorf("Work: %d", n)
	}
	count(t, b.g, 0)
	b.set(0, kinds[1])
	allowed(t, b.check(0, "a", 2), true)
}

// P18.4: what is forgotten is as new, of that name alone, and its cell is free; of a name without history all is as it was.
func TestForget(t *testing.T) {
	for _, p := range kinds {
		b := newBoth(t, 3, 0)
		b.set(0, p)
		b.set(1, p)
		b.check(0, "a", 2)
		b.check(0, "b", 2)
		b.check(1, "a", 2)
		b.forget(0, "zz")
		b.forget(2, "a")
		count(t, b.g, 3)
		b.forget(0, "a")
		count(t, b.g, 2)
		b.forget(0, "a")
		count(t, b.g, 2)
		allowed(t, b.check(0, "b", 1), false)
		allowed(t, b.check(1, "a", 1), false)
		allowed(t, b.check(0, "a", 2), true)
		allowed(t, b.check(0, "a", 1), false)
		// A name whose cell is over can be forgotten, too.
		b.tick(1000)
		b.forget(0, "a")
		count(t, b.g, 2)
		b.work(1000)
		count(t, b.g, 0)
	}
}

// P18.5: what is to be done is done, as much as is asked for, and no more.
func TestWork(t *testing.T) {
	for _, p := range kinds {
		b := newBoth(t, 64, 3)
		b.set(0, p)
		b.set(1, api.Policy{Kind: api.Fixed, Limit: 2, Window: 1 << 20})
		for i := range 60 {
			b.check(i/40, fmt.Sprint(i), 2)
		}
		if n := b.work(1000); n != 0 {
			t.Errorf("Work: %d, where nothing is to be done", n)
		}
		b.tick(100)
		for _, most := range []int{math.MinInt, -1000, -1, 0} {
			if n := b.work(most); n != 0 {
				t.Errorf("Work(%d): %d", most, n)
			}
			count(t, b.g, 60)
		}
		total := 0
		for _, most := range []int{1, 2, 5, 1, 17, 0, 1} {
			total += b.work(most)
		}
		if total < 1 || b.g.Count() < 60-total || b.g.Count() == 60 {
			t.Errorf("%d done, Count %d", total, b.g.Count())
		}
		b.work(1000)
		count(t, b.g, 20)
		b.remove(1)
		b.work(math.MaxInt)
		count(t, b.g, 0)
	}
}

// P18.5, R5: names by their books and then by their keys' bytes, in new memory.
func TestNames(t *testing.T) {
	b := newBoth(t, 64, 1)
	keys := []string{"b", "a", "\xff", "\x00", "aa", "a\x00", "\x00\x00", "ÿ", strings.Repeat("\xff", 32), strings.Repeat("\x00", 32), "a\xff"}
	for _, book := range []int{7, 0, 3} {
		b.set(book, kinds[0])
		for _, key := range keys {
			allowed(t, b.check(book, key, 1), true)
		}
	}
	names := b.g.Names()
	kept := slices.Clone(names)
	names[0], names[1] = api.Name{Book: 5, Key: "x"}, api.Name{}
	_ = append(names[:2], api.Name{Book: 6, Key: "y"})
	b.same()
	if again := b.g.Names(); !slices.Equal(again, kept) {
		t.Errorf("Names: %v, not %v", again, kept)
	}
	b.tick(100)
	if !slices.Equal(names[3:], kept[3:]) {
		t.Errorf("what was answered was changed: %v", names)
	}
}

// P18.5: of a nil Engine, and of one that New did not make.
func TestNone(t *testing.T) {
	for _, g := range []*Engine{nil, {}} {
		a, n := api.Ask{Key: "a", Weight: 1}, api.Name{Key: "a"}
		refused(t, g.Check(a), api.ErrArg)
		refused(t, g.Peek(a), api.ErrArg)
		refused(t, g.Check(api.Ask{}), api.ErrArg)
		if e := g.Forget(n); e != api.ErrArg {
			t.Errorf("Forget: %d", e)
		}
		if v, e := g.Set(0, kinds[0]); v != 0 || e != api.ErrArg {
			t.Errorf("Set: %d, %d", v, e)
		}
		if e := g.Delete(0); e != api.ErrArg {
			t.Errorf("Delete: %d", e)
		}
		if p, v, e := g.Policy(0); p != (api.Policy{}) || v != 0 || e != api.ErrArg {
			t.Errorf("Policy: %v, %d, %d", p, v, e)
		}
		if g.Copy() != nil || g.Tick(5) != 0 || g.Tick(0) != 0 || len(g.Names()) != 0 || g.Count() != 0 || g.Work(1000) != 0 || g.Work(-1) != 0 {
			t.Error("something is told of nothing")
		}
	}
}

// P18.3: the end of time: what counts beyond it counts till then, though it was due ahead of it once.
func TestEndOfTime(t *testing.T) {
	for _, p := range kinds {
		b := newBoth(t, 1, 0)
		b.set(0, p)
		b.tick(lastTick - 15)
		allowed(t, b.check(0, "a", 1), true)
		b.tick(lastTick - 6)
		b.check(0, "a", 1)
		for b.m.now < lastTick {
			b.tick(b.m.now + 1)
			b.check(0, "a", 1)
			b.check(0, "b", 1)
			b.work(1000)
			c := b.copy()
			c.tick(lastTick)
			c.work(1000)
			c.check(0, "b", 1)
		}
		b.tick(lastTick + 1)
		b.forget(0, "a")
		b.forget(0, "b")
		allowed(t, b.check(0, "b", 2), true)
		refused(t, b.check(0, "a", 1), api.ErrCapacity)
		b.set(0, p)
		allowed(t, b.check(0, "a", 2), true)
	}
}

// P18.3, P18.5: the greatest policies and weights.
func TestGreat(t *testing.T) {
	const most = 1 << 20
	for _, p := range []api.Policy{
		{Kind: api.Bucket, Limit: most, Window: most},
		{Kind: api.Fixed, Limit: most, Window: most},
		{Kind: api.Ring, Limit: most, Window: most, Buckets: 16},
		{Kind: api.Exact, Limit: 16, Window: most},
	} {
		b := newBoth(t, 2, 0)
		b.set(0, p)
		for _, now := range []int{0, 1, most - 1, most, lastTick - most, lastTick - 1, lastTick} {
			b.tick(now)
			b.check(0, "a", 1)
			b.check(0, "b", p.Limit)
			b.check(0, "c", 1)
			b.check(0, "a", p.Limit-1)
			b.check(0, "a", most)
		}
	}
}

// P18.6: one cell that is given to one name behind the other, more often than there are ids of timers for its handles.
func TestOneCellManyTimes(t *testing.T) {
	g := newEngine(t, 1, 0)
	g.Set(0, api.Policy{Kind: api.Bucket, Limit: 1, Window: 1})
	for now := range 1<<14 + 100 {
		g.Tick(now)
		a := api.Ask{Key: string([]byte{byte(now), byte(now >> 8)}), Weight: 1}
		if told := g.Check(a); told.Code != api.OK || !told.Verdict.Allowed {
			t.Fatalf("at %d: %v", now, told)
		}
		a.Key = "more"
		if told := g.Check(a); told.Code != api.ErrCapacity {
			t.Fatalf("at %d: %v", now, told)
		}
	}
}

// P18.6: all cells, many names, of which some count.
func TestManyNames(t *testing.T) {
	for seed := range uint64(3) {
		b := newBoth(t, 64, seed)
		b.set(0, kinds[0])
		b.set(1, api.Policy{Kind: api.Exact, Limit: 1, Window: 50})
		for i := range 600 {
			b.tick(i / 8)
			b.check(i%16/15, fmt.Sprint("key ", i), 1)
		}
		b.work(1000)
	}
}

// P18.1: a copy tells what the engine would, also how much is done, and in how many cells; what is done to one is not done to the other.
func TestCopy(t *testing.T) {
	r := rand.New(rand.NewSource(2))
	for range 60 {
		cells := 1 + r.Intn(6)
		b := newBoth(t, cells, r.Uint64())
		for range 60 {
			b.do(anyStep(r, 2*cells, b.m.now))
		}
		b.tick(b.m.now + r.Intn(10))
		c, other := b.copy(), b.copy()
		count(t, c.g, b.g.Count())
		for range 30 {
			other.do(anyStep(r, 2*cells, other.m.now))
		}
		b.same()
		for range 60 {
			x := anyStep(r, 2*cells, b.m.now)
			b.do(x)
			c.do(x)
			count(t, c.g, b.g.Count())
			if most := r.Intn(20) - 15; b.work(most) != c.work(most) {
				t.Fatalf("Work(%d): not the same of the copy", most)
			}
			count(t, c.g, b.g.Count())
		}
	}
}

// P18.1 to P18.6: whatever is asked, however many cells there are, whichever the seed, and however little is worked, what is told is what the histories tell; of two seeds all is told alike.
func TestAgainstModel(t *testing.T) {
	r := rand.New(rand.NewSource(1))
	for _, cells := range []int{1, 1, 2, 2, 3, 4, 7, 16, 64} {
		for _, keys := range []int{cells, cells + 1, 3*cells + 1} {
			for range 4 {
				play(t, r, cells, keys)
			}
		}
	}
}

// play does the same of three engines, of which one never works, and the two others are of two seeds.
func play(t *testing.T, r *rand.Rand, cells, keys int) {
	t.Helper()
	idle, one, two := newBoth(t, cells, 0), newBoth(t, cells, r.Uint64()), newBoth(t, cells, r.Uint64())
	for id := range 3 {
		p := anyPolicy(r)
		for _, b := range []both{idle, one, two} {
			b.set(id, p)
		}
	}
	start := []int{0, 1<<18 - 30, 1<<24 - 30, lastTick - 100}[r.Intn(4)]
	for _, b := range []both{idle, one, two} {
		b.tick(start)
	}
	for range 150 {
		x := anyStep(r, keys, idle.m.now)
		if x.kind != 8 {
			idle.do(x)
		}
		one.do(x)
		two.do(x)
		if one.g.Count() != two.g.Count() {
			t.Fatalf("Count: %d and %d, of two seeds", one.g.Count(), two.g.Count())
		}
	}
	idle.work(1000)
	if n, m := one.work(1000), two.work(1000); n != m {
		t.Fatalf("Work: %d and %d, of two seeds", n, m)
	}
}

// P1, P5 (by the engine): what is refused is let in when Retry is over, and not one tick sooner.
func TestRetry(t *testing.T) {
	r := rand.New(rand.NewSource(3))
	for range 200 {
		p := anyPolicy(r)
		if policy.Check(p) != api.OK {
			t.Fatalf("%v may not be", p)
		}
		b := newBoth(t, 1, 0)
		b.set(0, p)
		b.tick(r.Intn(100))
		for range 10 {
			w := 1 + r.Intn(p.Limit)
			told := b.check(0, "a", w)
			if told.Verdict.Allowed {
				b.tick(b.m.now + r.Intn(2))
				continue
			}
			at := b.m.now + told.Verdict.Retry
			b.tick(at - 1)
			b.peek(api.Ask{Key: "a", Weight: w})
			if b.g.Peek(api.Ask{Key: "a", Weight: w}).Verdict.Allowed {
				t.Fatalf("%v: %d let in too soon", p, w)
			}
			b.tick(at)
			allowed(t, b.check(0, "a", w), true)
		}
	}
}
