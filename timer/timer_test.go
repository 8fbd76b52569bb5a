package timer

import (
	"maps"
	"math"
	"math/rand"
	"slices"
	"testing"

	"sandglass/api"
)

const (
	lastId   = 1<<20 - 1
	lastTick = 1 << 40
)

// wrongTimes and wrongIds are those that may not be.
var (
	wrongTimes = []int{-1, -2, -64, math.MinInt, lastTick + 1, lastTick + 2, lastTick + 64, 1 << 41, math.MaxInt}
	wrongIds   = []int{-1, -2, -64, math.MinInt, 1 << 20, 1<<20 + 1, 1 << 32, 1<<32 + 1, math.MaxInt}
)

// model is a Timer in the document's words: when each id is due, and nothing else.
type model struct {
	now  int
	dues map[int]int
}

func (m *model) set(id, due int) api.Errno {
	if id < 0 || id > lastId || due < 0 || due > lastTick {
		return api.ErrArg
	}
	m.dues[id] = due
	return api.OK
}

func (m *model) cancel(id int) bool {
	_, there := m.dues[id]
	delete(m.dues, id)
	return there
}

func (m *model) advance(to int) []int {
	if to < m.now || to > lastTick {
		return nil
	}
	m.now = to
	var ids []int
	for id, due := range m.dues {
		if due <= to {
			ids = append(ids, id)
		}
	}
	// Sorted twice: what is due at one time stays rising.
	slices.Sort(ids)
	slices.SortStableFunc(ids, func(a, b int) int { return m.dues[a] - m.dues[b] })
	for _, id := range ids {
		delete(m.dues, id)
	}
	return ids
}

func (m *model) next() (int, bool) {
	if len(m.dues) == 0 {
		return 0, false
	}
	return slices.Min(slices.Collect(maps.Values(m.dues))), true
}

// same holds all that a Timer tells against the model; ids may be there or not.
func same(t *testing.T, x *Timer, m *model, ids ...int) {
	t.Helper()
	if n := x.Now(); n != m.now {
		t.Fatalf("Now: %d, not %d", n, m.now)
	}
	if n := x.Len(); n != len(m.dues) {
		t.Fatalf("Len: %d, not %d", n, len(m.dues))
	}
	at, there := x.Next()
	if want, is := m.next(); at != want || there != is {
		t.Fatalf("Next at %d: %d, %v, not %d, %v, of %v", m.now, at, there, want, is, m.dues)
	}
	for _, id := range append(slices.Collect(maps.Keys(m.dues)), ids...) {
		due, there := x.Due(id)
		if want, is := m.dues[id]; due != want || there != is {
			t.Fatalf("Due(%d): %d, %v, not %d, %v", id, due, there, want, is)
		}
	}
	onWheels(t, x)
}

// onWheels looks whether each id is on one wheel, and nothing else is.
func onWheels(t *testing.T, x *Timer) {
	t.Helper()
	count := 0
	for _, w := range x.wheels {
		count += w.Len()
	}
	if count != x.Len() {
		t.Fatalf("%d ids, but %d on the wheels", x.Len(), count)
	}
}

func newBoth(t *testing.T, now int) (*Timer, *model) {
	t.Helper()
	x, e := New(now)
	if e != api.OK || x == nil {
		t.Fatalf("New(%d): %d", now, e)
	}
	return x, &model{now: now, dues: map[int]int{}}
}

func set(t *testing.T, x *Timer, m *model, id, due int) {
	t.Helper()
	if e, want := x.Set(id, due), m.set(id, due); e != want {
		t.Fatalf("Set(%d, %d): %d, not %d", id, due, e, want)
	}
}

func advance(t *testing.T, x *Timer, m *model, to int) []int {
	t.Helper()
	from := m.now
	got, want := x.Advance(to), m.advance(to)
	if !slices.Equal(got, want) {
		t.Fatalf("Advance(%d) from %d: %v, not %v", to, from, got, want)
	}
	same(t, x, m, got...)
	return got
}

// edges are the times next to where the wheels' steps and turns end, and some beyond all of their turns.
func edges() []int {
	times := []int{lastTick - 1, lastTick, 5000, 1000003, 123456789012}
	for _, at := range []int{0, 1, 6, 7, 12, 13, 18, 19, 24, 25, 30, 36, 39} {
		for off := -2; off <= 2; off++ {
			if tick := 1<<at + off; tick >= 0 {
				times = append(times, tick)
			}
		}
	}
	slices.Sort(times)
	return slices.Compact(times)
}

// P8.1: all times that a Timer may begin at.
func TestNew(t *testing.T) {
	for _, now := range edges() {
		x, m := newBoth(t, now)
		same(t, x, m, 0, 1, lastId)
	}
}

// P8.1: times that may not be.
func TestNewOfWrong(t *testing.T) {
	for _, now := range wrongTimes {
		if x, e := New(now); x != nil || e != api.ErrArg {
			t.Errorf("New(%d): %v, %d", now, x, e)
		}
	}
}

// P8.3: the document's example.
func TestExample(t *testing.T) {
	x, m := newBoth(t, 0)
	set(t, x, m, 1, 100)
	set(t, x, m, 2, 5000)
	if ids := x.Advance(4999); !slices.Equal(ids, []int{1}) {
		t.Errorf("Advance(4999): %v", ids)
	}
	if ids := x.Advance(5000); !slices.Equal(ids, []int{2}) {
		t.Errorf("Advance(5000): %v", ids)
	}
}

// P8.2: ids and times that may not be; R4: nothing changes, and an id is due when it was.
func TestSetOfWrong(t *testing.T) {
	x, m := newBoth(t, 10)
	set(t, x, m, 0, 0)
	set(t, x, m, lastId, lastTick)
	set(t, x, m, 7, 4096)
	for _, id := range wrongIds {
		for _, due := range append([]int{0, 10, 11, lastTick}, wrongTimes...) {
			if e := x.Set(id, due); e != api.ErrArg {
				t.Errorf("Set(%d, %d): %d", id, due, e)
			}
		}
		if x.Cancel(id) {
			t.Errorf("Cancel(%d)", id)
		}
	}
	for _, due := range wrongTimes {
		for _, id := range []int{0, 7, 8, lastId} {
			if e := x.Set(id, due); e != api.ErrArg {
				t.Errorf("Set(%d, %d): %d", id, due, e)
			}
		}
	}
	same(t, x, m, append([]int{8}, wrongIds...)...)
	advance(t, x, m, 10)
	advance(t, x, m, lastTick-1)
	advance(t, x, m, lastTick)
}

// P8.3: times that are over or may not be: nothing is told, and nothing changes.
func TestAdvanceOfWrong(t *testing.T) {
	x, m := newBoth(t, 5000)
	for id, due := range []int{0, 4999, 5000, 5001, 1 << 30, lastTick} {
		set(t, x, m, id, due)
	}
	for _, to := range append([]int{0, 1, 4935, 4936, 4999}, wrongTimes...) {
		if ids := x.Advance(to); len(ids) != 0 {
			t.Errorf("Advance(%d): %v", to, ids)
		}
		same(t, x, m)
	}
	if ids := advance(t, x, m, 5000); !slices.Equal(ids, []int{0, 1, 2}) {
		t.Errorf("Advance(5000): %v", ids)
	}
}

// P8.3, P8.4: from each edge to each edge: not one tick too soon, just then, and just once.
func TestFromEdgeToEdge(t *testing.T) {
	for _, now := range edges() {
		for _, due := range edges() {
			x, m := newBoth(t, now)
			set(t, x, m, 3, due)
			same(t, x, m)
			if due > now {
				if ids := advance(t, x, m, due-1); len(ids) != 0 {
					t.Fatalf("from %d: %v ahead of %d", now, ids, due)
				}
			}
			if ids := advance(t, x, m, max(due, now)); !slices.Equal(ids, []int{3}) {
				t.Fatalf("from %d to %d: %v", now, due, ids)
			}
			if ids := advance(t, x, m, lastTick); len(ids) != 0 {
				t.Fatalf("from %d to %d: %v once more", now, due, ids)
			}
		}
	}
}

// P8.3, P8.4: an id at each edge; by way of any two of these, what is told in the end is the same.
func TestByWayOfEdges(t *testing.T) {
	times := edges()
	for i, first := range times {
		for _, second := range times[i:] {
			x, m := newBoth(t, 0)
			for id, due := range times {
				set(t, x, m, len(times)-id, due)
			}
			var all []int
			for _, to := range []int{first, second, lastTick} {
				all = append(all, advance(t, x, m, to)...)
			}
			if len(all) != len(times) || x.Len() != 0 {
				t.Fatalf("by way of %d and %d: %v", first, second, all)
			}
			for at, id := range all {
				if id != len(times)-at {
					t.Fatalf("by way of %d and %d: %v", first, second, all)
				}
			}
		}
	}
}

// P8.2: an id that is set anew is due at its new time alone, from any wheel to any.
func TestSetAnew(t *testing.T) {
	for _, now := range []int{0, 63, 64, 4095, 1<<18 + 1, 1<<24 - 1, 1 << 30} {
		for _, old := range edges() {
			for _, due := range edges() {
				x, m := newBoth(t, now)
				set(t, x, m, 3, old)
				set(t, x, m, 3, due)
				same(t, x, m)
				if at := max(due, now); at > now {
					advance(t, x, m, at-1)
				}
				if ids := advance(t, x, m, lastTick); !slices.Equal(ids, []int{3}) {
					t.Fatalf("at %d, from %d to %d: %v", now, old, due, ids)
				}
			}
		}
	}
}

// P8.2: an id that is cancelled is never told, on whichever wheel it was.
func TestCancel(t *testing.T) {
	for _, now := range []int{0, 60, 4095, 1 << 24} {
		for _, due := range edges() {
			x, m := newBoth(t, now)
			set(t, x, m, 3, due)
			set(t, x, m, 4, due)
			if !x.Cancel(3) || x.Cancel(3) || x.Cancel(5) {
				t.Fatalf("Cancel of what is due at %d", due)
			}
			m.cancel(3)
			same(t, x, m, 3, 5)
			if ids := advance(t, x, m, lastTick); !slices.Equal(ids, []int{4}) {
				t.Fatalf("due at %d: %v", due, ids)
			}
			if x.Cancel(4) {
				t.Fatal("Cancel of what was told")
			}
		}
	}
}

// P8.3: what was set to a time that is over is due at the next Advance, also to Now itself, ahead of what is due now.
func TestOver(t *testing.T) {
	for _, now := range edges() {
		x, m := newBoth(t, now)
		for id, due := range []int{now, max(now-1, 0), 0, now / 2, now, max(now-64, 0)} {
			set(t, x, m, id, due)
		}
		if ids := advance(t, x, m, now); len(ids) != 6 {
			t.Fatalf("at %d: %v", now, ids)
		}
		if ids := advance(t, x, m, now); len(ids) != 0 {
			t.Fatalf("at %d: %v once more", now, ids)
		}
		set(t, x, m, 1, 0)
		if now < lastTick {
			set(t, x, m, 0, now+1)
			if ids := advance(t, x, m, now+1); !slices.Equal(ids, []int{1, 0}) {
				t.Fatalf("at %d: %v", now, ids)
			}
		}
	}
}

// P8.3: by their times, and of one time rising, in whichever order they were set.
func TestOrder(t *testing.T) {
	r := rand.New(rand.NewSource(3))
	for _, due := range edges() {
		x, m := newBoth(t, 0)
		for _, id := range r.Perm(30) {
			set(t, x, m, id, max(due-id%3, 0))
		}
		ids := advance(t, x, m, lastTick)
		if due >= 2 && (!slices.Equal(ids[:10], []int{2, 5, 8, 11, 14, 17, 20, 23, 26, 29}) || ids[10] != 1 || ids[20] != 0) {
			t.Fatalf("due %d: %v", due, ids)
		}
	}
}

// P8.3: ids of many turns that wait in one row of the highest wheel, that of now among them, are told each in its turn.
func TestLaterTurns(t *testing.T) {
	const wholeTurn = 1 << 24
	for _, now := range []int{0, 5 << 18, 63<<18 + 77, wholeTurn - 1} {
		x, m := newBoth(t, now)
		for id := range 40 {
			set(t, x, m, id, now+(40-id)*wholeTurn)
		}
		set(t, x, m, 50, now+wholeTurn+wholeTurn/2)
		for range 20 {
			if first, _ := x.Next(); len(advance(t, x, m, first-1)) != 0 {
				t.Fatalf("told ahead of %d", first)
			}
			if ids := advance(t, x, m, x.Now()+1); len(ids) != 1 {
				t.Fatalf("told at %d: %v", x.Now(), ids)
			}
		}
		advance(t, x, m, now+30*wholeTurn)
		advance(t, x, m, lastTick)
	}
}

// P8.2: Next tells the first time, on whichever wheel it is, also where a row ahead of its row is of a later turn.
func TestNext(t *testing.T) {
	for _, now := range []int{0, 63, 4000, 1<<24 - 1, 1<<24 + 70<<18, 1 << 39} {
		x, m := newBoth(t, now)
		for id, ahead := range []int{1 << 30, 65<<18 + 3, 40 << 18, 40<<18 - 1, 2 << 18, 1 << 18, 70000, 4097, 4095, 4094, 70, 65, 63, 2, 1, 0} {
			set(t, x, m, id, now+ahead)
			same(t, x, m)
		}
		set(t, x, m, 100, max(now-1, 0))
		set(t, x, m, 101, max(now-2, 0))
		same(t, x, m)
		for x.Len() > 0 {
			first, there := x.Next()
			if !there || len(advance(t, x, m, max(first, x.Now()))) == 0 {
				t.Fatalf("nothing is due at %d", first)
			}
		}
	}
}

// P8.4: each tick by itself, by steps of several lengths, and all at once: the same is told.
func TestByTicks(t *testing.T) {
	for _, now := range []int{0, 4000, 1<<18 - 3000, 1<<24 - 5000} {
		const span = 10000
		var want []int
		for _, step := range []int{1, 2, 63, 64, 65, 4095, 4096, 4097, span} {
			x, m := newBoth(t, now)
			for id := range 300 {
				set(t, x, m, id, now+id*id*7%span)
			}
			var all []int
			for to := now; ; to = min(to+step, now+span) {
				all = append(all, x.Advance(to)...)
				if to == now+span {
					break
				}
			}
			if want == nil {
				want = m.advance(now + span)
			}
			if !slices.Equal(all, want) || len(all) != 300 || x.Len() != 0 {
				t.Errorf("from %d by steps of %d: %d told, not as they should be", now, step, len(all))
			}
		}
	}
}

// R1: one Advance over all of time, and one of no time at all, with many ids.
func TestFarAtOnce(t *testing.T) {
	r := rand.New(rand.NewSource(4))
	x, m := newBoth(t, 0)
	for range 20000 {
		set(t, x, m, r.Intn(lastId+1), r.Intn(lastTick+1))
	}
	advance(t, x, m, 0)
	advance(t, x, m, lastTick/2)
	advance(t, x, m, lastTick)
	if x.Len() != 0 {
		t.Errorf("%d are left", x.Len())
	}
}

// R1, P8.2: a hundred thousand ids of one time, set anew and cancelled from the first one on.
func TestManyOfOneTime(t *testing.T) {
	const many = 100000
	x, _ := newBoth(t, 0)
	for _, due := range []int{70, 5000, 1 << 30, 71} {
		for id := range many {
			x.Set(id, due)
		}
	}
	for id := range many / 2 {
		x.Cancel(id)
	}
	if ids := x.Advance(70); len(ids) != 0 {
		t.Errorf("%d told too soon", len(ids))
	}
	ids := x.Advance(71)
	if len(ids) != many/2 || ids[0] != many/2 || !slices.IsSorted(ids) {
		t.Errorf("%d told", len(ids))
	}
}

// P8.3: of a nil Timer, and of one that New did not make, which has no wheels.
func TestNone(t *testing.T) {
	for _, x := range []*Timer{nil, {}} {
		for range 2 {
			for _, id := range append([]int{0, 1, lastId}, wrongIds...) {
				for _, due := range append([]int{0, 1, lastTick}, wrongTimes...) {
					if e := x.Set(id, due); e != api.ErrArg {
						t.Errorf("Set(%d, %d): %d", id, due, e)
					}
					if ids := x.Advance(due); len(ids) != 0 {
						t.Errorf("Advance(%d): %v", due, ids)
					}
				}
				if due, there := x.Due(id); due != 0 || there || x.Cancel(id) {
					t.Errorf("Due(%d): %d, %v", id, due, there)
				}
			}
			if at, there := x.Next(); at != 0 || there || x.Now() != 0 || x.Len() != 0 {
				t.Errorf("Next %d, %v, Now %d, Len %d", at, there, x.Now(), x.Len())
			}
		}
	}
}

// R5: what is answered shares nothing with the Timer, nor with what is answered later on.
func TestSharesNothing(t *testing.T) {
	x, m := newBoth(t, 0)
	for id := range 4 {
		set(t, x, m, id, 5)
		set(t, x, m, 10+id, 6)
	}
	first := advance(t, x, m, 5)
	first[0] = 10
	_ = append(first[:1], 11)
	same(t, x, m)
	kept := slices.Clone(first)
	second := advance(t, x, m, 6)
	if !slices.Equal(first, kept) || !slices.Equal(second, []int{10, 11, 12, 13}) {
		t.Errorf("what was answered is shared: %v, %v", first, second)
	}
}

// R6: two Timers do not touch one another.
func TestTwoTimers(t *testing.T) {
	a, m := newBoth(t, 0)
	b, n := newBoth(t, 0)
	set(t, a, m, 1, 100)
	same(t, b, n, 1)
	set(t, b, n, 1, 200)
	advance(t, a, m, 150)
	same(t, b, n, 1)
	advance(t, b, n, 200)
}

// anyTime tells a time that is over, near, next to where a step or a turn ends, far, or wrong.
func anyTime(r *rand.Rand, now int) int {
	shift := 6 * r.Intn(7)
	switch r.Intn(24) {
	case 0:
		return wrongTimes[r.Intn(len(wrongTimes))]
	case 1, 2:
		return now - r.Intn(now+1)
	case 3, 4, 5:
		return (now>>shift+1+r.Intn(3))<<shift + r.Intn(3) - 1
	case 6:
		return r.Intn(lastTick + 1)
	case 7, 8:
		return now
	}
	return now + r.Intn(1<<min(shift+1, 26))
}

// P8.1 to P8.4: whatever is called, a Timer tells what the document's words tell.
func TestAgainstModel(t *testing.T) {
	r := rand.New(rand.NewSource(1))
	starts := edges()
	for range 300 {
		x, m := newBoth(t, starts[r.Intn(len(starts))])
		ids := 1 + r.Intn(60)
		for range 200 {
			id := r.Intn(ids)
			if r.Intn(20) == 0 {
				id = wrongIds[r.Intn(len(wrongIds))]
			}
			switch r.Intn(8) {
			case 0:
				if got, want := x.Cancel(id), m.cancel(id); got != want {
					t.Fatalf("Cancel(%d): %v, not %v", id, got, want)
				}
			case 1, 2:
				advance(t, x, m, anyTime(r, m.now))
			default:
				set(t, x, m, id, anyTime(r, m.now))
			}
			same(t, x, m, id)
		}
	}
}
