package wheel

import (
	"math"
	"math/rand"
	"slices"
	"testing"

	"sandglass/api"
)

const lastId = 1<<20 - 1

// wrongSlots and wrongIds are those of no row, and those that may not be.
var (
	wrongSlots = []int{-1, -2, -63, -64, math.MinInt, 64, 65, 127, 128, 1 << 32, 1<<32 + 1, math.MaxInt}
	wrongIds   = []int{-1, -2, -64, math.MinInt, 1 << 20, 1<<20 + 1, 1 << 32, 1<<32 + 1, math.MaxInt}
)

// model is a wheel in the document's words: rows, and nothing else.
type model [64][]int

// only is a wheel with but one row that has something.
func only(slot int, ids ...int) *model {
	m := &model{}
	m[slot] = ids
	return m
}

func (m *model) where(id int) (int, bool) {
	for slot, row := range m {
		if slices.Contains(row, id) {
			return slot, true
		}
	}
	return 0, false
}

func (m *model) drop(id int) bool {
	slot, there := m.where(id)
	if there {
		at := slices.Index(m[slot], id)
		m[slot] = slices.Concat(m[slot][:at], m[slot][at+1:])
	}
	return there
}

func (m *model) add(slot, id int) api.Errno {
	if slot < 0 || slot > 63 || id < 0 || id > lastId {
		return api.ErrArg
	}
	m.drop(id)
	m[slot] = append(slices.Clone(m[slot]), id)
	return api.OK
}

func (m *model) next(from int) (int, bool) {
	for slot, row := range m {
		if slot >= from && len(row) > 0 {
			return slot, true
		}
	}
	return 0, false
}

// same holds all that a wheel tells against the model; ids may be in it or not.
func same(t *testing.T, w *Wheel, m *model, ids ...int) {
	t.Helper()
	count, mask := 0, uint64(0)
	for slot, row := range m {
		if got := w.Row(slot); !slices.Equal(got, row) {
			t.Fatalf("Row(%d): %v, not %v", slot, got, row)
		}
		count += len(row)
		if len(row) > 0 {
			mask |= 1 << slot
		}
	}
	if got := w.Mask(); got != mask {
		t.Fatalf("Mask: %#x, not %#x", got, mask)
	}
	if got := w.Len(); got != count {
		t.Fatalf("Len: %d, not %d", got, count)
	}
	for _, id := range append(slices.Concat(m[:]...), ids...) {
		slot, there := w.Where(id)
		if wantSlot, want := m.where(id); slot != wantSlot || there != want {
			t.Fatalf("Where(%d): %d, %v, not %d, %v", id, slot, there, wantSlot, want)
		}
	}
	for _, from := range append([]int{math.MinInt, -64, -1, 64, 65, 1 << 32, math.MaxInt}, slices.Collect(numbers(64))...) {
		slot, there := w.Next(from)
		if wantSlot, want := m.next(from); slot != wantSlot || there != want {
			t.Fatalf("Next(%d): %d, %v, not %d, %v", from, slot, there, wantSlot, want)
		}
	}
}

// numbers goes through the numbers below n.
func numbers(n int) func(func(int) bool) {
	return func(yield func(int) bool) {
		for i := range n {
			if !yield(i) {
				return
			}
		}
	}
}

func add(t *testing.T, w *Wheel, slot, id int, want api.Errno) {
	t.Helper()
	if e := w.Add(slot, id); e != want {
		t.Fatalf("Add(%d, %d): %d, not %d", slot, id, e, want)
	}
}

// P7.1: a new wheel has nothing.
func TestNew(t *testing.T) {
	w := New()
	if w == nil {
		t.Fatal("New: nil")
	}
	same(t, w, &model{}, 0, 1, lastId)
}

// P7.1 to P7.3: each row by itself, with the least id and the greatest, and its bit.
func TestEveryRow(t *testing.T) {
	for slot := range 64 {
		w := New()
		add(t, w, slot, lastId, api.OK)
		add(t, w, slot, 0, api.OK)
		same(t, w, only(slot, lastId, 0), 1)
		if w.Mask() != 1<<slot {
			t.Errorf("slot %d: Mask %#x", slot, w.Mask())
		}
		if !w.Drop(lastId) {
			t.Errorf("slot %d: Drop", slot)
		}
		same(t, w, only(slot, 0), lastId)
		if !w.Drop(0) {
			t.Errorf("slot %d: Drop", slot)
		}
		same(t, w, &model{}, 0, lastId)
	}
}

// P7.2: the document's example, of every two rows.
func TestAddToAnotherRow(t *testing.T) {
	for from := range 64 {
		for to := range 64 {
			w := New()
			add(t, w, from, 5, api.OK)
			add(t, w, to, 5, api.OK)
			same(t, w, only(to, 5))
		}
	}
}

// P7.2: whoever is added anew to its own row is the last one there, wherever it was.
func TestAddToTheSameRow(t *testing.T) {
	for at, want := range [][]int{{8, 9, 7}, {7, 9, 8}, {7, 8, 9}} {
		w := New()
		for id := 7; id <= 9; id++ {
			add(t, w, 3, id, api.OK)
		}
		add(t, w, 3, 7+at, api.OK)
		same(t, w, &model{3: want})
		add(t, w, 3, 6, api.OK)
		same(t, w, &model{3: append(want, 6)})
	}
}

// P7.2: rows and ids that may not be; R4: nothing changes, and an id stays where it was.
func TestAddOfWrong(t *testing.T) {
	w, m := New(), &model{0: {0, 7}, 63: {lastId}}
	for slot, row := range m {
		for _, id := range row {
			add(t, w, slot, id, api.OK)
		}
	}
	for _, slot := range wrongSlots {
		for _, id := range append([]int{0, 7, 8, lastId}, wrongIds...) {
			add(t, w, slot, id, api.ErrArg)
		}
	}
	for _, id := range wrongIds {
		for _, slot := range []int{0, 1, 63} {
			add(t, w, slot, id, api.ErrArg)
		}
		if w.Drop(id) {
			t.Errorf("Drop(%d)", id)
		}
	}
	same(t, w, m, append([]int{8}, wrongIds...)...)
}

// P7.3: there is nothing in rows that there are not.
func TestWrongRows(t *testing.T) {
	w, m := New(), &model{}
	for slot := range 64 {
		add(t, w, slot, slot, api.OK)
		m.add(slot, slot)
	}
	for _, slot := range wrongSlots {
		if row, ids := w.Row(slot), w.Empty(slot); len(row) != 0 || len(ids) != 0 {
			t.Errorf("Row(%d): %v, Empty: %v", slot, row, ids)
		}
	}
	same(t, w, m)
}

// everyOrder tells all orders of the numbers below n.
func everyOrder(n int) [][]int {
	if n == 0 {
		return [][]int{nil}
	}
	var orders [][]int
	for _, o := range everyOrder(n - 1) {
		for at := range n {
			orders = append(orders, slices.Insert(slices.Clone(o), at, n-1))
		}
	}
	return orders
}

// P7.2, P7.4: a row of up to five ids, dropped in all orders, and filled again; another row stays.
func TestDropInEveryOrder(t *testing.T) {
	for many := range 6 {
		for _, order := range everyOrder(many) {
			w, m := New(), &model{}
			add(t, w, 9, 50, api.OK)
			m.add(9, 50)
			for id := range many {
				add(t, w, 8, id, api.OK)
				m.add(8, id)
			}
			for _, id := range order {
				if !w.Drop(id) || w.Drop(id) {
					t.Fatalf("order %v: Drop(%d)", order, id)
				}
				m.drop(id)
				same(t, w, m, order...)
			}
			for _, id := range order {
				add(t, w, 8, id, api.OK)
				m.add(8, id)
			}
			same(t, w, m, order...)
		}
	}
}

// P7.3: a row that is emptied is told once, and may be filled again.
func TestEmpty(t *testing.T) {
	w := New()
	for _, id := range []int{4, 2, 8, 0} {
		add(t, w, 31, id, api.OK)
	}
	add(t, w, 32, 1, api.OK)
	w.Drop(8)
	if ids := w.Empty(31); !slices.Equal(ids, []int{4, 2, 0}) {
		t.Errorf("Empty: %v", ids)
	}
	same(t, w, &model{32: {1}}, 0, 2, 4, 8)
	if ids := w.Empty(31); len(ids) != 0 {
		t.Errorf("Empty of an empty row: %v", ids)
	}
	if w.Drop(4) {
		t.Error("Drop of one that is in no row")
	}
	add(t, w, 31, 2, api.OK)
	add(t, w, 32, 4, api.OK)
	same(t, w, &model{31: {2}, 32: {1, 4}}, 0, 8)
}

// P7.1, P7.3: of any rows that have something, Next and Mask tell these.
func TestNextOfManyMasks(t *testing.T) {
	r := rand.New(rand.NewSource(2))
	masks := []uint64{0, 1, 1 << 63, 1<<63 | 1, 3 << 31, math.MaxUint64, math.MaxUint64 - 1, math.MaxUint64 >> 1, 0x5555555555555555}
	for range 50 {
		masks = append(masks, r.Uint64(), r.Uint64()&r.Uint64()&r.Uint64())
	}
	for _, mask := range masks {
		w, m := New(), &model{}
		for _, slot := range r.Perm(64) {
			if mask>>slot&1 == 1 {
				add(t, w, slot, 1000+slot, api.OK)
				m.add(slot, 1000+slot)
			}
		}
		if w.Mask() != mask {
			t.Errorf("Mask: %#x, not %#x", w.Mask(), mask)
		}
		same(t, w, m)
	}
}

// P7.3: of a nil Wheel, and of one that New did not make, which has no rows.
func TestNone(t *testing.T) {
	for _, w := range []*Wheel{nil, {}} {
		for range 2 {
			for _, slot := range append([]int{0, 1, 63}, wrongSlots...) {
				for _, id := range append([]int{0, 1, lastId}, wrongIds...) {
					add(t, w, slot, id, api.ErrArg)
					if at, there := w.Where(id); at != 0 || there || w.Drop(id) {
						t.Errorf("Where(%d): %d, %v", id, at, there)
					}
				}
				if row, ids := w.Row(slot), w.Empty(slot); len(row) != 0 || len(ids) != 0 {
					t.Errorf("Row(%d): %v, Empty: %v", slot, row, ids)
				}
				if at, there := w.Next(slot); at != 0 || there {
					t.Errorf("Next(%d): %d, %v", slot, at, there)
				}
			}
			if w.Mask() != 0 || w.Len() != 0 {
				t.Errorf("Mask %#x, Len %d", w.Mask(), w.Len())
			}
		}
	}
}

// R5: what is answered shares nothing with the wheel, nor with what is answered later on.
func TestSharesNothing(t *testing.T) {
	w, m := New(), &model{5: {1, 2, 3}}
	for id := 1; id <= 3; id++ {
		add(t, w, 5, id, api.OK)
	}
	row := w.Row(5)
	row[0] = 99
	_ = append(row[:1], 98)
	same(t, w, m, 98, 99)
	again := w.Row(5)
	add(t, w, 5, 4, api.OK)
	w.Drop(1)
	emptied := w.Empty(5)
	add(t, w, 5, 7, api.OK)
	if !slices.Equal(again, []int{1, 2, 3}) || !slices.Equal(emptied, []int{2, 3, 4}) {
		t.Errorf("what was answered was changed: %v, %v", again, emptied)
	}
	emptied[0] = 99
	same(t, w, &model{5: {7}}, 99)
}

// R6: two wheels do not touch one another.
func TestTwoWheels(t *testing.T) {
	a, b := New(), New()
	add(t, a, 3, 5, api.OK)
	same(t, b, &model{}, 5)
	add(t, b, 4, 5, api.OK)
	same(t, a, &model{3: {5}})
	a.Empty(3)
	same(t, b, &model{4: {5}})
}

// P7.4: a long row keeps its order, whoever leaves it; leaving it from the front is no longer work than from the end.
func TestLongRow(t *testing.T) {
	const many = 1 << 17
	w := New()
	for id := range many {
		add(t, w, 11, id, api.OK)
	}
	for id := range many {
		if id%4 != 0 && !w.Drop(id) {
			t.Fatalf("Drop(%d)", id)
		}
	}
	for id := 0; id < many; id += 8 {
		add(t, w, 11, id, api.OK)
	}
	var want []int
	for id := 4; id < many; id += 8 {
		want = append(want, id)
	}
	for id := 0; id < many; id += 8 {
		want = append(want, id)
	}
	if row := w.Row(11); !slices.Equal(row, want) || w.Len() != many/4 {
		t.Errorf("%d ids, Len %d", len(row), w.Len())
	}
}

// anyOf tells one of the numbers below n, or a wrong one, now and then.
func anyOf(r *rand.Rand, n int, wrong []int) int {
	if r.Intn(20) == 0 {
		return wrong[r.Intn(len(wrong))]
	}
	return r.Intn(n)
}

// P7.1 to P7.4: whatever is called, a wheel tells what the document's words tell.
func TestAgainstModel(t *testing.T) {
	r := rand.New(rand.NewSource(1))
	for _, c := range []struct{ slots, ids int }{{1, 4}, {2, 8}, {64, 3}, {64, 200}, {5, 40}} {
		w, m := New(), &model{}
		for range 1500 {
			slot, id := anyOf(r, c.slots, wrongSlots), anyOf(r, c.ids, wrongIds)
			switch r.Intn(12) {
			case 0, 1, 2:
				if got, want := w.Drop(id), m.drop(id); got != want {
					t.Fatalf("Drop(%d): %v, not %v", id, got, want)
				}
			case 3:
				var want []int
				if slot >= 0 && slot < 64 {
					want, m[slot] = m[slot], nil
				}
				if got := w.Empty(slot); !slices.Equal(got, want) {
					t.Fatalf("Empty(%d): %v, not %v", slot, got, want)
				}
			default:
				add(t, w, slot, id, m.add(slot, id))
			}
			same(t, w, m, slices.Collect(numbers(c.ids))...)
		}
	}
}
