package recent

import (
	"math"
	"math/rand"
	"slices"
	"testing"

	"sandglass/api"
)

var wrongIds = []int{-1, -2, -64, math.MinInt32, math.MinInt + 1, math.MinInt}

// far are ids next to where a number's bytes end, and the greatest one.
var far = []int{0, 1, 63, 64, 255, 256, 1<<20 - 1, 1 << 20, 1<<31 - 1, 1 << 31, 1<<32 - 1, 1 << 32, math.MaxInt - 1, math.MaxInt}

// model is a Recent in the document's words: the order, and nothing else.
type model []int

func (m *model) touch(id int) api.Errno {
	if id < 0 {
		return api.ErrArg
	}
	m.drop(id)
	*m = append(*m, id)
	return api.OK
}

func (m *model) drop(id int) bool {
	i := slices.Index(*m, id)
	if i < 0 {
		return false
	}
	*m = slices.Delete(*m, i, i+1)
	return true
}

// same holds all that a Recent tells against the model; ids may be there or not.
func same(t *testing.T, r *Recent, m model, ids ...int) {
	t.Helper()
	if l := r.Order(); !slices.Equal(l, m) {
		t.Fatalf("Order: %v, not %v", l, m)
	}
	if n := r.Len(); n != len(m) {
		t.Fatalf("Len: %d, of %v", n, m)
	}
	id, there := r.Oldest()
	if there != (len(m) > 0) || there && id != m[0] || !there && id != 0 {
		t.Fatalf("Oldest: %d, %v, of %v", id, there, m)
	}
	for _, id := range append(slices.Clone(m), ids...) {
		want, is := 0, false
		if i := slices.Index(m, id); i >= 0 && i+1 < len(m) {
			want, is = m[i+1], true
		}
		if got, there := r.Newer(id); got != want || there != is {
			t.Fatalf("Newer(%d): %d, %v, of %v", id, got, there, m)
		}
	}
}

func touched(t *testing.T, ids ...int) (*Recent, *model) {
	t.Helper()
	r, m := New(), &model{}
	for _, id := range ids {
		touch(t, r, m, id)
	}
	return r, m
}

func touch(t *testing.T, r *Recent, m *model, id int) {
	t.Helper()
	if e, want := r.Touch(id), m.touch(id); e != want {
		t.Fatalf("Touch(%d): %d, not %d", id, e, want)
	}
}

func drop(t *testing.T, r *Recent, m *model, id int) {
	t.Helper()
	if was, want := r.Drop(id), m.drop(id); was != want {
		t.Fatalf("Drop(%d): %v, not %v", id, was, want)
	}
}

// P17.1: a new one has nothing.
func TestNew(t *testing.T) {
	same(t, New(), nil, append(far, wrongIds...)...)
	for _, id := range append(far, wrongIds...) {
		if New().Drop(id) {
			t.Errorf("Drop(%d)", id)
		}
	}
}

// P17.3: the document's example.
func TestExample(t *testing.T) {
	r, m := touched(t, 1, 2, 1)
	if id, there := r.Oldest(); id != 2 || !there {
		t.Errorf("Oldest: %d, %v", id, there)
	}
	same(t, r, *m, 0, 3)
}

// P17.1, P17.2: ids as far apart as may be, in the order in which they came.
func TestFar(t *testing.T) {
	r, m := touched(t, far...)
	same(t, r, *m, wrongIds...)
	for _, id := range []int{math.MaxInt, 0, 1 << 32, math.MaxInt, 0} {
		touch(t, r, m, id)
		same(t, r, *m, wrongIds...)
	}
}

// P17.2: ids that may not be; R4: nothing changes.
func TestWrongIds(t *testing.T) {
	for _, ids := range [][]int{nil, {0}, {0, 1}, {5, 0, 3}} {
		r, m := touched(t, ids...)
		for _, id := range wrongIds {
			if e := r.Touch(id); e != api.ErrArg {
				t.Errorf("Touch(%d): %d", id, e)
			}
			if r.Drop(id) {
				t.Errorf("Drop(%d)", id)
			}
			same(t, r, *m, wrongIds...)
		}
	}
}

// P17.2, P17.4: the first one, one between others, the last one, and the only one, touched anew and dropped: all others stay in their order.
func TestEachPlace(t *testing.T) {
	for size := range 6 {
		for at := range size {
			for _, again := range []bool{false, true} {
				r, m := touched(t)
				for id := range size {
					touch(t, r, m, id)
				}
				if again {
					touch(t, r, m, at)
				} else {
					drop(t, r, m, at)
					same(t, r, *m, at)
					drop(t, r, m, at)
				}
				same(t, r, *m, at, size)
				// What was touched or dropped once can be so again.
				touch(t, r, m, at)
				same(t, r, *m, at, size)
				for id := range size {
					drop(t, r, m, id)
					same(t, r, *m, id, size)
				}
			}
		}
	}
}

// P17.4: going from the oldest to the newer one, all are met, each once.
func TestGoing(t *testing.T) {
	r, m := touched(t, 9, 4, 7, 4, 1, 9, 9, 2)
	var met []int
	for id, there := r.Oldest(); there; id, there = r.Newer(id) {
		met = append(met, id)
		if len(met) > len(*m) {
			t.Fatalf("met %v", met)
		}
	}
	if !slices.Equal(met, []int{7, 4, 1, 9, 2}) {
		t.Errorf("met %v", met)
	}
}

// P17.3: of a nil Recent, and of one that New did not make.
func TestNone(t *testing.T) {
	for _, r := range []*Recent{nil, {}} {
		for _, id := range append(far, wrongIds...) {
			if e := r.Touch(id); e != api.ErrArg {
				t.Errorf("Touch(%d): %d", id, e)
			}
			if r.Drop(id) {
				t.Errorf("Drop(%d)", id)
			}
		}
		same(t, r, nil, append(far, wrongIds...)...)
	}
}

// R5: what is answered is new memory.
func TestSharesNothing(t *testing.T) {
	r, m := touched(t, 1, 2, 3)
	l := r.Order()
	l[0] = 99
	_ = append(l[:1], 98)
	same(t, r, *m, 98, 99)
	kept := r.Order()
	r.Touch(1)
	r.Drop(2)
	if !slices.Equal(kept, []int{1, 2, 3}) {
		t.Errorf("what was answered was changed: %v", kept)
	}
}

// R6: two of them do not touch one another.
func TestTwo(t *testing.T) {
	a, m := touched(t, 1, 2)
	b, n := touched(t, 2, 3)
	touch(t, a, m, 1)
	drop(t, b, n, 2)
	same(t, a, *m, 3)
	same(t, b, *n, 1, 2)
}

// P17.1 to P17.4: whatever is called, a Recent tells what the document's words tell.
func TestAgainstModel(t *testing.T) {
	random := rand.New(rand.NewSource(1))
	for _, ids := range []int{1, 2, 3, 5, 20, 64, 200} {
		r, m := touched(t)
		for range 500 {
			id := random.Intn(ids+1) - 1
			if random.Intn(3) == 0 {
				drop(t, r, m, id)
			} else {
				touch(t, r, m, id)
			}
			same(t, r, *m, -1, id, random.Intn(ids))
		}
	}
}
