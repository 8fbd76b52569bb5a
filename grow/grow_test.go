package grow

import (
	"maps"
	"math"
	"math/rand"
	"slices"
	"strconv"
	"strings"
	"testing"

	"sandglass/api"
)

// model is a Grow in the document's words: a map, how many bits there are, and which keys are left in the elder table.
type model struct {
	bits   int
	values map[string]int
	elder  map[string]bool
}

func newModel(bits int) *model {
	return &model{bits: bits, values: map[string]int{}, elder: map[string]bool{}}
}

func (m *model) put(key string, value int) api.Errno {
	_, there := m.values[key]
	switch {
	case len(key) == 0 || len(key) > 33:
		return api.ErrArg
	case !there && len(m.values) == 256:
		return api.ErrFull
	}
	if !there && len(m.elder) == 0 && m.bits < 8 && 4*(len(m.values)+1) > 3*(1<<m.bits) {
		m.bits++
		for key := range m.values {
			m.elder[key] = true
		}
	}
	m.values[key] = value
	delete(m.elder, key)
	return api.OK
}

func (m *model) drop(key string) bool {
	_, there := m.values[key]
	delete(m.values, key)
	delete(m.elder, key)
	return there
}

// follow leaves in the model's elder table those that are left in g's, as it is free which ones are moved: just so many more have gone.
func (m *model) follow(t *testing.T, g *Grow, moved int) {
	t.Helper()
	ahead := len(m.elder)
	for key := range maps.Clone(m.elder) {
		if _, there := g.elder.Get(key); !there {
			delete(m.elder, key)
		}
	}
	if len(m.elder) != ahead-min(moved, ahead) {
		t.Fatalf("%d of %d were moved, not %d", ahead-len(m.elder), ahead, moved)
	}
}

// same holds all that a Grow tells against the model; others are keys that may be there or not.
func same(t *testing.T, g *Grow, m *model, others []string) {
	t.Helper()
	if g.Len() != len(m.values) || g.Left() != len(m.elder) || g.Bits() != m.bits {
		t.Fatalf("Len %d, Left %d, Bits %d, not %d, %d, %d", g.Len(), g.Left(), g.Bits(), len(m.values), len(m.elder), m.bits)
	}
	if keys := g.Keys(); !slices.Equal(keys, slices.Sorted(maps.Keys(m.values))) {
		t.Fatalf("Keys: %q, not of %v", keys, m.values)
	}
	for _, key := range others {
		want, is := m.values[key]
		if value, there := g.Get(key); value != want || there != is {
			t.Fatalf("Get(%q): %d, %v, not %d, %v", key, value, there, want, is)
		}
	}
	sides(t, g, m)
}

// sides holds the two tables against the model: how great they are, and what is in which.
func sides(t *testing.T, g *Grow, m *model) {
	t.Helper()
	if n := len(g.newer.Slots()); n != 1<<m.bits {
		t.Fatalf("the newer table has %d slots", n)
	}
	elder := 0
	if len(m.elder) > 0 {
		elder = 1 << (m.bits - 1)
	}
	if n := len(g.elder.Slots()); n != elder {
		t.Fatalf("the elder table has %d slots, not %d", n, elder)
	}
	if keys := g.elder.Keys(); !slices.Equal(keys, slices.Sorted(maps.Keys(m.elder))) {
		t.Fatalf("in the elder table: %q, not %v", keys, m.elder)
	}
	for _, key := range g.newer.Keys() {
		if m.elder[key] {
			t.Fatalf("%q is in both tables", key)
		}
	}
}

func newGrow(t *testing.T, seed uint64, bits int) *Grow {
	t.Helper()
	g, e := New(seed, bits)
	if e != api.OK || g == nil {
		t.Fatalf("New(%#x, %d): %d", seed, bits, e)
	}
	return g
}

func put(t *testing.T, g *Grow, m *model, key string, value int) {
	t.Helper()
	e := g.Put(key, value)
	if want := m.put(key, value); e != want {
		t.Fatalf("Put(%q, %d): %d, not %d", key, value, e, want)
	}
	if e == api.OK {
		m.follow(t, g, 2)
	}
}

func move(t *testing.T, g *Grow, m *model, most int) {
	t.Helper()
	want := min(max(most, 0), len(m.elder))
	if n := g.Move(most); n != want {
		t.Fatalf("Move(%d): %d, not %d", most, n, want)
	}
	m.follow(t, g, want)
}

func drop(t *testing.T, g *Grow, m *model, key string) {
	t.Helper()
	was := g.Delete(key)
	if want := m.drop(key); was != want {
		t.Fatalf("Delete(%q): %v, not %v", key, was, want)
	}
}

func numbered(many int) []string {
	var keys []string
	for i := range many {
		keys = append(keys, "k"+strconv.Itoa(i))
	}
	return keys
}

// P6.1: all that may be.
func TestNew(t *testing.T) {
	for bits := 1; bits <= 8; bits++ {
		for _, seed := range []uint64{0, 1, 1 << 63, math.MaxUint64} {
			same(t, newGrow(t, seed, bits), newModel(bits), []string{"", "a"})
		}
	}
}

// P6.1: what may not be.
func TestNewOfWrong(t *testing.T) {
	for _, bits := range []int{0, -1, -8, math.MinInt, 9, 10, 62, 63, 64, 65, 1<<32 + 1, math.MaxInt} {
		if g, e := New(1, bits); g != nil || e != api.ErrArg {
			t.Errorf("New(1, %d): %v, %d", bits, g, e)
		}
	}
}

// P6.2: the document's example.
func TestExample(t *testing.T) {
	g := newGrow(t, 1, 2)
	for i, c := range []struct{ bits, left int }{{2, 0}, {2, 0}, {2, 0}, {3, 1}} {
		if e := g.Put(strconv.Itoa(i), i); e != api.OK || g.Bits() != c.bits || g.Left() != c.left || g.Len() != i+1 {
			t.Fatalf("key %d: %d, Bits %d, Left %d, Len %d", i, e, g.Bits(), g.Left(), g.Len())
		}
	}
}

// P6.2: of all bits to begin with, keys till there is no room: when it begins, and how many are left.
func TestFill(t *testing.T) {
	keys := numbered(258)
	begins := map[int][]int{1: {2, 4, 7, 13, 25, 49, 97}, 2: {4, 7, 13, 25, 49, 97}, 3: {7, 13, 25, 49, 97}, 4: {13, 25, 49, 97}, 5: {25, 49, 97}, 6: {49, 97}, 7: {97}, 8: nil}
	for bits := 1; bits <= 8; bits++ {
		g, m := newGrow(t, 3, bits), newModel(bits)
		var began []int
		for i, key := range keys {
			ahead := g.Bits()
			put(t, g, m, key, i)
			if g.Bits() != ahead {
				began = append(began, g.Len())
			}
			same(t, g, m, keys)
		}
		if !slices.Equal(began, begins[bits]) {
			t.Errorf("bits %d: began to move at %v, not at %v", bits, began, begins[bits])
		}
		if g.Len() != 256 || g.Left() != 0 || g.Bits() != 8 || g.Put("x", 1) != api.ErrFull || g.Put("", 1) != api.ErrArg {
			t.Errorf("bits %d: Len %d, Left %d, Bits %d", bits, g.Len(), g.Left(), g.Bits())
		}
		put(t, g, m, keys[7], -7)
		drop(t, g, m, keys[9])
		put(t, g, m, "x", 1)
		put(t, g, m, "y", 1)
		same(t, g, m, append(keys, "x", "y"))
	}
}

// P6.2: a key that is there does not make it begin; three fewer are left of one out of the elder table, else two.
func TestPutOfOneThatIsThere(t *testing.T) {
	g, m := newGrow(t, 8, 4), newModel(4)
	keys := numbered(40)
	for i, key := range keys[:12] {
		put(t, g, m, key, i)
	}
	for range 3 {
		for _, key := range keys[:12] {
			put(t, g, m, key, 5)
		}
	}
	if g.Bits() != 4 || g.Left() != 0 {
		t.Fatalf("Bits %d, Left %d", g.Bits(), g.Left())
	}
	put(t, g, m, keys[12], 1)
	if g.Bits() != 5 || g.Left() != 10 {
		t.Fatalf("Bits %d, Left %d", g.Bits(), g.Left())
	}
	put(t, g, m, keys[12], 2)
	if g.Left() != 8 {
		t.Fatalf("Left %d behind a key of the newer table", g.Left())
	}
	put(t, g, m, g.elder.Keys()[3], 2)
	if g.Left() != 5 {
		t.Fatalf("Left %d behind a key of the elder table", g.Left())
	}
	put(t, g, m, keys[20], 2)
	put(t, g, m, g.elder.Keys()[0], 2)
	if g.Left() != 0 || g.Bits() != 5 || g.Len() != 14 {
		t.Fatalf("Left %d, Bits %d, Len %d", g.Left(), g.Bits(), g.Len())
	}
	same(t, g, m, keys)
}

// P6.2: as many as are left, if these are fewer than two; the last one may be the key itself.
func TestPutOfTheLast(t *testing.T) {
	for _, left := range []int{1, 2, 3} {
		for _, own := range []bool{true, false} {
			g, m := newGrow(t, 8, 3), newModel(3)
			for i, key := range numbered(7) {
				put(t, g, m, key, i)
			}
			move(t, g, m, 4-left)
			key := "other"
			if own {
				key = g.elder.Keys()[0]
			}
			put(t, g, m, key, 100)
			want := max(left-2, 0)
			if own {
				want = max(left-3, 0)
			}
			if g.Left() != want {
				t.Errorf("Left %d, not %d", g.Left(), want)
			}
			same(t, g, m, append(numbered(7), "other"))
		}
	}
}

// P6.2: keys that may not be, ahead of whether there is room; R4: nothing changes, while it moves, nor where it would begin.
func TestWrongKeys(t *testing.T) {
	wrongs := []string{"", strings.Repeat("a", 34), strings.Repeat("\x00", 35), strings.Repeat("é", 17), strings.Repeat("a", 1000)}
	for _, many := range []int{0, 6, 7, 8, 24, 25, 256} {
		g, m := newGrow(t, 2, 3), newModel(3)
		for i, key := range numbered(many) {
			put(t, g, m, key, i)
		}
		elder := g.elder.Slots()
		newer := g.newer.Slots()
		for _, key := range wrongs {
			if e := g.Put(key, 1); e != api.ErrArg {
				t.Errorf("Put(%q): %d", key, e)
			}
			if v, is := g.Get(key); v != 0 || is || g.Delete(key) {
				t.Errorf("Get(%q): %d, %v", key, v, is)
			}
		}
		if many == 256 && g.Put("x", 1) != api.ErrFull {
			t.Error("Put of one too many")
		}
		if !slices.Equal(g.elder.Slots(), elder) || !slices.Equal(g.newer.Slots(), newer) {
			t.Errorf("%d keys: Put that was refused changed the tables", many)
		}
		same(t, g, m, append(numbered(many), wrongs...))
	}
}

// P6.2: a key has up to 33 bytes, whatever they are.
func TestLongKeys(t *testing.T) {
	g, m := newGrow(t, 2, 1), newModel(1)
	keys := []string{"\x00", strings.Repeat("\x00", 33), strings.Repeat("\xff", 32), strings.Repeat("a", 33), strings.Repeat("é", 16) + "e"}
	for i, key := range keys {
		put(t, g, m, key, i)
		same(t, g, m, keys)
	}
}

// P6.3: any number may be a value, and is told apart from none, in either table.
func TestValues(t *testing.T) {
	g, m := newGrow(t, 6, 3), newModel(3)
	for i, v := range []int{0, 1, -1, math.MinInt, math.MaxInt, 1 << 32, 0} {
		put(t, g, m, numbered(7)[i], v)
	}
	for g.Left() > 0 {
		same(t, g, m, numbered(9))
		move(t, g, m, 1)
	}
	same(t, g, m, numbered(9))
}

// P6.3: keys of both tables are deleted; what is left falls only by those of the elder one; the last one of it ends the move.
func TestDelete(t *testing.T) {
	keys := numbered(13)
	for _, elderFirst := range []bool{true, false} {
		g, m := newGrow(t, 1, 4), newModel(4)
		for i, key := range keys {
			put(t, g, m, key, i)
		}
		for len(m.values) > 0 {
			key := g.Keys()[0]
			if elderFirst && g.Left() > 0 {
				key = g.elder.Keys()[0]
			} else if !elderFirst && g.newer.Len() > 0 {
				key = g.newer.Keys()[0]
			}
			drop(t, g, m, key)
			drop(t, g, m, key)
			same(t, g, m, keys)
		}
		if g.Bits() != 5 {
			t.Errorf("Bits %d", g.Bits())
		}
		put(t, g, m, "a", 1)
		same(t, g, m, append(keys, "a"))
	}
}

// P6.4: as many as most tells, or as are left.
func TestMove(t *testing.T) {
	keys := numbered(25)
	for _, mosts := range [][]int{{-1, 0, math.MinInt, 1, 2, 3, 100, 1}, {22, 1}, {21, -1, 1, 1}, {23}, {math.MaxInt, math.MaxInt}, {1 << 32}} {
		g, m := newGrow(t, 5, 5), newModel(5)
		move(t, g, m, 3)
		for i, key := range keys {
			put(t, g, m, key, i)
		}
		if g.Left() != 22 || g.Bits() != 6 {
			t.Fatalf("Left %d, Bits %d", g.Left(), g.Bits())
		}
		for _, most := range mosts {
			move(t, g, m, most)
			same(t, g, m, keys)
		}
	}
}

// P6.5: nothing but a Put of a key that is not there begins to move.
func TestOnlyPutBegins(t *testing.T) {
	g, m := newGrow(t, 5, 3), newModel(3)
	keys := numbered(6)
	for i, key := range keys {
		put(t, g, m, key, i)
	}
	for range 3 {
		g.Get("k1")
		g.Get("x")
		g.Keys()
		g.Delete("x")
		g.Move(5)
		g.Len()
		put(t, g, m, "k1", 9)
		drop(t, g, m, "k2")
		put(t, g, m, "k2", 9)
		if g.Bits() != 3 || g.Left() != 0 {
			t.Fatalf("Bits %d, Left %d", g.Bits(), g.Left())
		}
		same(t, g, m, keys)
	}
}

// P6.1: keys of both tables rise together, by their bytes.
func TestKeysByBytes(t *testing.T) {
	want := []string{"\x00", "\x00\x00", "A", "Z", "a", "a\x00", "aa", "b", "e", "z", "\x80", "é", "\xff"}
	for seed := range uint64(20) {
		g, m := newGrow(t, seed, 4), newModel(4)
		for _, i := range rand.New(rand.NewSource(int64(seed))).Perm(len(want)) {
			put(t, g, m, want[i], i)
		}
		if keys := g.Keys(); !slices.Equal(keys, want) || g.Left() != 10 {
			t.Errorf("%q, Left %d", keys, g.Left())
		}
	}
}

// P6.1 to P6.5: whatever is called, it is a map, and each key is in one of both tables.
func TestAgainstModel(t *testing.T) {
	r := rand.New(rand.NewSource(1))
	for bits := 1; bits <= 8; bits++ {
		for _, many := range []int{5, 30, 120, 300} {
			g, m := newGrow(t, r.Uint64(), bits), newModel(bits)
			keys := numbered(many)
			for range 100 + 4*many {
				key := keys[r.Intn(len(keys))]
				switch n := r.Intn(20); {
				case n < 13:
					put(t, g, m, key, int(r.Uint64()))
				case n < 17:
					drop(t, g, m, key)
				case n < 19:
					move(t, g, m, r.Intn(8)-2)
				default:
					put(t, g, m, strings.Repeat("x", 34*r.Intn(2)), 1)
				}
				same(t, g, m, keys)
			}
		}
	}
}

// P6.4: of a nil Grow, and of one that New did not make, which has no table.
func TestNone(t *testing.T) {
	for _, g := range []*Grow{nil, {}} {
		for range 2 {
			for _, key := range []string{"", "a", strings.Repeat("a", 33), strings.Repeat("a", 34)} {
				if e := g.Put(key, 1); e != api.ErrFull {
					t.Errorf("Put(%q): %d", key, e)
				}
				if v, is := g.Get(key); v != 0 || is || g.Delete(key) {
					t.Errorf("Get(%q): %d, %v", key, v, is)
				}
			}
			for _, most := range []int{-1, 0, 1, math.MaxInt} {
				if n := g.Move(most); n != 0 {
					t.Errorf("Move(%d): %d", most, n)
				}
			}
			if g.Left() != 0 || g.Len() != 0 || g.Bits() != 0 || len(g.Keys()) != 0 {
				t.Errorf("Left %d, Len %d, Bits %d, Keys %q", g.Left(), g.Len(), g.Bits(), g.Keys())
			}
		}
	}
}

// R5: what is answered shares nothing, whether there is an elder table or not.
func TestSharesNothing(t *testing.T) {
	for _, many := range []int{6, 7} {
		g, m := newGrow(t, 1, 3), newModel(3)
		for i, key := range numbered(many) {
			put(t, g, m, key, i)
		}
		keys, kept := g.Keys(), g.Keys()
		keys[0], keys[many-1] = "z", "z"
		_ = append(keys, "y")
		same(t, g, m, numbered(many))
		put(t, g, m, "a", 1)
		drop(t, g, m, "k1")
		if !slices.Equal(kept, numbered(many)) {
			t.Errorf("what was answered was changed: %q", kept)
		}
	}
}

// R6: two of them do not touch one another, and tell the same where the same is asked; nothing of a map hangs on the seed.
func TestTwoGrows(t *testing.T) {
	a, b, c := newGrow(t, 4, 1), newGrow(t, 4, 1), newGrow(t, 5, 1)
	for i, key := range numbered(30) {
		for _, g := range []*Grow{a, b, c} {
			if e := g.Put(strings.Clone(key), i); e != api.OK {
				t.Fatalf("Put(%q): %d", key, e)
			}
		}
		b.Get(key)
		b.Keys()
		b.Move(0)
		if !slices.Equal(a.newer.Slots(), b.newer.Slots()) || !slices.Equal(a.elder.Slots(), b.elder.Slots()) {
			t.Fatalf("key %d: unlike tables", i)
		}
		if !slices.Equal(a.Keys(), c.Keys()) || a.Left() != c.Left() || a.Bits() != c.Bits() {
			t.Fatalf("key %d: the seed is told", i)
		}
	}
	a.Delete("k3")
	if v, is := b.Get("k3"); v != 3 || !is {
		t.Errorf("Get: %d, %v", v, is)
	}
}
