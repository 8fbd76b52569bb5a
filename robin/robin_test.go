package robin

import (
	"maps"
	"math"
	"math/rand"
	"slices"
	"strconv"
	"strings"
	"testing"

	"sandglass/api"
	"sandglass/hash"
)

func newTable(t *testing.T, seed uint64, bits int) *Table {
	t.Helper()
	x, e := New(seed, bits)
	if e != api.OK || x == nil {
		t.Fatalf("New(%#x, %d): %d", seed, bits, e)
	}
	return x
}

func put(t *testing.T, x *Table, key string, value int, want api.Errno) {
	t.Helper()
	if e := x.Put(key, value); e != want {
		t.Fatalf("Put(%q, %d): %d, not %d", key, value, e, want)
	}
}

// keysOf tells as many keys as there are asked for, whose home that is.
func keysOf(seed uint64, bits, home, many int) []string {
	var keys []string
	for i := 0; len(keys) < many; i++ {
		if key := "k" + strconv.Itoa(i); hash.Home(hash.Sum(seed, key), bits) == home {
			keys = append(keys, key)
		}
	}
	return keys
}

// wrong tells what is wrong with slots, by the document's words; nothing, if they are well.
func wrong(seed uint64, bits int, l []api.Slot) string {
	n := 1 << bits
	if len(l) != n {
		return "how many there are"
	}
	for i, s := range l {
		ahead := l[(i+n-1)%n]
		switch {
		case !s.Used && s != api.Slot{}:
			return "one that is not used, at " + strconv.Itoa(i)
		case !s.Used:
		case s.Dist < 0 || s.Dist >= n || (hash.Home(hash.Sum(seed, s.Key), bits)+s.Dist)%n != i:
			return "Dist at " + strconv.Itoa(i)
		case s.Dist != 0 && (!ahead.Used || ahead.Dist < s.Dist-1):
			return "what is ahead of " + strconv.Itoa(i)
		}
	}
	return ""
}

// seek goes through slots from a key's home on, as P5.4 says.
func seek(seed uint64, bits int, l []api.Slot, key string) (int, bool) {
	home := hash.Home(hash.Sum(seed, key), bits)
	for far := range l {
		s := l[(home+far)%len(l)]
		if !s.Used || s.Dist < far {
			break
		}
		if s.Key == key {
			return s.Value, true
		}
	}
	return 0, false
}

// same holds all that a table tells against a map; others are keys that may be there or not.
func same(t *testing.T, x *Table, seed uint64, bits int, m map[string]int, others []string) {
	t.Helper()
	l := x.Slots()
	if s := wrong(seed, bits, l); s != "" {
		t.Fatalf("bits %d: the slots are not well: %s: %v", bits, s, l)
	}
	there := map[string]int{}
	used := 0
	for _, s := range l {
		if s.Used {
			there[s.Key] = s.Value
			used++
		}
	}
	if !maps.Equal(there, m) || used != len(m) {
		t.Fatalf("bits %d: slots %v, not %v", bits, l, m)
	}
	if n := x.Len(); n != len(m) {
		t.Fatalf("bits %d: Len: %d, not %d", bits, n, len(m))
	}
	if keys := x.Keys(); !slices.Equal(keys, slices.Sorted(maps.Keys(m))) {
		t.Fatalf("bits %d: Keys: %q, not of %v", bits, keys, m)
	}
	for _, key := range others {
		want, is := m[key]
		if value, there := x.Get(key); value != want || there != is {
			t.Fatalf("bits %d: Get(%q): %d, %v, not %d, %v", bits, key, value, there, want, is)
		}
		if value, there := seek(seed, bits, l, key); value != want || there != is {
			t.Fatalf("bits %d: %q is found: %d, %v, not %d, %v", bits, key, value, there, want, is)
		}
	}
}

// P5.1: all tables that may be: as many slots as 2 to the power of bits, all of them zero ones.
func TestNew(t *testing.T) {
	for bits := 1; bits <= 8; bits++ {
		for _, seed := range []uint64{0, 1, 1 << 63, math.MaxUint64} {
			x := newTable(t, seed, bits)
			same(t, x, seed, bits, map[string]int{}, []string{"", "a", "b"})
		}
	}
}

// P5.1: tables that may not be.
func TestNewOfWrong(t *testing.T) {
	for _, bits := range []int{0, -1, -2, -8, math.MinInt, 9, 10, 16, 62, 63, 64, 65, 1<<32 + 1, math.MaxInt} {
		if x, e := New(1, bits); x != nil || e != api.ErrArg {
			t.Errorf("New(1, %d): %v, %d", bits, x, e)
		}
	}
}

// P5.3: the document's example, at each home, and round the end of the ring.
func TestTwoKeysOfOneHome(t *testing.T) {
	for home := range 8 {
		x := newTable(t, 7, 3)
		keys := keysOf(7, 3, home, 2)
		put(t, x, keys[0], 10, api.OK)
		put(t, x, keys[1], 11, api.OK)
		l := x.Slots()
		if l[home].Dist != 0 || !l[home].Used || l[(home+1)%8].Dist != 1 || !l[(home+1)%8].Used {
			t.Errorf("home %d: %v", home, l)
		}
		same(t, x, 7, 3, map[string]int{keys[0]: 10, keys[1]: 11}, keys)
	}
}

// P5.3: whoever is further from home goes first: one of the next home gives way to the third one of this home.
func TestFurtherGoesFirst(t *testing.T) {
	for home := range 8 {
		x := newTable(t, 9, 3)
		here, next := keysOf(9, 3, home, 3), keysOf(9, 3, (home+1)%8, 1)
		put(t, x, here[0], 0, api.OK)
		put(t, x, next[0], 1, api.OK)
		put(t, x, here[1], 2, api.OK)
		put(t, x, here[2], 3, api.OK)
		var dists []int
		l := x.Slots()
		for far := range 5 {
			dists = append(dists, l[(home+far)%8].Dist)
		}
		if !slices.Equal(dists, []int{0, 1, 2, 2, 0}) || l[(home+3)%8].Key != next[0] {
			t.Errorf("home %d: %v", home, l)
		}
		x.Delete(here[1])
		same(t, x, 9, 3, map[string]int{here[0]: 0, next[0]: 1, here[2]: 3}, append(here, next...))
	}
}

// P5.2: a key has 1 to 33 bytes, whatever they are; whether it may be comes ahead of whether there is room.
func TestLengthsOfKeys(t *testing.T) {
	x := newTable(t, 3, 1)
	wrongs := []string{"", strings.Repeat("a", 34), strings.Repeat("\x00", 35), strings.Repeat("é", 17), strings.Repeat("a", 1000)}
	check := func(m map[string]int) {
		t.Helper()
		for _, key := range wrongs {
			put(t, x, key, 1, api.ErrArg)
			if v, is := x.Get(key); v != 0 || is {
				t.Errorf("Get(%q): %d, %v", key, v, is)
			}
			if x.Delete(key) {
				t.Errorf("Delete(%q)", key)
			}
		}
		same(t, x, 3, 1, m, wrongs)
	}
	check(map[string]int{})
	for _, key := range []string{"\x00", strings.Repeat("\xff", 32), strings.Repeat("a", 33), strings.Repeat("é", 16) + "e"} {
		put(t, x, key, len(key), api.OK)
		check(map[string]int{key: len(key)})
		if !x.Delete(key) {
			t.Errorf("Delete(%q)", key)
		}
	}
	put(t, x, "a", 1, api.OK)
	put(t, x, "b", 2, api.OK)
	check(map[string]int{"a": 1, "b": 2})
}

// P5.2: a table that is full takes no other key, but values of those that it has; R4: nothing changes.
func TestFull(t *testing.T) {
	for bits := 1; bits <= 8; bits++ {
		x := newTable(t, 11, bits)
		m := map[string]int{}
		for i := range 1 << bits {
			key := strconv.Itoa(i)
			put(t, x, key, i, api.OK)
			m[key] = i
		}
		ahead := x.Slots()
		put(t, x, "x", 1, api.ErrFull)
		put(t, x, "y", 1, api.ErrFull)
		put(t, x, "", 1, api.ErrArg)
		if !slices.Equal(x.Slots(), ahead) {
			t.Errorf("bits %d: Put that was refused changed the slots", bits)
		}
		for key := range maps.Clone(m) {
			put(t, x, key, -m[key], api.OK)
			m[key] = -m[key]
		}
		same(t, x, 11, bits, m, append(slices.Collect(maps.Keys(m)), "x", "y"))
		if !x.Delete("1") || x.Delete("1") {
			t.Errorf("bits %d: Delete", bits)
		}
		delete(m, "1")
		put(t, x, "x", 7, api.OK)
		m["x"] = 7
		put(t, x, "1", 7, api.ErrFull)
		same(t, x, 11, bits, m, append(slices.Collect(maps.Keys(m)), "1", "y"))
	}
}

// P5.2: any number may be a value, and is told apart from none.
func TestValues(t *testing.T) {
	x := newTable(t, 0, 2)
	for _, v := range []int{0, 1, -1, math.MinInt, math.MaxInt, 1 << 32, 0} {
		put(t, x, "a", v, api.OK)
		if got, is := x.Get("a"); got != v || !is || x.Len() != 1 {
			t.Errorf("Get: %d, %v, not %d; Len %d", got, is, v, x.Len())
		}
	}
}

// P5.1: keys rise by their bytes.
func TestKeysByBytes(t *testing.T) {
	want := []string{"\x00", "\x00\x00", "A", "Z", "a", "a\x00", "aa", "b", "e", "z", "\x80", "é", "\xff", "\xff\x00"}
	for seed := range uint64(20) {
		x := newTable(t, seed, 4)
		for _, i := range rand.New(rand.NewSource(int64(seed))).Perm(len(want)) {
			put(t, x, want[i], i, api.OK)
		}
		if keys := x.Keys(); !slices.Equal(keys, want) {
			t.Errorf("%q", keys)
		}
	}
}

// everyOrder tells all orders of the numbers below n.
func everyOrder(n int) [][]int {
	if n == 0 {
		return [][]int{nil}
	}
	var orders [][]int
	for _, o := range everyOrder(n - 1) {
		for at := range n {
			orders = append(orders, slices.Insert(slices.Clone(o), at, n-1))
		}
	}
	return orders
}

// P5.2, P5.3: four slots: up to four keys, of all homes that they may have, deleted in all orders, and put again.
func TestEverySmallTable(t *testing.T) {
	const seed, bits = 5, 2
	var ofHome [4][]string
	var others []string
	for home := range 4 {
		ofHome[home] = keysOf(seed, bits, home, 5)
		others = append(others, ofHome[home]...)
	}
	orders := [][][]int{everyOrder(0), everyOrder(1), everyOrder(2), everyOrder(3), everyOrder(4)}
	for code := range 1 << 8 {
		for many := 1; many <= 4; many++ {
			var keys []string
			for i := range many {
				keys = append(keys, ofHome[code>>(2*i)&3][i])
			}
			for _, order := range orders[many] {
				x, m := newTable(t, seed, bits), map[string]int{}
				for i, key := range keys {
					put(t, x, key, i+1, api.OK)
					m[key] = i + 1
					same(t, x, seed, bits, m, others)
				}
				for _, i := range order {
					if !x.Delete(keys[i]) || x.Delete(keys[i]) {
						t.Fatalf("%q: Delete(%q)", keys, keys[i])
					}
					delete(m, keys[i])
					same(t, x, seed, bits, m, others)
				}
				put(t, x, keys[0], 9, api.OK)
				same(t, x, seed, bits, map[string]int{keys[0]: 9}, others)
			}
		}
	}
}

// P5.2, P5.3: a ring full of keys of one home, whichever it is, emptied from either end.
func TestOneHome(t *testing.T) {
	const seed, bits = 13, 4
	for home := range 1 << bits {
		keys := keysOf(seed, bits, home, 17)
		for _, back := range []bool{false, true} {
			x, m := newTable(t, seed, bits), map[string]int{}
			for i, key := range keys[:16] {
				put(t, x, key, i, api.OK)
				m[key] = i
			}
			put(t, x, keys[16], 1, api.ErrFull)
			same(t, x, seed, bits, m, keys)
			for i := range 16 {
				key := keys[i]
				if back {
					key = keys[15-i]
				}
				if !x.Delete(key) {
					t.Fatalf("Delete(%q)", key)
				}
				delete(m, key)
				same(t, x, seed, bits, m, keys)
			}
		}
	}
}

// P5.1 to P5.4: whatever is called, a table is a map, and is well.
func TestAgainstMap(t *testing.T) {
	r := rand.New(rand.NewSource(1))
	for bits := 1; bits <= 8; bits++ {
		for _, seed := range []uint64{0, 1, math.MaxUint64, r.Uint64()} {
			size := 1 << bits
			var keys []string
			for i := range size + size/2 + 1 {
				keys = append(keys, strings.Repeat("k", r.Intn(30))+strconv.Itoa(i))
			}
			x, m := newTable(t, seed, bits), map[string]int{}
			for range 200 + 4*size {
				key, value := keys[r.Intn(len(keys))], int(r.Uint64())
				_, had := m[key]
				if r.Intn(5) < 3 {
					want := api.OK
					if !had && len(m) == size {
						want = api.ErrFull
					}
					put(t, x, key, value, want)
					if want == api.OK {
						m[key] = value
					}
				} else {
					if was := x.Delete(key); was != had {
						t.Fatalf("bits %d: Delete(%q): %v", bits, key, was)
					}
					delete(m, key)
				}
				same(t, x, seed, bits, m, keys)
			}
		}
	}
}

// P5.3: of a nil Table, and of one that New did not make, which has no slots.
func TestNone(t *testing.T) {
	for _, x := range []*Table{nil, {}} {
		for range 2 {
			for _, key := range []string{"", "a", strings.Repeat("a", 33), strings.Repeat("a", 34)} {
				put(t, x, key, 1, api.ErrFull)
				if v, is := x.Get(key); v != 0 || is {
					t.Errorf("Get(%q): %d, %v", key, v, is)
				}
				if x.Delete(key) {
					t.Errorf("Delete(%q)", key)
				}
			}
			if n, l, keys := x.Len(), x.Slots(), x.Keys(); n != 0 || len(l) != 0 || len(keys) != 0 {
				t.Errorf("Len %d, Slots %v, Keys %q", n, l, keys)
			}
		}
	}
}

// R5: what is answered shares nothing with the table, nor with what is answered later on.
func TestSharesNothing(t *testing.T) {
	x := newTable(t, 1, 1)
	put(t, x, "a", 1, api.OK)
	put(t, x, "b", 2, api.OK)
	m := map[string]int{"a": 1, "b": 2}
	l, keys := x.Slots(), x.Keys()
	kept := slices.Clone(l)
	l[0], l[1], keys[0] = api.Slot{}, api.Slot{}, "z"
	same(t, x, 1, 1, m, []string{"a", "b"})
	l = x.Slots()
	keys = x.Keys()
	put(t, x, "a", 5, api.OK)
	x.Delete("b")
	if !slices.Equal(l, kept) || !slices.Equal(keys, []string{"a", "b"}) {
		t.Errorf("what was answered was changed: %v, %q", l, keys)
	}
}

// R6: two tables do not touch one another, and tell the same, slot by slot, where the same is asked.
func TestTwoTables(t *testing.T) {
	a, b, other := newTable(t, 4, 3), newTable(t, 4, 3), newTable(t, 4, 3)
	for i := range 8 {
		key := strconv.Itoa(i)
		put(t, a, key, i, api.OK)
		b.Get(key)
		b.Len()
		b.Keys()
		put(t, b, strings.Clone(key), i, api.OK)
		if !slices.Equal(a.Slots(), b.Slots()) {
			t.Fatalf("%v, %v", a.Slots(), b.Slots())
		}
	}
	a.Delete("3")
	b.Delete("x")
	b.Delete("3")
	if !slices.Equal(a.Slots(), b.Slots()) || other.Len() != 0 {
		t.Errorf("%v, %v, %v", a.Slots(), b.Slots(), other.Slots())
	}
}

// P5.3: where keys stand hangs on the seed.
func TestSeeds(t *testing.T) {
	homes := map[int]bool{}
	for seed := range uint64(100) {
		x := newTable(t, seed, 8)
		put(t, x, "key", 1, api.OK)
		at := slices.IndexFunc(x.Slots(), func(s api.Slot) bool { return s.Used })
		if at != hash.Home(hash.Sum(seed, "key"), 8) {
			t.Fatalf("seed %d: the key is at %d", seed, at)
		}
		homes[at] = true
	}
	if len(homes) < 20 {
		t.Errorf("%d homes", len(homes))
	}
}

// Going through the keys may stop ahead of the last one.
func TestUsedStops(t *testing.T) {
	x := newTable(t, 2, 2)
	for _, key := range []string{"a", "b", "c"} {
		put(t, x, key, 1, api.OK)
	}
	met := 0
	for range x.used() {
		met++
		if met == 2 {
			break
		}
	}
	if met != 2 {
		t.Errorf("met %d", met)
	}
}
