package books

import (
	"math"
	"math/rand"
	"reflect"
	"slices"
	"testing"

	"sandglass/api"
)

const lastVersion = 1 << 30

var good = []api.Policy{
	{Kind: api.Bucket, Limit: 1, Window: 1}, {Kind: api.Bucket, Limit: 1 << 20, Window: 1 << 20},
	{Kind: api.Fixed, Limit: 1, Window: 1}, {Kind: api.Fixed, Limit: 1 << 20, Window: 1 << 20},
	{Kind: api.Ring, Limit: 1, Window: 1, Buckets: 1}, {Kind: api.Ring, Limit: 1 << 20, Window: 1 << 20, Buckets: 16},
	{Kind: api.Exact, Limit: 1, Window: 1}, {Kind: api.Exact, Limit: 16, Window: 1 << 20},
}

var bad = []api.Policy{
	{}, {Kind: 5, Limit: 1, Window: 1}, {Kind: -1, Limit: 1, Window: 1}, {Kind: math.MaxInt, Limit: 1, Window: 1},
	{Kind: api.Bucket, Window: 1}, {Kind: api.Bucket, Limit: 1}, {Kind: api.Bucket, Limit: 1, Window: 1, Buckets: 1}, {Kind: api.Bucket, Limit: 1<<20 + 1, Window: 1},
	{Kind: api.Fixed, Limit: 1, Window: 1<<20 + 1}, {Kind: api.Fixed, Limit: -1, Window: 1},
	{Kind: api.Ring, Limit: 1, Window: 10}, {Kind: api.Ring, Limit: 1, Window: 10, Buckets: 3}, {Kind: api.Ring, Limit: 1, Window: 34, Buckets: 17},
	{Kind: api.Exact, Limit: 17, Window: 1}, {Kind: api.Exact, Limit: math.MaxInt, Window: math.MaxInt},
}

var wrongIds = []int{math.MinInt, -8, -1, 8, 9, 1 << 20, math.MaxInt}

// some tells books of which 0, 3 and 7 are On, 2 and 6 were once, and 7 can't be set any more, nor can 6.
func some() []api.Book {
	b := make([]api.Book, 8)
	b[0] = api.Book{On: true, Policy: good[0], Version: 1}
	b[2] = api.Book{Version: 5}
	b[3] = api.Book{On: true, Policy: good[5], Version: lastVersion - 1}
	b[6] = api.Book{Version: lastVersion}
	b[7] = api.Book{On: true, Policy: good[7], Version: lastVersion}
	return b
}

// wrongBooks tells books that may not be: of too few or too many, and with one that may not be at each place.
func wrongBooks() [][]api.Book {
	all := [][]api.Book{nil, {}, make([]api.Book, 1), make([]api.Book, 7), make([]api.Book, 9), make([]api.Book, 1000), some()[:7], append(some(), api.Book{})}
	books := []api.Book{
		{Version: -1}, {Version: lastVersion + 1}, {Version: math.MinInt}, {Version: math.MaxInt},
		{Policy: good[0]}, {Policy: good[0], Version: 1}, {Policy: api.Policy{Kind: 1}, Version: 1}, {Policy: api.Policy{Limit: 1}}, {Policy: api.Policy{Window: 1}}, {Policy: api.Policy{Buckets: -1}, Version: 3},
		{On: true}, {On: true, Version: 1}, {On: true, Policy: good[2]}, {On: true, Policy: good[2], Version: -1}, {On: true, Policy: good[2], Version: lastVersion + 1}, {On: true, Policy: good[2], Version: math.MinInt},
	}
	for _, p := range bad {
		books = append(books, api.Book{On: true, Policy: p, Version: 1})
	}
	for _, book := range books {
		for id := range 8 {
			b := some()
			b[id] = book
			all = append(all, b)
		}
	}
	return all
}

// setTo sets, and holds the answer against want and version.
func setTo(t *testing.T, b []api.Book, id int, p api.Policy, want []api.Book, version int) {
	t.Helper()
	c, n, code := Set(b, id, p)
	if !reflect.DeepEqual(c, want) || n != version || code != api.OK || !May(c) {
		t.Errorf("Set(%v, %d, %v): %v, %d, %d", b, id, p, c, n, code)
	}
}

// unset holds Set against an error.
func unset(t *testing.T, b []api.Book, id int, p api.Policy, want api.Errno) {
	t.Helper()
	if c, n, code := Set(b, id, p); !reflect.DeepEqual(c, b) || n != 0 || code != want {
		t.Errorf("Set(%v, %d, %v): %v, %d, %d, not %d", b, id, p, c, n, code, want)
	}
}

// unmet holds Get and Delete against an error.
func unmet(t *testing.T, b []api.Book, id int, want api.Errno) {
	t.Helper()
	if p, n, code := Get(b, id); p != (api.Policy{}) || n != 0 || code != want {
		t.Errorf("Get(%v, %d): %v, %d, %d, not %d", b, id, p, n, code, want)
	}
	if c, code := Delete(b, id); !reflect.DeepEqual(c, b) || code != want {
		t.Errorf("Delete(%v, %d): %v, %d, not %d", b, id, c, code, want)
	}
}

// P16.2, P16.3: the chapter's example.
func TestExample(t *testing.T) {
	b, first, _ := Set(New(), 4, good[0])
	b, second, _ := Set(b, 4, good[1])
	b, code := Delete(b, 4)
	b, third, _ := Set(b, 4, good[2])
	if first != 1 || second != 2 || third != 3 || code != api.OK {
		t.Errorf("%d, %d, %d, %d", first, second, third, code)
	}
	if p, n, code := Get(b, 4); p != good[2] || n != 3 || code != api.OK {
		t.Errorf("Get: %v, %d, %d", p, n, code)
	}
}

// P16.1: eight books, none of them On; new ones each time.
func TestNew(t *testing.T) {
	b := New()
	if !reflect.DeepEqual(b, make([]api.Book, 8)) || !May(b) || len(Live(b)) != 0 {
		t.Errorf("New: %v", b)
	}
	b[3] = api.Book{On: true}
	if c := New(); c[3].On {
		t.Errorf("New: %v", c)
	}
	for id := range 8 {
		unmet(t, New(), id, api.ErrNone)
	}
}

// P16.1: the edges of what may be, of each book.
func TestMay(t *testing.T) {
	if !May(some()) {
		t.Errorf("May(%v)", some())
	}
	for id := range 8 {
		for _, version := range []int{0, 1, 2, lastVersion - 1, lastVersion} {
			b := some()
			b[id] = api.Book{Version: version}
			if !May(b) {
				t.Errorf("May(%v)", b)
			}
			for _, p := range good {
				b[id] = api.Book{On: true, Policy: p, Version: version}
				if May(b) != (version > 0) {
					t.Errorf("May(%v)", b)
				}
			}
		}
	}
	for _, b := range wrongBooks() {
		if May(b) {
			t.Errorf("May(%v)", b)
		}
	}
}

// P16.1: the numbers of all that are On, rising, whichever these are.
func TestLive(t *testing.T) {
	if ids := Live(some()); !slices.Equal(ids, []int{0, 3, 7}) {
		t.Errorf("Live: %v", ids)
	}
	for which := range 256 {
		b := New()
		var want []int
		for id := range 8 {
			if which>>id&1 == 1 {
				b[id] = api.Book{On: true, Policy: good[id], Version: 1}
				want = append(want, id)
			} else {
				b[id] = api.Book{Version: id}
			}
		}
		if ids := Live(b); !slices.Equal(ids, want) {
			t.Errorf("Live(%v): %v", b, ids)
		}
	}
	if len(Live(nil)) != 0 || len(Live([]api.Book{})) != 0 {
		t.Error("Live of nothing")
	}
}

// P16.2: each policy, in each book, over whatever was there; all other books are as they were.
func TestSet(t *testing.T) {
	for _, p := range good {
		for id, version := range map[int]int{0: 2, 1: 1, 2: 6, 3: lastVersion, 4: 1, 5: 1} {
			want := some()
			want[id] = api.Book{On: true, Policy: p, Version: version}
			setTo(t, some(), id, p, want, version)
		}
	}
	setTo(t, New(), 7, good[0], []api.Book{{}, {}, {}, {}, {}, {}, {}, {On: true, Policy: good[0], Version: 1}}, 1)
}

// P16.2: ErrArg is ahead of ErrFull, and ErrFull is of that book alone.
func TestSetErrors(t *testing.T) {
	for _, p := range good {
		unset(t, some(), 6, p, api.ErrFull)
		unset(t, some(), 7, p, api.ErrFull)
		for _, id := range wrongIds {
			unset(t, some(), id, p, api.ErrArg)
			unset(t, New(), id, p, api.ErrArg)
		}
	}
	for _, p := range bad {
		for id := range 8 {
			unset(t, some(), id, p, api.ErrArg)
		}
	}
}

// P16.3: what is there, each one's; it goes, but its Version stays.
func TestGetAndDelete(t *testing.T) {
	for _, id := range []int{0, 3, 7} {
		b := some()
		if p, n, code := Get(b, id); p != b[id].Policy || n != b[id].Version || code != api.OK {
			t.Errorf("Get(%d): %v, %d, %d", id, p, n, code)
		}
		want := some()
		want[id] = api.Book{Version: b[id].Version}
		c, code := Delete(b, id)
		if !reflect.DeepEqual(c, want) || code != api.OK || !May(c) {
			t.Errorf("Delete(%d): %v, %d", id, c, code)
		}
		unmet(t, c, id, api.ErrNone)
	}
	for _, id := range []int{1, 2, 4, 5, 6} {
		unmet(t, some(), id, api.ErrNone)
	}
	for _, id := range wrongIds {
		unmet(t, some(), id, api.ErrArg)
		unmet(t, New(), id, api.ErrArg)
	}
}

// P16.2, P16.3: of books that may not be there is ErrArg, whatever else is asked; they are answered as they are.
func TestWrongBooks(t *testing.T) {
	for _, b := range wrongBooks() {
		for _, id := range append([]int{0, 1, 2, 3, 4, 5, 6, 7}, wrongIds...) {
			unset(t, b, id, good[0], api.ErrArg)
			unset(t, b, id, bad[0], api.ErrArg)
			unmet(t, b, id, api.ErrArg)
		}
	}
}

// P16.2, P16.3: a book's last Version: it is set no more, also when it is not On.
func TestLastVersion(t *testing.T) {
	b, n, code := Set(some(), 3, good[1])
	if n != lastVersion || code != api.OK {
		t.Fatalf("Set: %d, %d", n, code)
	}
	unset(t, b, 3, good[2], api.ErrFull)
	b, code = Delete(b, 3)
	if code != api.OK || b[3] != (api.Book{Version: lastVersion}) {
		t.Errorf("Delete: %v, %d", b, code)
	}
	unset(t, b, 3, good[2], api.ErrFull)
}

// P16.4: of books that may be come books that may be, and no Version comes twice in one book.
func TestByAndBy(t *testing.T) {
	r := rand.New(rand.NewSource(1))
	for range 200 {
		b := New()
		sets, on := [8]int{}, map[int]api.Policy{}
		for range 100 {
			id, p := r.Intn(8), good[r.Intn(len(good))]
			n, code := 0, api.OK
			if r.Intn(3) > 0 {
				b, n, code = Set(b, id, p)
				sets[id]++
				on[id] = p
				if n != sets[id] || code != api.OK {
					t.Fatalf("Set: %d, %d, not %d", n, code, sets[id])
				}
			} else {
				_, there := on[id]
				b, code = Delete(b, id)
				delete(on, id)
				if (code == api.OK) != there {
					t.Fatalf("Delete: %d", code)
				}
			}
			if !May(b) || len(Live(b)) != len(on) {
				t.Fatalf("%v", b)
			}
			for id, book := range b {
				if p, there := on[id]; book != (api.Book{On: there, Policy: p, Version: sets[id]}) {
					t.Fatalf("%d: %v", id, b)
				}
			}
		}
	}
}

// R5: what is handed in is not changed, nor the memory behind it; and what was answered stays.
func TestHandedInStays(t *testing.T) {
	room := append(some(), api.Book{Version: 9}, api.Book{Version: 8})
	was := slices.Clone(room)
	b := room[:8]
	one, _, _ := Set(b, 0, good[1])
	two, _, _ := Set(b, 0, good[2])
	three, _ := Delete(b, 0)
	full, _, _ := Set(b, 7, good[2])
	none, _ := Delete(b, 1)
	Get(b, 0)
	Live(b)
	if !slices.Equal(room, was) {
		t.Errorf("%v", room)
	}
	clear(b)
	if one[0].Policy != good[1] || two[0].Policy != good[2] || three[0].On || !slices.Equal(one[1:], was[1:8]) || !slices.Equal(two[1:], was[1:8]) || !slices.Equal(three[1:], was[1:8]) || !slices.Equal(full, was[:8]) || !slices.Equal(none, was[:8]) {
		t.Errorf("%v, %v, %v, %v, %v", one, two, three, full, none)
	}
	Set(one, 0, good[4])
	Delete(one, 0)
	if one[0].Policy != good[1] || one[0].Version != 2 {
		t.Errorf("%v", one)
	}
}
