package slab

import (
	"math"
	"math/rand"
	"slices"
	"testing"

	"sandglass/api"
)

const all = math.MaxUint64

// wrongHandles are good of no cell, whatever was taken of three cells that are all of generation 0.
var wrongHandles = []int{-1, -2, -61, -62, -63, -64, -65, -128, math.MinInt, math.MinInt + 1, math.MinInt + 64, 3, 4, 62, 63, 64, 65, 66, 67, 128, 1 << 32, 1 << 62, math.MaxInt - 63, math.MaxInt}

// model is a slab in the document's words, without handles ahead of their being told.
type model struct {
	size  int
	row   []int
	gens  []int
	words map[int][]uint64 // by handle, of those that are good
	gone  map[int]bool     // handles that were given
}

func newModel(cells, size int) *model {
	m := &model{size: size, gens: make([]int, cells), words: map[int][]uint64{}, gone: map[int]bool{}}
	for i := range cells {
		m.row = append(m.row, i)
	}
	return m
}

func (m *model) take() (int, api.Errno) {
	if len(m.row) == 0 {
		return 0, api.ErrFull
	}
	h := 64*m.gens[m.row[0]] + m.row[0]
	m.row = m.row[1:]
	m.words[h] = make([]uint64, m.size)
	return h, api.OK
}

func (m *model) give(h int) api.Errno {
	if m.words[h] == nil {
		return api.ErrGone
	}
	m.row = append([]int{h % 64}, m.row...)
	m.gens[h%64]++
	delete(m.words, h)
	m.gone[h] = true
	return api.OK
}

func (m *model) write(h int, w []uint64) api.Errno {
	if m.words[h] == nil {
		return api.ErrGone
	}
	if len(w) != m.size {
		return api.ErrArg
	}
	m.words[h] = append([]uint64{}, w...)
	return api.OK
}

func (m *model) live() []int {
	var live []int
	for cell := range m.gens {
		for h := range m.words {
			if h%64 == cell {
				live = append(live, h)
			}
		}
	}
	return live
}

// same holds all that a slab tells against the model.
func same(t *testing.T, s *Slab, m *model) {
	t.Helper()
	if n := s.Free(); n != len(m.row) {
		t.Fatalf("Free: %d, not %d", n, len(m.row))
	}
	live := s.Live()
	if !slices.Equal(live, m.live()) {
		t.Fatalf("Live: %v, not %v", live, m.live())
	}
	for h, want := range m.words {
		if w, e := s.Read(h); e != api.OK || !slices.Equal(w, want) {
			t.Fatalf("Read(%d): %x, %d, not %x", h, w, e, want)
		}
	}
	for h := range m.gone {
		if w, e := s.Read(h); e != api.ErrGone || len(w) != 0 {
			t.Fatalf("Read(%d), which was given: %x, %d", h, w, e)
		}
	}
}

func newSlab(t *testing.T, cells, words int) *Slab {
	t.Helper()
	s, e := New(cells, words)
	if e != api.OK || s == nil {
		t.Fatalf("New(%d, %d): %d", cells, words, e)
	}
	return s
}

func take(t *testing.T, s *Slab, want int) {
	t.Helper()
	if h, e := s.Take(); h != want || e != api.OK {
		t.Fatalf("Take: %d, %d, not %d", h, e, want)
	}
}

func full(t *testing.T, s *Slab) {
	t.Helper()
	if h, e := s.Take(); h != 0 || e != api.ErrFull {
		t.Fatalf("Take of a full slab: %d, %d", h, e)
	}
}

// P4.1: all slabs that may be: all cells are free, and are taken rising, with as many words, which are 0.
func TestNew(t *testing.T) {
	for cells := 1; cells <= 64; cells++ {
		for words := 0; words <= 32; words++ {
			s := newSlab(t, cells, words)
			if n, live := s.Free(), s.Live(); n != cells || len(live) != 0 {
				t.Fatalf("New(%d, %d): %d free, live %v", cells, words, n, live)
			}
			for i := range cells {
				take(t, s, i)
				if w, e := s.Read(i); e != api.OK || !slices.Equal(w, make([]uint64, words)) {
					t.Fatalf("New(%d, %d): Read(%d): %x, %d", cells, words, i, w, e)
				}
				if n := s.Free(); n != cells-1-i {
					t.Fatalf("New(%d, %d): %d free behind %d", cells, words, n, i)
				}
			}
			full(t, s)
		}
	}
}

// P4.1: slabs that may not be.
func TestNewOfWrong(t *testing.T) {
	for _, c := range []struct{ cells, words int }{
		{0, 0}, {0, 1}, {-1, 1}, {65, 1}, {66, 0}, {math.MinInt, 1}, {math.MaxInt, 1}, {1 << 32, 1}, {1<<32 + 1, 1},
		{1, -1}, {1, 33}, {64, 33}, {64, -1}, {1, math.MinInt}, {1, math.MaxInt}, {1, 1 << 32},
		{0, 33}, {65, -1}, {math.MaxInt, math.MaxInt}, {math.MinInt, math.MinInt},
	} {
		if s, e := New(c.cells, c.words); s != nil || e != api.ErrArg {
			t.Errorf("New(%d, %d): %v, %d", c.cells, c.words, s, e)
		}
	}
}

// P4.2: the document's example, and one cell many times over.
func TestTakeAndGiveOfOneCell(t *testing.T) {
	s := newSlab(t, 1, 1)
	for generation := range 1000 {
		h := 64 * generation
		take(t, s, h)
		full(t, s)
		if live := s.Live(); !slices.Equal(live, []int{h}) || s.Free() != 0 {
			t.Fatalf("live %v, %d free", live, s.Free())
		}
		if e := s.Give(h); e != api.OK {
			t.Fatalf("Give(%d): %d", h, e)
		}
		if live := s.Live(); len(live) != 0 || s.Free() != 1 {
			t.Fatalf("live %v, %d free", live, s.Free())
		}
	}
}

// P4.2: whoever is given last is taken first, ahead of those that were never taken.
func TestOrderOfTheRow(t *testing.T) {
	s := newSlab(t, 5, 0)
	take(t, s, 0)
	take(t, s, 1)
	take(t, s, 2)
	for _, h := range []int{1, 0, 2} {
		if e := s.Give(h); e != api.OK {
			t.Fatalf("Give(%d): %d", h, e)
		}
	}
	for _, h := range []int{64 + 2, 64 + 0, 64 + 1, 3, 4} {
		take(t, s, h)
	}
	full(t, s)
}

// P4.1: Live tells by the cells' numbers, not by the handles, nor by the order in which cells were taken.
func TestLiveByNumbers(t *testing.T) {
	s := newSlab(t, 4, 0)
	for h := range 4 {
		take(t, s, h)
	}
	s.Give(0)
	s.Give(2)
	if live := s.Live(); !slices.Equal(live, []int{1, 3}) {
		t.Errorf("live %v", live)
	}
	take(t, s, 64+2)
	take(t, s, 64+0)
	if live := s.Live(); !slices.Equal(live, []int{64, 1, 66, 3}) {
		t.Errorf("live %v", live)
	}
}

// Going through the cells that are taken may stop ahead of the last one.
func TestTakenStops(t *testing.T) {
	s := newSlab(t, 3, 0)
	for h := range 3 {
		take(t, s, h)
	}
	s.Give(0)
	var met []int
	for number := range s.taken() {
		met = append(met, number)
		break
	}
	if !slices.Equal(met, []int{1}) {
		t.Errorf("met %v", met)
	}
}

// P4.2: a cell's words are 0 when it is taken again.
func TestTakeClears(t *testing.T) {
	s := newSlab(t, 1, 32)
	w := slices.Repeat([]uint64{all}, 32)
	for generation := range 3 {
		take(t, s, 64*generation)
		if got, e := s.Read(64 * generation); e != api.OK || !slices.Equal(got, make([]uint64, 32)) {
			t.Fatalf("generation %d: %x, %d", generation, got, e)
		}
		if e := s.Write(64*generation, w); e != api.OK {
			t.Fatalf("Write: %d", e)
		}
		s.Give(64 * generation)
	}
}

// P4.2, P4.3: handles that are not good, whether cells are free, taken, or taken anew; R4: nothing changes.
func TestWrongHandles(t *testing.T) {
	s, m := newSlab(t, 3, 2), newModel(3, 2)
	check := func(handles ...int) {
		t.Helper()
		for _, h := range handles {
			if e := s.Give(h); e != api.ErrGone {
				t.Errorf("Give(%d): %d", h, e)
			}
			if w, e := s.Read(h); e != api.ErrGone || len(w) != 0 {
				t.Errorf("Read(%d): %x, %d", h, w, e)
			}
			for _, w := range [][]uint64{nil, {1}, {1, 2}, {1, 2, 3}} {
				if e := s.Write(h, w); e != api.ErrGone {
					t.Errorf("Write(%d, %x): %d", h, w, e)
				}
			}
		}
		same(t, s, m)
	}
	check(wrongHandles...)
	check(0, 1, 2)
	for range 3 {
		s.Take()
		m.take()
	}
	check(wrongHandles...)
	s.Give(1)
	m.give(1)
	check(1, 65)
	s.Take()
	m.take()
	check(1, 64, 66, 129, 0-64, 2-64)
	s.Give(65)
	m.give(65)
	check(1, 65, 129)
}

// P4.3: as many words as a cell has, and no others; a handle that is not good comes first.
func TestWriteOfWrongWords(t *testing.T) {
	for _, words := range []int{0, 1, 2, 31, 32} {
		s := newSlab(t, 2, words)
		take(t, s, 0)
		kept := make([]uint64, words)
		for i := range kept {
			kept[i] = all - uint64(i)
		}
		if e := s.Write(0, kept); e != api.OK {
			t.Errorf("Write of %d words: %d", words, e)
		}
		for _, n := range []int{0, 1, 2, 3, 30, 31, 32, 33, 64, 1000} {
			w := slices.Repeat([]uint64{7}, n)
			if e := s.Write(1, w); e != api.ErrGone {
				t.Errorf("Write of %d words, not of %d, to a cell that is free: %d", n, words, e)
			}
			if n == words {
				continue
			}
			if e := s.Write(0, w); e != api.ErrArg {
				t.Errorf("Write of %d words, not of %d: %d", n, words, e)
			}
			if got, e := s.Read(0); e != api.OK || !slices.Equal(got, kept) {
				t.Errorf("Write of %d words, not of %d, changed them: %x, %d", n, words, got, e)
			}
		}
	}
}

// P4.3: cells without words: nil and an empty list are both no words.
func TestNoWords(t *testing.T) {
	s := newSlab(t, 1, 0)
	take(t, s, 0)
	if e := s.Write(0, nil); e != api.OK {
		t.Errorf("Write of nil: %d", e)
	}
	if e := s.Write(0, []uint64{}); e != api.OK {
		t.Errorf("Write of none: %d", e)
	}
	if w, e := s.Read(0); e != api.OK || len(w) != 0 {
		t.Errorf("Read: %x, %d", w, e)
	}
}

// P4.3: of a nil Slab, and of one that New did not make, which has no cells.
func TestNone(t *testing.T) {
	for _, s := range []*Slab{nil, {}} {
		for range 2 {
			if h, e := s.Take(); h != 0 || e != api.ErrFull {
				t.Errorf("Take: %d, %d", h, e)
			}
			for _, h := range append([]int{0, 1, 2}, wrongHandles...) {
				if e := s.Give(h); e != api.ErrGone {
					t.Errorf("Give(%d): %d", h, e)
				}
				if w, e := s.Read(h); e != api.ErrGone || len(w) != 0 {
					t.Errorf("Read(%d): %x, %d", h, w, e)
				}
				for _, w := range [][]uint64{nil, {}, {1}} {
					if e := s.Write(h, w); e != api.ErrGone {
						t.Errorf("Write(%d, %x): %d", h, w, e)
					}
				}
			}
			if n, live := s.Free(), s.Live(); n != 0 || len(live) != 0 {
				t.Errorf("%d free, live %v", n, live)
			}
		}
	}
}

// R5: what is handed in and what is answered share nothing with the slab.
func TestSharesNothing(t *testing.T) {
	s := newSlab(t, 2, 2)
	take(t, s, 0)
	take(t, s, 1)
	w := make([]uint64, 2, 8)
	w[0], w[1] = 3, 4
	s.Write(0, w)
	if w[0] != 3 || w[1] != 4 {
		t.Errorf("Write changed what was handed in: %x", w)
	}
	w[0] = 9
	first, _ := s.Read(0)
	second, _ := s.Read(0)
	if !slices.Equal(first, []uint64{3, 4}) {
		t.Errorf("what was handed in is kept: %x", first)
	}
	first[1] = 9
	_ = append(first, 5)
	s.Write(0, []uint64{6, 7})
	if !slices.Equal(second, []uint64{3, 4}) {
		t.Errorf("what was read is shared: %x", second)
	}
	if now, _ := s.Read(0); !slices.Equal(now, []uint64{6, 7}) {
		t.Errorf("what was read is the cell's own: %x", now)
	}
	if other, _ := s.Read(1); !slices.Equal(other, []uint64{0, 0}) {
		t.Errorf("another cell was touched: %x", other)
	}
	live := s.Live()
	live[0] = 99
	if again := s.Live(); !slices.Equal(again, []int{0, 1}) {
		t.Errorf("Live is shared: %v", again)
	}
	s.Give(0)
	if live[0] != 99 || live[1] != 1 || !slices.Equal(second, []uint64{3, 4}) {
		t.Errorf("what was answered was changed: %v, %x", live, second)
	}
}

// P4.4: what is written to a cell is in no other one.
func TestCellsDoNotTouch(t *testing.T) {
	s := newSlab(t, 64, 32)
	for h := range 64 {
		take(t, s, h)
	}
	for h := range 64 {
		if e := s.Write(h, slices.Repeat([]uint64{uint64(h) + 1}, 32)); e != api.OK {
			t.Fatalf("Write(%d): %d", h, e)
		}
		for other := range 64 {
			want := uint64(0)
			if other <= h {
				want = uint64(other) + 1
			}
			if w, e := s.Read(other); e != api.OK || !slices.Equal(w, slices.Repeat([]uint64{want}, 32)) {
				t.Fatalf("Write(%d) touched %d: %x, %d", h, other, w, e)
			}
		}
	}
}

// P4.4, R6: two slabs do not touch one another, and tell the same where the same is asked.
func TestTwoSlabs(t *testing.T) {
	a, b := newSlab(t, 2, 1), newSlab(t, 2, 1)
	take(t, a, 0)
	a.Write(0, []uint64{5})
	if n, live := b.Free(), b.Live(); n != 2 || len(live) != 0 {
		t.Errorf("%d free, live %v", n, live)
	}
	take(t, b, 0)
	if w, e := b.Read(0); e != api.OK || !slices.Equal(w, []uint64{0}) {
		t.Errorf("Read: %x, %d", w, e)
	}
	a.Give(0)
	if e := b.Give(0); e != api.OK {
		t.Errorf("Give: %d", e)
	}
	take(t, a, 64)
	take(t, b, 64)
}

// anyHandle tells one that is good, was good, will be, or never is.
func anyHandle(r *rand.Rand, m *model) int {
	cell := r.Intn(len(m.gens))
	switch r.Intn(8) {
	case 0:
		return wrongHandles[r.Intn(len(wrongHandles))]
	case 1:
		return 64*r.Intn(m.gens[cell]+2) + cell
	case 2:
		return 64*m.gens[cell] + r.Intn(64)
	}
	return 64*m.gens[cell] + cell
}

// P4.1 to P4.4: whatever is called, a slab tells what the document's words tell.
func TestAgainstModel(t *testing.T) {
	r := rand.New(rand.NewSource(1))
	for _, c := range []struct{ cells, words int }{{1, 0}, {1, 3}, {2, 1}, {3, 2}, {7, 32}, {64, 0}, {64, 5}} {
		s, m := newSlab(t, c.cells, c.words), newModel(c.cells, c.words)
		for range 400 {
			h := anyHandle(r, m)
			switch r.Intn(4) {
			case 0, 1:
				got, e := s.Take()
				if want, f := m.take(); got != want || e != f {
					t.Fatalf("Take: %d, %d, not %d, %d", got, e, want, f)
				}
				if e == api.OK && m.gone[got] {
					t.Fatalf("Take: %d, which was given", got)
				}
			case 2:
				if e, f := s.Give(h), m.give(h); e != f {
					t.Fatalf("Give(%d): %d, not %d", h, e, f)
				}
			case 3:
				w := make([]uint64, c.words)
				if r.Intn(4) == 0 {
					w = make([]uint64, r.Intn(34))
				}
				for i := range w {
					w[i] = r.Uint64()
				}
				kept := slices.Clone(w)
				if e, f := s.Write(h, w), m.write(h, w); e != f || !slices.Equal(w, kept) {
					t.Fatalf("Write(%d) of %d: %d, not %d", h, len(w), e, f)
				}
			}
			same(t, s, m)
		}
	}
}
