package bits

import (
	"math"
	"math/rand"
	"slices"
	"testing"
)

const all = math.MaxUint64

// bitOf tells bit i of words by its definition alone.
func bitOf(w []uint64, i int) uint64 {
	return w[i/64] >> (i % 64) & 1
}

// slowGet reads a field that is there bit by bit.
func slowGet(w []uint64, at, width int) uint64 {
	n := uint64(0)
	for i := range width {
		n |= bitOf(w, at+i) << i
	}
	return n
}

// slowSet writes a field that is there bit by bit.
func slowSet(w []uint64, at, width int, n uint64) []uint64 {
	out := append([]uint64{}, w...)
	for i := range width {
		place := at + i
		out[place/64] &^= 1 << (place % 64)
		out[place/64] |= n >> i & 1 << (place % 64)
	}
	return out
}

func someWords(r *rand.Rand, n int) []uint64 {
	w := make([]uint64, n)
	for i := range w {
		w[i] = r.Uint64()
	}
	return w
}

// wrongFields are fields that are not there in two words.
var wrongFields = []struct{ at, width int }{
	{-1, 0}, {-1, 1}, {-1, 64}, {-64, 64}, {math.MinInt, 0}, {math.MinInt, 64},
	{0, -1}, {64, -1}, {0, 65}, {0, 128}, {0, math.MaxInt}, {0, math.MinInt}, {64, -64},
	{129, 0}, {128, 1}, {127, 2}, {65, 64}, {129, -1}, {192, -64},
	{math.MaxInt, 0}, {math.MaxInt, 1}, {math.MaxInt, 64}, {math.MaxInt - 63, 64}, {math.MaxInt, math.MaxInt}, {1 << 62, 64},
}

// P1.1: every field of some words is read and written as the bits one by one are; R5: what was handed in stays.
func TestGetAndSetOfEveryField(t *testing.T) {
	r := rand.New(rand.NewSource(1))
	for _, w := range [][]uint64{{0, 0}, {all, all}, someWords(r, 1), someWords(r, 2), someWords(r, 3)} {
		kept := slices.Clone(w)
		for width := range 65 {
			for at := 0; at+width <= 64*len(w); at++ {
				if n, is := Get(w, at, width); !is || n != slowGet(w, at, width) {
					t.Fatalf("Get(%x, %d, %d): %x, %v", w, at, width, n, is)
				}
				for _, n := range []uint64{0, all, r.Uint64()} {
					x, is := Set(w, at, width, n)
					if !is || !slices.Equal(x, slowSet(w, at, width, n)) {
						t.Fatalf("Set(%x, %d, %d, %x): %x, %v", w, at, width, n, x, is)
					}
				}
			}
		}
		if !slices.Equal(w, kept) {
			t.Fatalf("words were changed: %x, %x", kept, w)
		}
	}
}

// P1.1: fields that are not there.
func TestGetAndSetOfWrongFields(t *testing.T) {
	w := []uint64{all, all}
	for _, c := range wrongFields {
		if n, is := Get(w, c.at, c.width); is || n != 0 {
			t.Errorf("Get of %d, %d: %x, %v", c.at, c.width, n, is)
		}
		if x, is := Set(w, c.at, c.width, 0); is || len(x) != 0 {
			t.Errorf("Set of %d, %d: %x, %v", c.at, c.width, x, is)
		}
	}
	if w[0] != all || w[1] != all {
		t.Errorf("words were changed: %x", w)
	}
}

// P1.1: without words there is but the field without bits.
func TestGetAndSetWithoutWords(t *testing.T) {
	for _, w := range [][]uint64{nil, {}} {
		if n, is := Get(w, 0, 0); !is || n != 0 {
			t.Errorf("Get: %x, %v", n, is)
		}
		if x, is := Set(w, 0, 0, all); !is || len(x) != 0 {
			t.Errorf("Set: %x, %v", x, is)
		}
		if n, is := Get(w, 0, 1); is || n != 0 {
			t.Errorf("Get of a bit: %x, %v", n, is)
		}
		if x, is := Set(w, 0, 1, 1); is || len(x) != 0 {
			t.Errorf("Set of a bit: %x, %v", x, is)
		}
		if n, is := Get(w, 1, 0); is || n != 0 {
			t.Errorf("Get behind the end: %x, %v", n, is)
		}
	}
}

// R5: what Set answers is new memory, even where nothing is to be changed, or there is room behind the words.
func TestSetSharesNothing(t *testing.T) {
	w := make([]uint64, 2, 8)
	for _, width := range []int{0, 1, 64} {
		x, is := Set(w, 0, width, 0)
		if !is || len(x) != 2 {
			t.Fatalf("Set: %x, %v", x, is)
		}
		x[0], x[1] = 7, 7
		if w[0] != 0 || w[1] != 0 {
			t.Fatalf("width %d: words are shared: %x", width, w)
		}
	}
}

// P1.2: from every place, and from beyond both ends.
func TestNext(t *testing.T) {
	r := rand.New(rand.NewSource(2))
	sparse := make([]uint64, 5)
	for _, i := range []int{0, 1, 62, 63, 64, 127, 200, 319} {
		sparse[i/64] |= 1 << (i % 64)
	}
	for _, w := range [][]uint64{nil, {0}, {0, 0, 0}, {1}, {1 << 63}, {0, 1}, {0, 0, 1 << 63}, {all, 0, all}, sparse, someWords(r, 3)} {
		for from := -3; from < 64*len(w)+130; from++ {
			want, found := 0, false
			for i := max(from, 0); i < 64*len(w) && !found; i++ {
				if bitOf(w, i) == 1 {
					want, found = i, true
				}
			}
			if i, is := Next(w, from); i != want || is != found {
				t.Fatalf("Next(%x, %d): %d, %v, not %d, %v", w, from, i, is, want, found)
			}
		}
	}
	if i, is := Next([]uint64{0, 2}, math.MinInt); i != 65 || !is {
		t.Errorf("from the least: %d, %v", i, is)
	}
	if i, is := Next([]uint64{all, all}, math.MaxInt); i != 0 || is {
		t.Errorf("from the greatest: %d, %v", i, is)
	}
}

// P1.2: how many bits are 1.
func TestCount(t *testing.T) {
	r := rand.New(rand.NewSource(3))
	for _, w := range [][]uint64{nil, {}, {0}, {1}, {1 << 63}, {all}, {all, 0, all}, {0xf0f0, 1 << 63, 5}, someWords(r, 4)} {
		want := 0
		for i := range 64 * len(w) {
			want += int(bitOf(w, i))
		}
		if n := Count(w); n != want {
			t.Errorf("Count(%x): %d, not %d", w, n, want)
		}
	}
}

// P1.3: ordinary fields, and those that the chapter names.
func TestPack(t *testing.T) {
	for i, c := range []struct {
		widths []int
		values []uint64
		want   []uint64
	}{
		{[]int{4, 8}, []uint64{5, 255}, []uint64{4085}},
		{nil, nil, nil},
		{[]int{}, []uint64{}, nil},
		{[]int{0, 0}, []uint64{0, 0}, nil},
		{[]int{64}, []uint64{all}, []uint64{all}},
		{[]int{64, 0}, []uint64{all, 0}, []uint64{all}},
		{[]int{63, 1}, []uint64{0, 1}, []uint64{1 << 63}},
		{[]int{63, 2}, []uint64{0, 3}, []uint64{1 << 63, 1}},
		{[]int{1, 64}, []uint64{0, all}, []uint64{all - 1, 1}},
		{[]int{1, 64, 64}, []uint64{1, 0, all}, []uint64{1, all - 1, 1}},
		{[]int{0, 3, 0, 5}, []uint64{0, 5, 0, 1}, []uint64{13}},
		{[]int{64, 1}, []uint64{0, 0}, []uint64{0, 0}},
	} {
		w, is := Pack(c.widths, c.values)
		if !is || !slices.Equal(w, c.want) {
			t.Errorf("case %d: Pack: %x, %v", i, w, is)
		}
		v, is := Unpack(c.widths, c.want)
		if !is || !slices.Equal(v, c.values) {
			t.Errorf("case %d: Unpack: %x, %v", i, v, is)
		}
	}
}

// P1.3: a hundred widths are packed, one more is not, even if the fields have no bits.
func TestPackOfAHundred(t *testing.T) {
	for _, width := range []int{0, 1, 41, 64} {
		widths, values := make([]int, 100), make([]uint64, 100)
		for i := range widths {
			widths[i], values[i] = width, 0
		}
		w, is := Pack(widths, values)
		if !is || len(w) != (100*width+63)/64 {
			t.Errorf("Pack of 100 of %d: %d words, %v", width, len(w), is)
		}
		if v, is := Unpack(widths, w); !is || !slices.Equal(v, values) {
			t.Errorf("Unpack of 100 of %d: %x, %v", width, v, is)
		}
		widths, values = append(widths, 0), append(values, 0)
		if x, is := Pack(widths, values); is || len(x) != 0 {
			t.Errorf("Pack of 101: %x, %v", x, is)
		}
		if v, is := Unpack(widths, w); is || len(v) != 0 {
			t.Errorf("Unpack of 101: %x, %v", v, is)
		}
	}
}

// P1.3: what can't be packed.
func TestPackOfWrong(t *testing.T) {
	for i, c := range []struct {
		widths []int
		values []uint64
	}{
		{[]int{4}, nil},
		{nil, []uint64{0}},
		{[]int{4, 4}, []uint64{1}},
		{[]int{4}, []uint64{1, 0}},
		{[]int{-1}, []uint64{0}},
		{[]int{8, -8}, []uint64{0, 0}},
		{[]int{65}, []uint64{0}},
		{[]int{math.MaxInt, math.MaxInt}, []uint64{0, 0}},
		{[]int{math.MinInt}, []uint64{0}},
		{[]int{0}, []uint64{1}},
		{[]int{1}, []uint64{2}},
		{[]int{4}, []uint64{16}},
		{[]int{63}, []uint64{1 << 63}},
		{[]int{4, 4}, []uint64{1, 16}},
		{[]int{4, 4}, []uint64{16, 1}},
		{[]int{8}, []uint64{1 << 63}},
	} {
		if w, is := Pack(c.widths, c.values); is || len(w) != 0 {
			t.Errorf("case %d: %x, %v", i, w, is)
		}
	}
}

// P1.3: words that Pack tells of no values.
func TestUnpackOfWrong(t *testing.T) {
	for i, c := range []struct {
		widths []int
		w      []uint64
	}{
		{[]int{4}, nil},
		{[]int{4}, []uint64{16}},
		{[]int{4}, []uint64{1 << 63}},
		{[]int{4}, []uint64{1, 0}},
		{[]int{64}, []uint64{1, 0}},
		{[]int{64, 1}, []uint64{1}},
		{[]int{64, 1}, []uint64{1, 2}},
		{[]int{64, 1}, []uint64{1, 1, 0}},
		{nil, []uint64{0}},
		{[]int{0}, []uint64{0}},
		{[]int{-1}, nil},
		{[]int{8, -8}, nil},
		{[]int{65}, []uint64{0, 0}},
		{[]int{math.MaxInt, math.MaxInt}, nil},
	} {
		if v, is := Unpack(c.widths, c.w); is || len(v) != 0 {
			t.Errorf("case %d: %x, %v", i, v, is)
		}
	}
}

// P1.4: what is set is got, and fields apart do not touch one another.
func TestSetThenGet(t *testing.T) {
	r := rand.New(rand.NewSource(4))
	for range 5000 {
		w := someWords(r, 1+r.Intn(4))
		width := r.Intn(65)
		at := r.Intn(64*len(w) - width + 1)
		n := r.Uint64()
		x, is := Set(w, at, width, n)
		if got, there := Get(x, at, width); !is || !there || got != n&ones(width) {
			t.Fatalf("at %d, width %d: %x, not %x", at, width, got, n)
		}
		for i := range 64 * len(w) {
			if (i < at || i >= at+width) && bitOf(x, i) != bitOf(w, i) {
				t.Fatalf("at %d, width %d: bit %d was touched", at, width, i)
			}
		}
	}
}

// P1.4: what is packed is unpacked, stands where its widths say, and nothing that was handed in is changed (R5).
func TestPackThenUnpack(t *testing.T) {
	r := rand.New(rand.NewSource(5))
	for range 2000 {
		widths := make([]int, r.Intn(101))
		values := make([]uint64, len(widths))
		total := 0
		for i := range widths {
			widths[i] = r.Intn(65)
			values[i] = r.Uint64() & ones(widths[i])
			total += widths[i]
		}
		keptWidths, keptValues := slices.Clone(widths), slices.Clone(values)
		w, is := Pack(widths, values)
		if !is || len(w) != (total+63)/64 {
			t.Fatalf("Pack(%v): %d words, %v", widths, len(w), is)
		}
		at := 0
		for i, width := range widths {
			if slowGet(w, at, width) != values[i] {
				t.Fatalf("Pack(%v): field %d", widths, i)
			}
			at += width
		}
		for ; at < 64*len(w); at++ {
			if bitOf(w, at) != 0 {
				t.Fatalf("Pack(%v): bit %d is not 0", widths, at)
			}
		}
		keptWords := slices.Clone(w)
		v, is := Unpack(widths, w)
		if !is || !slices.Equal(v, values) {
			t.Fatalf("Unpack(%v): %x, %v", widths, v, is)
		}
		if !slices.Equal(widths, keptWidths) || !slices.Equal(values, keptValues) || !slices.Equal(w, keptWords) {
			t.Fatal("what was handed in was changed")
		}
	}
}

// R5: what Pack and Unpack answer is new memory.
func TestPackSharesNothing(t *testing.T) {
	values := []uint64{3, 4}
	w, _ := Pack([]int{64, 64}, values)
	v, _ := Unpack([]int{64, 64}, w)
	w[0], v[1] = 9, 9
	if values[0] != 3 || values[1] != 4 || v[0] != 3 || w[1] != 4 {
		t.Errorf("shared: %d, %d, %d", values, w, v)
	}
}
