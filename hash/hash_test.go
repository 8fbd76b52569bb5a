package hash

import (
	"math"
	"math/big"
	"math/rand"
	"strings"
	"testing"
)

const all = math.MaxUint64

// edges are numbers at which shifts and products lose bits, or nearly.
var edges = []uint64{
	0, 1, 2, 255, 256, 1<<29 - 1, 1 << 29, 1<<31 - 1, 1 << 31, 1<<32 - 1, 1 << 32, 1<<32 + 1, 1 << 35, 1 << 58, 1<<62 - 1, 1 << 62,
	1<<63 - 1, 1 << 63, 1<<63 + 1, 0x9e3779b97f4a7c15, 0xbf58476d1ce4e5b9, 0x123456789abcdef0, all - 1, all,
}

// times multiplies whole numbers, and takes them modulo 2^64 only then.
func times(a, b uint64) uint64 {
	n := new(big.Int).Mul(new(big.Int).SetUint64(a), new(big.Int).SetUint64(b))
	return n.And(n, new(big.Int).SetUint64(all)).Uint64()
}

// slowMix takes the document's steps one by one.
func slowMix(n uint64) uint64 {
	n ^= n >> 32
	n = times(n, 0x9e3779b97f4a7c15)
	n ^= n >> 29
	n = times(n, 0xbf58476d1ce4e5b9)
	return n ^ n>>32
}

// slowSum sums by slowMix alone.
func slowSum(seed uint64, s string) uint64 {
	h := slowMix(seed)
	for _, b := range []byte(s) {
		h = slowMix(h ^ uint64(int(b)+1))
	}
	return slowMix(h ^ uint64(len(s)))
}

// unsum tells the seed by which s has this sum.
func unsum(sum uint64, s string) uint64 {
	h := Unmix(sum) ^ uint64(len(s))
	for i := len(s) - 1; i >= 0; i-- {
		h = Unmix(h) ^ (uint64(s[i]) + 1)
	}
	return Unmix(h)
}

func someText(r *rand.Rand, most int) string {
	b := make([]byte, r.Intn(most+1))
	for i := range b {
		b[i] = byte(r.Intn(256))
	}
	return string(b)
}

// P3.1: numbers that were reckoned elsewhere.
func TestMixOfKnown(t *testing.T) {
	for _, c := range []struct{ n, mixed uint64 }{
		{0, 0},
		{1, 0xca009717f87d8879},
		{2, 0x6c3247d3eded6346},
		{1 << 31, 0x7bcc638f49d5b33b},
		{1 << 32, 0x970818a6fa8a5110},
		{1 << 63, 0x8838ccabba211c1f},
		{all - 1, 0x10d28c2c7739b22a},
		{all, 0x9cebc8ff07279667},
		{0x123456789abcdef0, 0xe937d4e6bcc1b3bc},
	} {
		if n := Mix(c.n); n != c.mixed {
			t.Errorf("Mix(%#x): %#x, not %#x", c.n, n, c.mixed)
		}
		if n := Unmix(c.mixed); n != c.n {
			t.Errorf("Unmix(%#x): %#x, not %#x", c.mixed, n, c.n)
		}
	}
}

func checkMix(t *testing.T, n uint64) {
	t.Helper()
	if got := Mix(n); got != slowMix(n) {
		t.Fatalf("Mix(%#x): %#x, not %#x", n, got, slowMix(n))
	}
	if got := Unmix(slowMix(n)); got != n {
		t.Fatalf("Unmix of what Mix tells of %#x: %#x", n, got)
	}
	if got := slowMix(Unmix(n)); got != n {
		t.Fatalf("Mix of what Unmix tells of %#x: %#x", n, got)
	}
}

// P3.1: Mix takes the steps, and Unmix takes them back, at the edges, of each bit by itself, and of many numbers.
func TestMixAndUnmix(t *testing.T) {
	for _, n := range edges {
		checkMix(t, n)
	}
	for i := range 64 {
		checkMix(t, 1<<i)
		checkMix(t, 1<<i-1)
		checkMix(t, all^1<<i)
	}
	r := rand.New(rand.NewSource(1))
	for range 20000 {
		checkMix(t, r.Uint64())
	}
}

// P3.2: sums that were reckoned elsewhere: of no bytes, of bytes that are 0 or 255, in either order, and of bytes that are no runes of their own.
func TestSumOfKnown(t *testing.T) {
	for _, c := range []struct {
		seed uint64
		s    string
		sum  uint64
	}{
		{0, "", 0},
		{1, "", 0xf2b7e15b5d427726},
		{0, "\x00", 0xa25e651e71e9250a},
		{0, "a", 0xd18bf3035a4868dc},
		{0, "ab", 0x2ffec780f132ea1b},
		{0, "ba", 0xf61b74b381b59373},
		{0, "\xc3\xa9", 0xc40c9e7ffdbf0728},
		{7, "a\xff", 0xb0fee81e1a47aa4d},
		{all, "\xff\xff\xff", 0x60b52d4f56a08695},
		{42, "a key of thirty-two bytes, or so.", 0xbf981715d3c2c5b3},
	} {
		if n := Sum(c.seed, c.s); n != c.sum {
			t.Errorf("Sum(%#x, %q): %#x, not %#x", c.seed, c.s, n, c.sum)
		}
	}
}

// P3.2: every byte by itself, many texts, and long ones.
func TestSum(t *testing.T) {
	for b := range 256 {
		s := string([]byte{byte(b)})
		if n := Sum(3, s); n != slowSum(3, s) {
			t.Fatalf("Sum(3, %q): %#x", s, n)
		}
	}
	r := rand.New(rand.NewSource(2))
	for range 3000 {
		seed, s := r.Uint64(), someText(r, 40)
		if n := Sum(seed, s); n != slowSum(seed, s) {
			t.Fatalf("Sum(%#x, %q): %#x", seed, s, n)
		}
	}
	for _, length := range []int{255, 256, 70000} {
		s := strings.Repeat("\x00", length)
		if n := Sum(5, s); n != slowSum(5, s) {
			t.Fatalf("Sum of %d bytes: %#x", length, n)
		}
	}
}

// P3.3: as many of the highest bits as there are asked for.
func TestHome(t *testing.T) {
	r := rand.New(rand.NewSource(3))
	numbers := append([]uint64{0xabcdef0123456789, r.Uint64(), r.Uint64()}, edges...)
	for _, n := range numbers {
		for bits := 1; bits <= 62; bits++ {
			want := 0
			for i := range bits {
				want = want<<1 | int(n>>(63-i)&1)
			}
			if home := Home(n, bits); home != want || home < 0 {
				t.Fatalf("Home(%#x, %d): %#x, not %#x", n, bits, home, want)
			}
		}
	}
}

// P3.3: 0, if bits is not 1 to 62.
func TestHomeOfWrong(t *testing.T) {
	for _, bits := range []int{0, -1, -2, -62, -64, math.MinInt, 63, 64, 65, 128, math.MaxInt} {
		for _, n := range []uint64{1, 1 << 63, all} {
			if home := Home(n, bits); home != 0 {
				t.Errorf("Home(%#x, %d): %#x", n, bits, home)
			}
		}
	}
}

// P3.3: names that were reckoned elsewhere; a book below 0 is a number without a sign.
func TestNameOfKnown(t *testing.T) {
	for _, c := range []struct {
		seed uint64
		book int
		key  string
		name uint64
	}{
		{0, 0, "", 0},
		{7, 3, "a", 0x293da2ccfa415caa},
		{0, -1, "", 0x23c7e3bd52157600},
		{0, 7, "key", 0x407df043cbc49c57},
		{5, 5, "key", 0x5c41779c11beadfe},
		{1 << 63, math.MinInt, "key", 0x5c41779c11beadfe},
		{9, math.MaxInt, "k", 0xa763ff93424b704d},
		{all, -1, "k", 0x863919c82f23db},
	} {
		if n := Name(c.seed, c.book, c.key); n != c.name {
			t.Errorf("Name(%#x, %d, %q): %#x, not %#x", c.seed, c.book, c.key, n, c.name)
		}
	}
}

// P3.3: many names.
func TestName(t *testing.T) {
	r := rand.New(rand.NewSource(4))
	for range 3000 {
		seed, book, key := r.Uint64(), int(r.Uint64()), someText(r, 33)
		if r.Intn(2) == 0 {
			book = r.Intn(8)
		}
		if n := Name(seed, book, key); n != slowSum(slowMix(seed^uint64(book)), key) {
			t.Fatalf("Name(%#x, %d, %q): %#x", seed, book, key, n)
		}
	}
}

// P3.4: unlike numbers are mixed to unlike numbers.
func TestMixIsOneToOne(t *testing.T) {
	from := map[uint64]uint64{}
	check := func(n uint64) {
		mixed := Mix(n)
		if other, there := from[mixed]; there && other != n {
			t.Fatalf("%#x and %#x are both mixed to %#x", n, other, mixed)
		}
		from[mixed] = n
	}
	for i := range uint64(1 << 14) {
		check(i)
		check(i << 32)
		check(i << 50)
		check(all - i)
	}
}

// P3.4: of one text, unlike seeds are summed to unlike sums: the seed can be told by the sum.
func TestSumTellsItsSeed(t *testing.T) {
	r := rand.New(rand.NewSource(5))
	for _, s := range []string{"", "\x00", "a", "ab", "\xff\xff", someText(r, 33), someText(r, 300)} {
		from := map[uint64]uint64{}
		for i := range uint64(2000) {
			for _, seed := range []uint64{i, all - i, r.Uint64()} {
				sum := Sum(seed, s)
				if other, there := from[sum]; there && other != seed {
					t.Fatalf("%q: seeds %#x and %#x have both the sum %#x", s, seed, other, sum)
				}
				from[sum] = seed
				if back := unsum(sum, s); back != seed {
					t.Fatalf("%q: seed %#x, not %#x", s, back, seed)
				}
			}
		}
	}
}

// R6: what is told hangs on the arguments alone.
func TestAgain(t *testing.T) {
	r := rand.New(rand.NewSource(6))
	for range 100 {
		seed, s := r.Uint64(), someText(r, 33)
		mixed, sum, name := Mix(seed), Sum(seed, s), Name(seed, 3, s)
		Unmix(r.Uint64())
		Sum(r.Uint64(), someText(r, 33))
		if Mix(seed) != mixed || Sum(seed, strings.Clone(s)) != sum || Name(seed, 3, strings.Clone(s)) != name {
			t.Fatalf("seed %#x, %q: told otherwise", seed, s)
		}
	}
}
