package nums

import (
	"math"
	"math/big"
	"math/rand"
	"strings"
	"testing"

	"sandglass/api"
)

const all = math.MaxUint64

// edges are numbers at which sums and products wrap round, or nearly.
var edges = []uint64{
	0, 1, 2, 3, 7, 255, 256, 1<<16 - 1, 1 << 16, 1<<31 - 1, 1 << 31, 1<<32 - 2, 1<<32 - 1, 1 << 32, 1<<32 + 1,
	1<<33 - 1, 1 << 33, 1 << 40, 1 << 41, 1<<63 - 1, 1 << 63, 1<<63 + 1, 1<<64 - 1<<32, all - 1<<32, all / 3, all - 2, all - 1, all,
}

func whole(n uint64) *big.Int {
	return new(big.Int).SetUint64(n)
}

// capped tells n, but most, if that is less.
func capped(n *big.Int, most uint64) uint64 {
	if n.Cmp(whole(most)) > 0 {
		return most
	}
	return n.Uint64()
}

// slowUp divides whole numbers, b not 0, and rounds up.
func slowUp(a, b uint64) uint64 {
	n := new(big.Int).Add(whole(a), whole(b))
	n.Sub(n, big.NewInt(1))
	return n.Div(n, whole(b)).Uint64()
}

func checkSums(t *testing.T, a, b, most uint64) {
	t.Helper()
	if n := Add(a, b, most); n != capped(new(big.Int).Add(whole(a), whole(b)), most) {
		t.Fatalf("Add(%d, %d, %d): %d", a, b, most, n)
	}
	if n := Mul(a, b, most); n != capped(new(big.Int).Mul(whole(a), whole(b)), most) {
		t.Fatalf("Mul(%d, %d, %d): %d", a, b, most, n)
	}
	less := new(big.Int).Sub(whole(a), whole(b))
	if n := Sub(a, b); less.Sign() < 0 && n != 0 || less.Sign() >= 0 && n != less.Uint64() {
		t.Fatalf("Sub(%d, %d): %d", a, b, n)
	}
	if n := Up(a, b); b == 0 && n != 0 || b != 0 && n != slowUp(a, b) {
		t.Fatalf("Up(%d, %d): %d", a, b, n)
	}
}

// P2.1, P2.5: sums at the edges are those of whole numbers.
func TestSumsAtEdges(t *testing.T) {
	for _, a := range edges {
		for _, b := range edges {
			for _, most := range append([]uint64{a + b, a + b - 1, a * b, a*b - 1, a*b + 1}, edges...) {
				checkSums(t, a, b, most)
			}
		}
	}
}

// P2.1, P2.5: likewise of numbers of all lengths.
func TestSumsOfAnyNumbers(t *testing.T) {
	r := rand.New(rand.NewSource(1))
	for range 20000 {
		checkSums(t, r.Uint64()>>r.Intn(64), r.Uint64()>>r.Intn(64), r.Uint64()>>r.Intn(64))
	}
}

// P2.1: what the chapter names.
func TestSumsByHand(t *testing.T) {
	if n := Mul(1<<40, 1<<40, all); n != all {
		t.Errorf("Mul of 2^40 and 2^40: %d", n)
	}
	if n := Add(all, all, all); n != all {
		t.Errorf("Add beyond 64 bits: %d", n)
	}
	if n := Add(all, 1, 5); n != 5 {
		t.Errorf("Add beyond 64 bits, at most 5: %d", n)
	}
	if n := Sub(3, 4); n != 0 {
		t.Errorf("Sub below 0: %d", n)
	}
	if n := Up(7, 0); n != 0 {
		t.Errorf("Up by 0: %d", n)
	}
	if n := Up(all, 2); n != 1<<63 {
		t.Errorf("Up of the greatest: %d", n)
	}
}

// P2.2: every width, and wrong ones.
func TestWide(t *testing.T) {
	const n = 0x0102030405060708
	for width := range 9 {
		if s := Wide(n, width); s != "\x01\x02\x03\x04\x05\x06\x07\x08"[8-width:] {
			t.Errorf("Wide of %d: %q", width, s)
		}
		if s := Wide(all, width); s != strings.Repeat("\xff", width) {
			t.Errorf("Wide of %d, all 1: %q", width, s)
		}
	}
	for _, width := range []int{-1, -8, 9, 64, math.MaxInt, math.MinInt} {
		if s := Wide(n, width); s != "" {
			t.Errorf("Wide of %d: %q", width, s)
		}
	}
}

// P2.2: up to 8 bytes, and no more of them.
func TestNarrow(t *testing.T) {
	for i, c := range []struct {
		s  string
		n  uint64
		is bool
	}{
		{"", 0, true},
		{"\x00", 0, true},
		{"\xff", 255, true},
		{"\x01\x00", 256, true},
		{"\xc3\xa9", 0xc3a9, true},
		{"\x01\x02\x03\x04\x05\x06\x07\x08", 0x0102030405060708, true},
		{strings.Repeat("\xff", 8), all, true},
		{strings.Repeat("\x00", 9), 0, false},
		{strings.Repeat("\xff", 9), 0, false},
		{strings.Repeat("x", 300), 0, false},
	} {
		if n, is := Narrow(c.s); n != c.n || is != c.is {
			t.Errorf("case %d: %x, %v", i, n, is)
		}
	}
}

// P2.3: ordinary places, and the edges.
func TestNumber(t *testing.T) {
	for i, c := range []struct {
		s         string
		at, width int
		n         uint64
		end       int
		code      api.Errno
	}{
		{"\x01\x02\x03", 0, 3, 0x010203, 3, api.OK},
		{"\x01\x02\x03", 1, 1, 2, 2, api.OK},
		{"\x01\x02\x03", 1, 2, 0x0203, 3, api.OK},
		{"\x01\x02\x03", 3, 0, 0, 3, api.OK},
		{"\x01\x02\x03", 1, 0, 0, 1, api.OK},
		{"", 0, 0, 0, 0, api.OK},
		{"\x00" + strings.Repeat("\xff", 8), 1, 8, all, 9, api.OK},
		{"", 0, 1, 0, 0, api.ErrCut},
		{"\x01\x02\x03", 3, 1, 0, 0, api.ErrCut},
		{"\x01\x02\x03", 2, 2, 0, 0, api.ErrCut},
		{"\x01\x02\x03", 0, 8, 0, 0, api.ErrCut},
		{"\x01\x02\x03", 4, 0, 0, 0, api.ErrArg},
		{"\x01\x02\x03", -1, 0, 0, 0, api.ErrArg},
		{"\x01\x02\x03", 0, -1, 0, 0, api.ErrArg},
		{"\x01\x02\x03", 3, -1, 0, 0, api.ErrArg},
		{"\x01\x02\x03", 0, 9, 0, 0, api.ErrArg},
		{strings.Repeat("x", 20), 0, 9, 0, 0, api.ErrArg},
		{"\x01\x02\x03", 4, 9, 0, 0, api.ErrArg},
		{"\x01\x02\x03", math.MaxInt, 8, 0, 0, api.ErrArg},
		{"\x01\x02\x03", math.MinInt, 8, 0, 0, api.ErrArg},
		{"\x01\x02\x03", 0, math.MaxInt, 0, 0, api.ErrArg},
		{"\x01\x02\x03", 0, math.MinInt, 0, 0, api.ErrArg},
	} {
		if n, end, code := Number(c.s, c.at, c.width); n != c.n || end != c.end || code != c.code {
			t.Errorf("case %d: %x, %d, %d", i, n, end, code)
		}
	}
}

// P2.4: every length that a byte can tell, and one more.
func TestPut(t *testing.T) {
	for length := range 256 {
		s := strings.Repeat("x", length)
		if put, is := Put(s); !is || put != string([]byte{byte(length)})+s {
			t.Errorf("Put of %d bytes: %q, %v", length, put, is)
		}
	}
	for _, length := range []int{256, 257, 1000} {
		if put, is := Put(strings.Repeat("x", length)); is || put != "" {
			t.Errorf("Put of %d bytes: %q, %v", length, put, is)
		}
	}
}

// P2.4: ordinary places, and the edges.
func TestText(t *testing.T) {
	long := strings.Repeat("\xff", 255)
	for i, c := range []struct {
		s    string
		at   int
		text string
		end  int
		code api.Errno
	}{
		{"\x02hi", 0, "hi", 3, api.OK},
		{"\x02hi!", 0, "hi", 3, api.OK},
		{"ab\x01c", 2, "c", 4, api.OK},
		{"\x00", 0, "", 1, api.OK},
		{"a\x00b", 1, "", 2, api.OK},
		{"\xff" + long, 0, long, 256, api.OK},
		{"\xff" + long + "x", 0, long, 256, api.OK},
		{"\x80" + long, 0, long[:128], 129, api.OK},
		{"", 0, "", 0, api.ErrCut},
		{"ab", 2, "", 0, api.ErrCut},
		{"\x01", 0, "", 0, api.ErrCut},
		{"\x03hi", 0, "", 0, api.ErrCut},
		{"\xff" + long[1:], 0, "", 0, api.ErrCut},
		{"ab", 3, "", 0, api.ErrArg},
		{"", 1, "", 0, api.ErrArg},
		{"\x00", -1, "", 0, api.ErrArg},
		{"\x00", math.MaxInt, "", 0, api.ErrArg},
		{"\x00", math.MinInt, "", 0, api.ErrArg},
	} {
		if text, end, code := Text(c.s, c.at); text != c.text || end != c.end || code != c.code {
			t.Errorf("case %d: %q, %d, %d", i, text, end, code)
		}
	}
}

func someBytes(r *rand.Rand, n int) string {
	b := make([]byte, n)
	r.Read(b)
	return string(b)
}

// P2.5: numbers and texts that are written are read, wherever they stand; of what is cut off nothing is read.
func TestWrittenIsRead(t *testing.T) {
	r := rand.New(rand.NewSource(2))
	for range 5000 {
		ahead, behind := someBytes(r, r.Intn(20)), someBytes(r, r.Intn(20))
		width := r.Intn(9)
		n := r.Uint64()
		if width < 8 {
			n %= 1 << (8 * width)
		}
		wide := Wide(n, width)
		if back, is := Narrow(wide); !is || back != n {
			t.Fatalf("Narrow(Wide(%x, %d)): %x, %v", n, width, back, is)
		}
		back, end, code := Number(ahead+wide+behind, len(ahead), width)
		if back != n || end != len(ahead)+width || code != api.OK {
			t.Fatalf("Number of %x, %d: %x, %d, %d", n, width, back, end, code)
		}
		s := someBytes(r, r.Intn(256))
		put, is := Put(s)
		text, end, code := Text(ahead+put+behind, len(ahead))
		if !is || text != s || end != len(ahead)+len(put) || code != api.OK {
			t.Fatalf("Text of %q: %q, %d, %d", s, text, end, code)
		}
		cut := ahead + put[:r.Intn(len(put))]
		if text, end, code := Text(cut, len(ahead)); text != "" || end != 0 || code != api.ErrCut {
			t.Fatalf("Text of %q: %q, %d, %d", cut, text, end, code)
		}
	}
}
