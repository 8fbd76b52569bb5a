package policy

import (
	"math"
	"math/rand"
	"strings"
	"testing"

	"sandglass/api"
)

// edges are numbers next to where a bound of a policy lies, and far from all of them.
var edges = []int{
	math.MinInt, -1 << 40, -1 << 32, -1<<32 + 1, -17, -16, -2, -1, 0, 1, 2, 3, 4, 5, 6, 7, 15, 16, 17, 60, 255, 256, 257, 258,
	1<<20 - 1, 1 << 20, 1<<20 + 1, 1<<32 - 1, 1 << 32, 1<<32 + 1, 1<<32 + 3, 1 << 40, math.MaxInt,
}

// may is P9.1 by its words alone.
func may(p api.Policy) bool {
	switch p.Kind {
	case 1, 2:
		return p.Limit >= 1 && p.Limit <= 1048576 && p.Window >= 1 && p.Window <= 1048576 && p.Buckets == 0
	case 3:
		if p.Limit < 1 || p.Limit > 1048576 || p.Window < 1 || p.Window > 1048576 || p.Buckets < 1 || p.Buckets > 16 {
			return false
		}
		return p.Window/p.Buckets*p.Buckets == p.Window
	case 4:
		return p.Limit >= 1 && p.Limit <= 16 && p.Window >= 1 && p.Window <= 1048576 && p.Buckets == 0
	}
	return false
}

// written is P9.2 by its words alone, of a policy that may be.
func written(p api.Policy) string {
	return string([]byte{
		byte(p.Kind),
		byte(p.Limit / (1 << 24)), byte(p.Limit / (1 << 16)), byte(p.Limit / (1 << 8)), byte(p.Limit),
		byte(p.Window / (1 << 24)), byte(p.Window / (1 << 16)), byte(p.Window / (1 << 8)), byte(p.Window),
		byte(p.Buckets),
	})
}

// slotOf is P9.3 by its words alone, of a policy that may be.
func slotOf(p api.Policy) int {
	if p.Kind == 3 {
		return p.Window / p.Buckets
	}
	return p.Window
}

// same holds all calls of a policy against what the document's words tell.
func same(t *testing.T, p api.Policy) {
	t.Helper()
	code, span, slot, s := api.ErrArg, 0, 0, ""
	if may(p) {
		code, span, slot, s = api.OK, p.Window, slotOf(p), written(p)
	}
	if e := Check(p); e != code {
		t.Fatalf("Check(%v): %d", p, e)
	}
	if got, e := Encode(p); got != s || e != code {
		t.Fatalf("Encode(%v): %q, %d", p, got, e)
	}
	if n := Span(p); n != span {
		t.Fatalf("Span(%v): %d", p, n)
	}
	if n := Slot(p); n != slot {
		t.Fatalf("Slot(%v): %d", p, n)
	}
	if code != api.OK {
		return
	}
	if back, e := Decode(s); back != p || e != api.OK {
		t.Fatalf("Decode of %v: %v, %d", p, back, e)
	}
}

// P9.1 to P9.4: every kind and wrong ones, with every number at the edges.
func TestEdges(t *testing.T) {
	for _, kind := range edges {
		for _, limit := range edges {
			for _, window := range edges {
				for _, buckets := range edges {
					same(t, api.Policy{Kind: kind, Limit: limit, Window: window, Buckets: buckets})
				}
			}
		}
	}
}

// P9.1, P9.3: of a Ring every number of buckets, with windows that these divide, and that they do not.
func TestBuckets(t *testing.T) {
	for buckets := -3; buckets <= 20; buckets++ {
		for window := -3; window <= 800; window++ {
			same(t, api.Policy{Kind: api.Ring, Limit: 10, Window: window, Buckets: buckets})
		}
		for window := 1<<20 - 800; window <= 1<<20+20; window++ {
			same(t, api.Policy{Kind: api.Ring, Limit: 10, Window: window, Buckets: buckets})
		}
	}
}

// P9.1: the limits of each kind, one by one.
func TestLimits(t *testing.T) {
	for kind := -1; kind <= 6; kind++ {
		for limit := -2; limit <= 40; limit++ {
			same(t, api.Policy{Kind: kind, Limit: limit, Window: 12, Buckets: 0})
			same(t, api.Policy{Kind: kind, Limit: limit, Window: 12, Buckets: 4})
		}
	}
}

// P9.1 to P9.3: what the chapter and the limits name, by hand.
func TestByHand(t *testing.T) {
	for i, c := range []struct {
		p    api.Policy
		code api.Errno
		slot int
		s    string
	}{
		{api.Policy{Kind: api.Ring, Limit: 10, Window: 60, Buckets: 6}, api.OK, 10, "\x03\x00\x00\x00\x0a\x00\x00\x00\x3c\x06"},
		{api.Policy{Kind: api.Ring, Limit: api.MaxLimit, Window: api.MaxWindow, Buckets: api.MaxBuckets}, api.OK, 1 << 16, "\x03\x00\x10\x00\x00\x00\x10\x00\x00\x10"},
		{api.Policy{Kind: api.Ring, Limit: 1, Window: 7, Buckets: 1}, api.OK, 7, "\x03\x00\x00\x00\x01\x00\x00\x00\x07\x01"},
		{api.Policy{Kind: api.Bucket, Limit: 0x012345, Window: 0x0fedcb}, api.OK, 0x0fedcb, "\x01\x00\x01\x23\x45\x00\x0f\xed\xcb\x00"},
		{api.Policy{Kind: api.Fixed, Limit: 1, Window: 1}, api.OK, 1, "\x02\x00\x00\x00\x01\x00\x00\x00\x01\x00"},
		{api.Policy{Kind: api.Exact, Limit: api.MaxLog, Window: api.MaxWindow}, api.OK, 1 << 20, "\x04\x00\x00\x00\x10\x00\x10\x00\x00\x00"},
		{api.Policy{Kind: api.Exact, Limit: api.MaxLog + 1, Window: 1}, api.ErrArg, 0, ""},
		{api.Policy{Kind: api.Ring, Limit: 10, Window: 60, Buckets: 7}, api.ErrArg, 0, ""},
		{api.Policy{Kind: api.Ring, Limit: 10, Window: 60}, api.ErrArg, 0, ""},
		{api.Policy{Kind: api.Bucket, Limit: 10, Window: 60, Buckets: 6}, api.ErrArg, 0, ""},
		{api.Policy{}, api.ErrArg, 0, ""},
	} {
		s, e := Encode(c.p)
		if s != c.s || e != c.code || Check(c.p) != c.code || Slot(c.p) != c.slot {
			t.Errorf("case %d: %q, %d, slot %d", i, s, e, Slot(c.p))
		}
	}
}

// P9.1: weights at the bounds, and far beyond them.
func TestWeighs(t *testing.T) {
	for _, w := range edges {
		if got := Weighs(w); got != (w > 0 && w < 1048577) {
			t.Errorf("Weighs(%d): %v", w, got)
		}
	}
}

// P9.2: what is cut off is ErrCut, whatever stands there; what goes on behind is ErrForm.
func TestLengths(t *testing.T) {
	for _, s := range []string{
		"\x01\x00\x00\x00\x01\x00\x00\x00\x01\x00",
		"\x03\x00\x00\x00\x0a\x00\x00\x00\x3c\x06",
		strings.Repeat("\x00", 10),
		strings.Repeat("\xff", 10),
	} {
		for length := range 10 {
			if p, e := Decode(s[:length]); p != (api.Policy{}) || e != api.ErrCut {
				t.Errorf("Decode(%q): %v, %d", s[:length], p, e)
			}
		}
		for _, more := range []string{"\x00", "\x01", "\xff", s, strings.Repeat("\x00", 300)} {
			if p, e := Decode(s + more); p != (api.Policy{}) || e != api.ErrForm {
				t.Errorf("Decode(%q): %v, %d", s+more, p, e)
			}
		}
	}
}

// read holds Decode of ten bytes against what their numbers tell.
func read(t *testing.T, s string) {
	t.Helper()
	number := func(s string) int {
		n := 0
		for _, b := range []byte(s) {
			n = n*256 + int(b)
		}
		return n
	}
	want, code := api.Policy{Kind: number(s[:1]), Limit: number(s[1:5]), Window: number(s[5:9]), Buckets: number(s[9:])}, api.OK
	if !may(want) {
		want, code = api.Policy{}, api.ErrForm
	}
	p, e := Decode(s)
	if p != want || e != code {
		t.Fatalf("Decode(%q): %v, %d", s, p, e)
	}
	if e != api.OK {
		return
	}
	if back, e := Encode(p); back != s || e != api.OK {
		t.Fatalf("Encode of what %q tells: %q, %d", s, back, e)
	}
}

// P9.2, P9.4: every byte at every place of what is written: no policy is written in two ways.
func TestEachByte(t *testing.T) {
	for _, s := range []string{
		"\x01\x00\x00\x00\x01\x00\x00\x00\x01\x00",
		"\x02\x00\x10\x00\x00\x00\x10\x00\x00\x00",
		"\x03\x00\x00\x00\x0a\x00\x00\x00\x3c\x06",
		"\x04\x00\x00\x00\x10\x00\x00\x01\x2c\x00",
	} {
		for at := range len(s) {
			for b := range 256 {
				read(t, s[:at]+string([]byte{byte(b)})+s[at+1:])
			}
		}
	}
}

// P9.2, P9.4: any ten bytes, most of them near those of a policy that may be.
func TestAnyBytes(t *testing.T) {
	r := rand.New(rand.NewSource(1))
	for range 50000 {
		p := api.Policy{Kind: r.Intn(6), Limit: r.Intn(1 << r.Intn(22)), Window: r.Intn(1 << r.Intn(22)), Buckets: r.Intn(18)}
		if p.Kind != api.Ring && r.Intn(4) > 0 {
			p.Buckets = 0
		}
		if p.Kind == api.Ring && r.Intn(2) > 0 {
			p.Window -= p.Window % max(p.Buckets, 1)
		}
		same(t, p)
		s := []byte(written(p))
		if r.Intn(4) == 0 {
			s[r.Intn(len(s))] = byte(r.Intn(256))
		}
		read(t, string(s))
	}
}
