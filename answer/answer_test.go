package answer

import (
	"math"
	"math/rand"
	"slices"
	"strings"
	"testing"

	"sandglass/api"
)

// big tells the lowest bytes of n, the highest one first.
func big(n int, width int) string {
	s := ""
	for range width {
		s = string([]byte{byte(n)}) + s
		n >>= 8
	}
	return s
}

// bytesOf tells the bytes of an answer that may be, of any length.
func bytesOf(a api.Answer) string {
	p := a.Policy
	s := big(a.Kind, 1) + big(int(a.Code), 1) + big(a.Version, 4)
	s += big(p.Kind, 1) + big(p.Limit, 4) + big(p.Window, 4) + big(p.Buckets, 1)
	s += big(a.Now, 6) + big(a.Count, 2) + big(len(a.Told), 1)
	for _, x := range a.Told {
		allowed := map[bool]int{true: 1}[x.Verdict.Allowed]
		s += big(int(x.Code), 1) + big(allowed, 1)
		s += big(x.Verdict.Remaining, 4) + big(x.Verdict.Retry, 6) + big(x.Verdict.Reset, 6)
	}
	s += big(len(a.Names), 1)
	for _, n := range a.Names {
		s += big(n.Book, 1) + big(len(n.Key), 1) + n.Key
	}
	return s
}

// scan takes numbers and texts out of bytes, and fails for good where they are not.
type scan struct {
	s      string
	failed bool
}

func (x *scan) bytes(n int) string {
	if x.failed || len(x.s) < n {
		x.failed = true
		return strings.Repeat("\x00", n)
	}
	got := x.s[:n]
	x.s = x.s[n:]
	return got
}

func (x *scan) number(width int) int {
	n := 0
	for _, b := range []byte(x.bytes(width)) {
		n = n*256 + int(b)
	}
	return n
}

// upTo takes a number of one byte, and fails, if it is above most.
func (x *scan) upTo(most int) int {
	n := x.number(1)
	x.failed = x.failed || n > most
	return n
}

// answerOf tells what Decode has to tell, by the chapter's words.
func answerOf(s string) (api.Answer, api.Errno) {
	x := &scan{s: s}
	var a api.Answer
	a.Kind, a.Code, a.Version = x.number(1), api.Errno(x.number(1)), x.number(4)
	a.Policy.Kind, a.Policy.Limit = x.number(1), x.number(4)
	a.Policy.Window, a.Policy.Buckets = x.number(4), x.number(1)
	a.Now, a.Count = x.number(6), x.number(2)
	for range x.upTo(32) {
		var t api.Told
		t.Code = api.Errno(x.number(1))
		t.Verdict.Allowed = x.upTo(1) == 1
		t.Verdict.Remaining, t.Verdict.Retry, t.Verdict.Reset = x.number(4), x.number(6), x.number(6)
		a.Told = append(a.Told, t)
	}
	for range x.upTo(32) {
		book := x.number(1)
		a.Names = append(a.Names, api.Name{Book: book, Key: x.bytes(x.number(1))})
	}
	if x.failed || x.s != "" || len(s) > 512 {
		return api.Answer{}, api.ErrForm
	}
	return a, api.OK
}

// equal tells whether answers are the same, field by field.
func equal(a api.Answer, b api.Answer) bool {
	if !slices.Equal(a.Told, b.Told) || !slices.Equal(a.Names, b.Names) {
		return false
	}
	if a.Kind != b.Kind || a.Code != b.Code || a.Version != b.Version {
		return false
	}
	return a.Policy == b.Policy && a.Now == b.Now && a.Count == b.Count
}

// holds fails unless May and Encode tell what they have to of an answer of which may tells whether it may be, and Decode of its bytes.
func holds(t *testing.T, a api.Answer, may bool) {
	t.Helper()
	want, code := "", api.ErrArg
	if may {
		want, code = bytesOf(a), api.OK
		if len(want) > 512 {
			want, code = "", api.ErrBig
		}
	}
	told, names := slices.Clone(a.Told), slices.Clone(a.Names)
	if got := May(a); got != may {
		t.Fatalf("May(%v): %v", a, got)
	}
	if got, e := Encode(a); got != want || e != code {
		t.Fatalf("Encode(%v): %q, %d, not %q, %d", a, got, e, want, code)
	}
	if !slices.Equal(told, a.Told) || !slices.Equal(names, a.Names) {
		t.Fatalf("%v, %v were changed to %v", told, names, a)
	}
	if code != api.OK {
		return
	}
	if got, e := Decode(want); !equal(got, a) || e != api.OK {
		t.Fatalf("Decode(%q): %v, %d, not %v", want, got, e, a)
	}
}

// reads fails unless Decode tells of s what it has to.
func reads(t *testing.T, s string) {
	t.Helper()
	want, code := answerOf(s)
	got, e := Decode(s)
	if !equal(got, want) || e != code {
		t.Fatalf("Decode(%q): %v, %d, not %v, %d", s, got, e, want, code)
	}
	if e != api.OK {
		return
	}
	if again, e := Encode(got); again != s || e != api.OK || !May(got) {
		t.Fatalf("Encode of Decode(%q): %q, %d", s, again, e)
	}
}

// field is a number of an answer, and the greatest one that may be.
type field struct {
	most int
	set  func(a *api.Answer, n int)
}

func fields() []field {
	const most8, most16, most32, most48 = 255, 65535, 1<<32 - 1, 1<<48 - 1
	told := func(set func(t *api.Told, n int)) func(a *api.Answer, n int) {
		return func(a *api.Answer, n int) {
			a.Told = make([]api.Told, 3)
			set(&a.Told[n&1], n)
		}
	}
	return []field{
		{most8, func(a *api.Answer, n int) { a.Kind = n }},
		{most8, func(a *api.Answer, n int) { a.Code = api.Errno(n) }},
		{most32, func(a *api.Answer, n int) { a.Version = n }},
		{most8, func(a *api.Answer, n int) { a.Policy.Kind = n }},
		{most32, func(a *api.Answer, n int) { a.Policy.Limit = n }},
		{most32, func(a *api.Answer, n int) { a.Policy.Window = n }},
		{most8, func(a *api.Answer, n int) { a.Policy.Buckets = n }},
		{most48, func(a *api.Answer, n int) { a.Now = n }},
		{most16, func(a *api.Answer, n int) { a.Count = n }},
		{most8, told(func(t *api.Told, n int) { t.Code = api.Errno(n) })},
		{most32, told(func(t *api.Told, n int) { t.Verdict.Remaining = n })},
		{most48, told(func(t *api.Told, n int) { t.Verdict.Retry = n })},
		{most48, told(func(t *api.Told, n int) { t.Verdict.Reset = n })},
		{most8, func(a *api.Answer, n int) { a.Names = []api.Name{{}, {Book: n}, {}} }},
	}
}

// edges are numbers about the bounds, and some whose lowest bytes are those of numbers that may be.
func edges() []int {
	all := []int{math.MinInt, math.MinInt + 1, math.MaxInt, math.MaxInt - 1}
	for _, n := range []int{0, 1 << 7, 1 << 8, 1 << 9, 1 << 15, 1 << 16, 1 << 17, 1 << 31, 1 << 32, 1 << 33, 1 << 40, 1 << 41, 1 << 47, 1 << 48, 1 << 49, 1 << 62} {
		all = append(all, n-1, n, n+1, -n-1, -n, -n+1)
	}
	return all
}

// P22.1, P22.2: each number, at the edges of what may be.
func TestEachField(t *testing.T) {
	for _, f := range fields() {
		for _, n := range edges() {
			var a api.Answer
			f.set(&a, n)
			holds(t, a, n >= 0 && n <= f.most)
		}
	}
	for _, n := range []int{0, 1, 2, 127, 128, 254, 255, 256, 257, 258, 511, 512, 513, 65536, 65537, 1 << 20} {
		key := strings.Repeat("k", n)
		holds(t, api.Answer{Names: []api.Name{{Key: key}}}, n <= 255)
		holds(t, api.Answer{Names: []api.Name{{Key: "a"}, {Key: key}, {}}}, n <= 255)
	}
	for _, allowed := range []bool{false, true} {
		holds(t, api.Answer{Told: []api.Told{{}, {Verdict: api.Verdict{Allowed: allowed}}, {}}}, true)
	}
}

// P22.1, P22.2: how many things lists may have.
func TestHowMany(t *testing.T) {
	counts := []int{64, 255, 256, 257, 258, 256 + 32, 512, 65536, 65537, 65536 + 32, 1 << 20}
	for n := range 36 {
		counts = append(counts, n)
	}
	for _, n := range counts {
		holds(t, api.Answer{Told: make([]api.Told, n)}, n <= 32)
		holds(t, api.Answer{Names: make([]api.Name, n)}, n <= 32)
		holds(t, api.Answer{Told: make([]api.Told, n), Names: make([]api.Name, n)}, n <= 32)
		holds(t, api.Answer{Told: make([]api.Told, n), Names: make([]api.Name, 33)}, false)
	}
}

// P22.1: a thing that may not be, wherever it stands.
func TestOneBad(t *testing.T) {
	for n := 1; n <= 33; n++ {
		for at := range n {
			told := make([]api.Told, n)
			told[at].Verdict.Reset = 1 << 48
			holds(t, api.Answer{Told: told}, false)
			names := make([]api.Name, n)
			names[at].Book = 256
			holds(t, api.Answer{Names: names}, false)
			names[at] = api.Name{Key: strings.Repeat("k", 256)}
			holds(t, api.Answer{Names: names}, false)
		}
	}
}

// P22.2, P22.3: 512 bytes are an answer's, 513 are not; what may not be is told first.
func TestBig(t *testing.T) {
	for length := 505; length <= 520; length++ {
		names := []api.Name{{Key: strings.Repeat("a", 255)}, {Book: 255, Key: strings.Repeat("b", length-26-4-255)}}
		a := api.Answer{Names: names}
		s := bytesOf(a)
		if len(s) != length {
			t.Fatalf("%d bytes, not %d", len(s), length)
		}
		holds(t, a, true)
		reads(t, s)
	}
	a := api.Answer{Told: make([]api.Told, 27)}
	holds(t, a, true)
	reads(t, bytesOf(a))
	a.Names = make([]api.Name, 1)
	holds(t, a, true)
	reads(t, bytesOf(a))
	a.Count = -1
	holds(t, a, false)
	names := make([]api.Name, 32)
	for i := range names {
		names[i] = api.Name{Book: 255, Key: strings.Repeat("k", 255)}
	}
	a = api.Answer{Told: make([]api.Told, 32), Names: names}
	holds(t, a, true)
	reads(t, bytesOf(a))
}

// P22.3: bytes of all lengths, and of all values at each place.
func TestEachByte(t *testing.T) {
	for _, b := range []string{"\x00", "\x01", "\x02", "\xff"} {
		for length := range 600 {
			reads(t, strings.Repeat(b, length))
		}
	}
	told := []api.Told{{}, {Code: 7, Verdict: api.Verdict{Allowed: true, Remaining: 3, Retry: 4, Reset: 5}}}
	a := api.Answer{Kind: 2, Told: told, Names: []api.Name{{Book: 1, Key: "abc"}, {}, {Book: 2, Key: "d"}}}
	for _, s := range []string{bytesOf(api.Answer{}), bytesOf(a)} {
		changed := []byte(s)
		for at := range changed {
			was := changed[at]
			for b := range 256 {
				changed[at] = byte(b)
				reads(t, string(changed))
			}
			changed[at] = was
		}
	}
}

// P22.3: all values of the counts and of the flag, with as many things behind them as they tell, or fewer, or more.
func TestEachCount(t *testing.T) {
	front := strings.Repeat("\x00", 24)
	for count := range 256 {
		for _, n := range []int{count, count & 31, 32, 33} {
			reads(t, front+big(count, 1)+strings.Repeat("\x00", 18*n)+"\x00")
			reads(t, front+"\x00"+big(count, 1)+strings.Repeat("\x00", 2*n))
		}
		reads(t, front+"\x01\x00"+big(count, 1)+strings.Repeat("\x00", 17))
	}
}

// P22.3, P22.4: short endings of a few bytes.
func TestAllEndings(t *testing.T) {
	const bytes = "\x00\x01\x02\x03\xff"
	front := strings.Repeat("\x00", 25)
	for length := range 7 {
		total := 1
		for range length {
			total *= len(bytes)
		}
		s := make([]byte, length)
		for number := range total {
			for i, rest := 0, number; i < length; i, rest = i+1, rest/len(bytes) {
				s[i] = bytes[rest%len(bytes)]
			}
			reads(t, front+string(s))
		}
	}
}

// anyAnswer tells an answer that may be.
func anyAnswer(r *rand.Rand) api.Answer {
	long := func() int { return int(r.Uint32()) }
	time := func() int { return int(r.Uint64() >> 16) }
	a := api.Answer{Kind: r.Intn(256), Code: api.Errno(r.Intn(256)), Version: long(), Now: time(), Count: r.Intn(65536)}
	a.Policy = api.Policy{Kind: r.Intn(256), Limit: long(), Window: long(), Buckets: r.Intn(256)}
	for range r.Intn(1 + r.Intn(12)) {
		v := api.Verdict{Allowed: r.Intn(2) == 0, Remaining: long(), Retry: time(), Reset: time()}
		a.Told = append(a.Told, api.Told{Code: api.Errno(r.Intn(256)), Verdict: v})
	}
	for range r.Intn(1 + r.Intn(12)) {
		key := make([]byte, []int{0, 1, 3, 32, 33, 100, 255}[r.Intn(7)])
		r.Read(key)
		a.Names = append(a.Names, api.Name{Book: r.Intn(256), Key: string(key)})
	}
	return a
}

// P22.2, P22.3, P22.4: any answers, and their bytes cut short, with more behind them, and with one of them changed.
func TestAny(t *testing.T) {
	r := rand.New(rand.NewSource(22))
	for range 2000 {
		a := anyAnswer(r)
		holds(t, a, true)
		s := bytesOf(a)
		reads(t, s)
		for n := range len(s) {
			if got, e := Decode(s[:n]); e != api.ErrForm || !equal(got, api.Answer{}) {
				t.Fatalf("Decode of %d bytes of %q: %v, %d", n, s, got, e)
			}
		}
		for _, more := range []string{"\x00", "\x01", s} {
			if got, e := Decode(s + more); e != api.ErrForm || !equal(got, api.Answer{}) {
				t.Fatalf("Decode(%q): %v, %d", s+more, got, e)
			}
		}
		changed := []byte(s)
		for range 50 {
			at := r.Intn(len(changed))
			was := changed[at]
			changed[at] = []byte{0, 1, 2, was + 1, was - 1, byte(r.Intn(256))}[r.Intn(6)]
			reads(t, string(changed))
			changed[at] = was
		}
	}
}

// The document's example, and lists that are empty, but not nil.
func TestExample(t *testing.T) {
	zero := strings.Repeat("\x00", 26)
	for _, a := range []api.Answer{{}, {Told: []api.Told{}, Names: []api.Name{}}} {
		holds(t, a, true)
		if s, e := Encode(a); s != zero || e != api.OK {
			t.Errorf("%q, %d", s, e)
		}
	}
	reads(t, zero)
	reads(t, "")
}

// R5, R6: what is told shares nothing with what is told the next time.
func TestSharesNothing(t *testing.T) {
	want := api.Answer{Told: []api.Told{{Code: 1}, {Code: 2}}, Names: []api.Name{{Book: 1, Key: "a"}, {Book: 2}}}
	s := bytesOf(want)
	first, _ := Decode(s)
	second, _ := Decode(s)
	first.Told[0].Code, first.Names[0].Key = 9, "changed"
	_, _ = append(first.Told, api.Told{}), append(first.Names, api.Name{})
	third, _ := Decode(s)
	if !equal(second, want) || !equal(third, want) {
		t.Errorf("%v, %v", second, third)
	}
}
