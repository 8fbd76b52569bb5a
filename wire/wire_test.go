package wire

import (
	"math"
	"math/rand"
	"slices"
	"strings"
	"testing"

	"sandglass/api"
)

// big tells the lowest bytes of n, the highest one first.
func big(n int, width int) string {
	s := ""
	for range width {
		s = string([]byte{byte(n)}) + s
		n >>= 8
	}
	return s
}

func putText(s string) string { return big(len(s), 1) + s }

func putAsk(a api.Ask) string { return big(a.Book, 1) + putText(a.Key) + big(a.Weight, 4) }

// bytesOf tells the bytes of a command that may be, of any length.
func bytesOf(c api.Command) string {
	s := big(c.Kind, 1)
	switch c.Kind {
	case api.Check, api.Peek:
		return s + putAsk(c.Asks[0])
	case api.Batch:
		if c.All {
			s += "\x01"
		} else {
			s += "\x00"
		}
		s += big(len(c.Asks), 1)
		for _, a := range c.Asks {
			s += putAsk(a)
		}
		return s
	case api.Reset:
		return s + big(c.After.Book, 1) + putText(c.After.Key)
	case api.Set:
		p := c.Policy
		return s + big(c.Book, 1) + big(p.Kind, 1) + big(p.Limit, 4) + big(p.Window, 4) + big(p.Buckets, 1)
	case api.Get, api.Delete:
		return s + big(c.Book, 1)
	case api.Dump:
		return s + big(c.After.Book, 1) + putText(c.After.Key) + big(c.Most, 1)
	}
	return s
}

// scan takes numbers and texts out of bytes, and fails for good where they are not.
type scan struct {
	s      string
	failed bool
}

func (x *scan) bytes(n int) string {
	if x.failed || len(x.s) < n {
		x.failed = true
		return strings.Repeat("\x00", n)
	}
	got := x.s[:n]
	x.s = x.s[n:]
	return got
}

func (x *scan) number(width int) int {
	n := 0
	for _, b := range []byte(x.bytes(width)) {
		n = n*256 + int(b)
	}
	return n
}

func (x *scan) text() string { return x.bytes(x.number(1)) }

func (x *scan) ask() api.Ask {
	book := x.number(1)
	key := x.text()
	return api.Ask{Book: book, Key: key, Weight: x.number(4)}
}

// commandOf tells what Decode has to tell, by the chapter's words.
func commandOf(s string) (api.Command, api.Errno) {
	if s == "" {
		return api.Command{}, api.ErrForm
	}
	if s[0] < 1 || s[0] > 9 {
		return api.Command{}, api.ErrKind
	}
	c := api.Command{Kind: int(s[0])}
	x := &scan{s: s[1:]}
	switch c.Kind {
	case api.Check, api.Peek:
		c.Asks = []api.Ask{x.ask()}
	case api.Batch:
		all, count := x.number(1), x.number(1)
		c.All = all == 1
		x.failed = x.failed || all > 1 || count > 32
		for range count {
			c.Asks = append(c.Asks, x.ask())
		}
	case api.Reset, api.Dump:
		c.After.Book = x.number(1)
		c.After.Key = x.text()
		if c.Kind == api.Dump {
			c.Most = x.number(1)
		}
	case api.Set:
		c.Book = x.number(1)
		c.Policy.Kind = x.number(1)
		c.Policy.Limit = x.number(4)
		c.Policy.Window = x.number(4)
		c.Policy.Buckets = x.number(1)
	case api.Get, api.Delete:
		c.Book = x.number(1)
	}
	if x.failed || x.s != "" || len(s) > 512 {
		return api.Command{}, api.ErrForm
	}
	return c, api.OK
}

// equal tells whether commands are the same, field by field.
func equal(a api.Command, b api.Command) bool {
	if !slices.Equal(a.Asks, b.Asks) || a.Kind != b.Kind || a.All != b.All {
		return false
	}
	return a.Book == b.Book && a.Policy == b.Policy && a.After == b.After && a.Most == b.Most
}

// holds fails unless May and Encode tell what they have to of a command of which may tells whether it may be, and Decode of its bytes.
func holds(t *testing.T, c api.Command, may bool) {
	t.Helper()
	want, code := "", api.ErrArg
	if may {
		want, code = bytesOf(c), api.OK
		if len(want) > 512 {
			want, code = "", api.ErrBig
		}
	}
	asks := slices.Clone(c.Asks)
	if got := May(c); got != may {
		t.Fatalf("May(%v): %v", c, got)
	}
	if got, e := Encode(c); got != want || e != code {
		t.Fatalf("Encode(%v): %q, %d, not %q, %d", c, got, e, want, code)
	}
	if !slices.Equal(asks, c.Asks) {
		t.Fatalf("asks %v were changed to %v", asks, c.Asks)
	}
	if code != api.OK {
		return
	}
	if got, e := Decode(want); !equal(got, c) || e != api.OK {
		t.Fatalf("Decode(%q): %v, %d, not %v", want, got, e, c)
	}
}

// reads fails unless Decode tells of s what it has to.
func reads(t *testing.T, s string) {
	t.Helper()
	want, code := commandOf(s)
	got, e := Decode(s)
	if !equal(got, want) || e != code {
		t.Fatalf("Decode(%q): %v, %d, not %v, %d", s, got, e, want, code)
	}
	if e != api.OK {
		return
	}
	if again, e := Encode(got); again != s || e != api.OK || !May(got) {
		t.Fatalf("Encode of Decode(%q): %q, %d", s, again, e)
	}
}

// plain tells a command of a kind that may be.
func plain(kind int) api.Command {
	c := api.Command{Kind: kind}
	if kind == api.Check || kind == api.Peek || kind == api.Batch {
		c.Asks = []api.Ask{{}}
	}
	return c
}

// field is a number, or a text's length, of a command, and the greatest one that each kind may have; 0 where the kind does not name it.
type field struct {
	name string
	most map[int]int
	set  func(c *api.Command, n int)
}

const most32 = 1<<32 - 1

func numberFields() []field {
	ask := func(most int) map[int]int { return map[int]int{api.Check: most, api.Batch: most, api.Peek: most} }
	return []field{
		{"ask's Book", ask(255), func(c *api.Command, n int) { c.Asks = []api.Ask{{Book: n}} }},
		{"ask's Weight", ask(most32), func(c *api.Command, n int) { c.Asks = []api.Ask{{Weight: n}} }},
		{"Book", map[int]int{api.Set: 255, api.Get: 255, api.Delete: 255}, func(c *api.Command, n int) { c.Book = n }},
		{"policy's Kind", map[int]int{api.Set: 255}, func(c *api.Command, n int) { c.Policy.Kind = n }},
		{"policy's Limit", map[int]int{api.Set: most32}, func(c *api.Command, n int) { c.Policy.Limit = n }},
		{"policy's Window", map[int]int{api.Set: most32}, func(c *api.Command, n int) { c.Policy.Window = n }},
		{"policy's Buckets", map[int]int{api.Set: 255}, func(c *api.Command, n int) { c.Policy.Buckets = n }},
		{"name's Book", map[int]int{api.Reset: 255, api.Dump: 255}, func(c *api.Command, n int) { c.After.Book = n }},
		{"Most", map[int]int{api.Dump: 255}, func(c *api.Command, n int) { c.Most = n }},
	}
}

func lengthFields() []field {
	ask := map[int]int{api.Check: 255, api.Batch: 255, api.Peek: 255}
	return []field{
		{"ask's Key", ask, func(c *api.Command, n int) { c.Asks = []api.Ask{{Key: strings.Repeat("k", n)}} }},
		{"name's Key", map[int]int{api.Reset: 255, api.Dump: 255}, func(c *api.Command, n int) { c.After.Key = strings.Repeat("k", n) }},
	}
}

// edges are numbers about the bounds, and some whose lowest bytes are those of numbers that may be.
func edges() []int {
	all := []int{math.MinInt, math.MinInt + 1, math.MaxInt, math.MaxInt - 1}
	for _, n := range []int{0, 1 << 7, 1 << 8, 1 << 9, 1 << 16, 1 << 20, 1 << 31, 1 << 32, 1 << 33, 1 << 40, 1 << 62} {
		all = append(all, n-1, n, n+1, -n-1, -n, -n+1)
	}
	return all
}

// hasAsks tells whether a kind names Asks: of another one a list with an ask, even a zero one, is not zero.
func hasAsks(kind int) bool {
	return kind == api.Check || kind == api.Batch || kind == api.Peek
}

// P21.1, P21.2: each number and each text of each kind, at the edges of what may be.
func TestEachField(t *testing.T) {
	try := func(f field, n int) {
		for kind := 1; kind <= 9; kind++ {
			c := plain(kind)
			f.set(&c, n)
			may := n >= 0 && n <= f.most[kind] && (len(c.Asks) == 0 || hasAsks(kind))
			holds(t, c, may)
		}
	}
	for _, f := range numberFields() {
		for _, n := range edges() {
			try(f, n)
		}
	}
	for _, f := range lengthFields() {
		for _, n := range []int{0, 1, 2, 127, 128, 254, 255, 256, 257, 258, 511, 512, 513, 65536, 65537, 1 << 20} {
			try(f, n)
		}
	}
}

// P21.1: kinds that there are, and others.
func TestKinds(t *testing.T) {
	for kind := -300; kind <= 600; kind++ {
		for _, asks := range [][]api.Ask{nil, {}, {{}}} {
			c := api.Command{Kind: kind, Asks: asks}
			may := kind >= 1 && kind <= 9
			if kind == api.Check || kind == api.Peek {
				may = len(asks) == 1
			} else if len(asks) > 0 {
				may = kind == api.Batch
			}
			holds(t, c, may)
		}
	}
	for _, n := range edges() {
		holds(t, api.Command{Kind: n}, n == api.Batch || n >= 1 && n <= 9 && !hasAsks(n))
	}
}

// P21.1: All is of Batch alone.
func TestAllFlag(t *testing.T) {
	for kind := -1; kind <= 11; kind++ {
		c := plain(kind)
		c.All = true
		holds(t, c, kind == api.Batch)
	}
}

// P21.1, P21.2: how many asks there may be.
func TestHowManyAsks(t *testing.T) {
	counts := []int{31, 32, 33, 34, 64, 255, 256, 257, 258, 256 + 32, 512, 65536, 65537, 65536 + 32, 1 << 20}
	for n := range 30 {
		counts = append(counts, n)
	}
	for _, n := range counts {
		asks := make([]api.Ask, n)
		for i := range min(n, 5) {
			asks[i] = api.Ask{Book: i, Key: "key"[:i%4], Weight: i << 20}
		}
		for kind := 1; kind <= 9; kind++ {
			may := n == 0
			switch kind {
			case api.Check, api.Peek:
				may = n == 1
			case api.Batch:
				may = n <= 32
			}
			holds(t, api.Command{Kind: kind, Asks: asks}, may)
		}
	}
}

// P21.1: an ask that may not be, wherever it stands.
func TestOneBadAsk(t *testing.T) {
	bad := []api.Ask{{Book: -1}, {Book: 256}, {Weight: -1}, {Weight: 1 << 32}, {Key: strings.Repeat("k", 256)}}
	for n := 1; n <= 33; n++ {
		for at := range n {
			for _, a := range bad {
				asks := make([]api.Ask, n)
				asks[at] = a
				holds(t, api.Command{Kind: api.Batch, Asks: asks}, false)
			}
		}
	}
}

// P21.2, P21.3: 512 bytes are a command's, 513 are not; what may not be is told first.
func TestBig(t *testing.T) {
	for length := 505; length <= 520; length++ {
		asks := []api.Ask{{Key: strings.Repeat("a", 255)}, {Key: strings.Repeat("b", length-255-15)}}
		c := api.Command{Kind: api.Batch, Asks: asks}
		s := bytesOf(c)
		if len(s) != length {
			t.Fatalf("%d bytes, not %d", len(s), length)
		}
		holds(t, c, len(asks[1].Key) <= 255)
		reads(t, s)
	}
	asks := make([]api.Ask, 32)
	for i := range asks {
		asks[i] = api.Ask{Book: 255, Key: strings.Repeat("k", 255), Weight: most32}
	}
	c := api.Command{Kind: api.Batch, All: true, Asks: asks}
	holds(t, c, true)
	reads(t, bytesOf(c))
	asks[31].Weight++
	holds(t, c, false)
	holds(t, api.Command{Kind: api.Batch, Asks: make([]api.Ask, 86)}, false)
}

// P21.3: which error is told.
func TestErrors(t *testing.T) {
	for first := range 256 {
		s := string([]byte{byte(first)})
		for _, behind := range []string{"", "\x00", "\x01\x01", strings.Repeat("\x00", 511), strings.Repeat("\x00", 512), strings.Repeat("\x01", 70000)} {
			reads(t, s+behind)
		}
	}
	reads(t, "")
}

// P21.3, P21.4: all short texts of a few bytes.
func TestAllShort(t *testing.T) {
	const bytes = "\x00\x01\x02\x03\xff"
	for first := range 11 {
		for length := range 7 {
			total := 1
			for range length {
				total *= len(bytes)
			}
			s := make([]byte, length+1)
			s[0] = byte(first)
			for number := range total {
				for i, rest := 1, number; i <= length; i, rest = i+1, rest/len(bytes) {
					s[i] = bytes[rest%len(bytes)]
				}
				reads(t, string(s))
			}
		}
	}
}

// anyText tells a text of any bytes.
func anyText(r *rand.Rand) string {
	s := make([]byte, []int{0, 1, 3, 32, 33, 100, 254, 255}[r.Intn(8)])
	r.Read(s)
	return string(s)
}

func anyAsk(r *rand.Rand) api.Ask {
	return api.Ask{Book: r.Intn(256), Key: anyText(r), Weight: int(r.Uint32())}
}

// anyCommand tells a command that may be.
func anyCommand(r *rand.Rand) api.Command {
	c := api.Command{Kind: 1 + r.Intn(9)}
	switch c.Kind {
	case api.Check, api.Peek:
		c.Asks = []api.Ask{anyAsk(r)}
	case api.Batch:
		c.All = r.Intn(2) == 0
		for range r.Intn(1 + r.Intn(9)) {
			c.Asks = append(c.Asks, anyAsk(r))
		}
	case api.Set:
		c.Policy = api.Policy{Kind: r.Intn(256), Limit: int(r.Uint32()), Window: int(r.Uint32()), Buckets: r.Intn(256)}
		c.Book = r.Intn(256)
	case api.Get, api.Delete:
		c.Book = r.Intn(256)
	case api.Reset, api.Dump:
		c.After = api.Name{Book: r.Intn(256), Key: anyText(r)}
		if c.Kind == api.Dump {
			c.Most = r.Intn(256)
		}
	}
	return c
}

// P21.2, P21.3, P21.4: any commands, and their bytes cut short, with more behind them, and with one of them changed.
func TestAny(t *testing.T) {
	r := rand.New(rand.NewSource(21))
	for range 2000 {
		c := anyCommand(r)
		holds(t, c, true)
		s := bytesOf(c)
		reads(t, s)
		for n := range len(s) {
			if got, e := Decode(s[:n]); e != api.ErrForm || !equal(got, api.Command{}) {
				t.Fatalf("Decode of %d bytes of %q: %v, %d", n, s, got, e)
			}
		}
		for _, more := range []string{"\x00", "\x01", s} {
			if got, e := Decode(s + more); e != api.ErrForm || !equal(got, api.Command{}) {
				t.Fatalf("Decode(%q): %v, %d", s+more, got, e)
			}
		}
		changed := []byte(s)
		for range 50 {
			at := r.Intn(len(changed))
			was := changed[at]
			changed[at] = []byte{0, 1, 2, was + 1, was - 1, byte(r.Intn(256))}[r.Intn(6)]
			reads(t, string(changed))
			changed[at] = was
		}
	}
}

// P21.3: a Batch's flag and its count, of all values, with as many asks behind them as it tells, or fewer, or more.
func TestEachFlagAndCount(t *testing.T) {
	try := func(flag int, count int) {
		for _, asks := range []int{count, count & 31, 32, 33} {
			reads(t, "\x02"+big(flag, 1)+big(count, 1)+strings.Repeat("\x00", 6*asks))
		}
	}
	for n := range 256 {
		for _, other := range []int{0, 1, 2, 31, 32, 33, 255} {
			try(n, other)
			try(other, n)
		}
	}
}

// The document's example.
func TestExample(t *testing.T) {
	if c, e := Decode("\x06\x03"); !equal(c, api.Command{Kind: api.Get, Book: 3}) || e != api.OK {
		t.Errorf("%v, %d", c, e)
	}
	if s, e := Encode(api.Command{Kind: api.Get, Book: 3}); s != "\x06\x03" || e != api.OK {
		t.Errorf("%q, %d", s, e)
	}
}

// R5, R6: what is told shares nothing with what is told the next time.
func TestSharesNothing(t *testing.T) {
	s := "\x02\x01\x02\x01\x01a\x00\x00\x00\x01\x02\x01b\x00\x00\x00\x02"
	want := []api.Ask{{Book: 1, Key: "a", Weight: 1}, {Book: 2, Key: "b", Weight: 2}}
	first, _ := Decode(s)
	second, _ := Decode(s)
	first.Asks[0] = api.Ask{Book: 9}
	_ = append(first.Asks, api.Ask{})
	third, _ := Decode(s)
	if !slices.Equal(second.Asks, want) || !slices.Equal(third.Asks, want) {
		t.Errorf("%v, %v", second, third)
	}
}
