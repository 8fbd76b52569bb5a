package frame

import (
	"math/rand"
	"slices"
	"strings"
	"testing"

	"sandglass/api"
)

// told tells what follows of all bytes that were fed, at once: the pieces, and how many bytes are left.
func told(s string) ([]Piece, int) {
	var l []Piece
	for len(s) >= 2 {
		n := int(s[0])*256 + int(s[1])
		if n == 0 || n > 512 {
			l = append(l, Piece{Code: api.ErrBig})
			if len(s)-2 < n {
				return l, 0
			}
		} else if len(s)-2 < n {
			return l, len(s)
		} else {
			l = append(l, Piece{Text: s[2 : 2+n]})
		}
		s = s[2+n:]
	}
	return l, len(s)
}

// fed is a Reader, all that it was fed, and all that it told.
type fed struct {
	t    *testing.T
	r    *Reader
	all  string
	told []Piece
}

func newFed(t *testing.T) *fed { return &fed{t: t, r: New()} }

// feed feeds a chunk, and holds what is told against all that was fed.
func (f *fed) feed(chunk string) {
	f.t.Helper()
	f.all += chunk
	f.told = append(f.told, f.r.Feed(chunk)...)
	want, left := told(f.all)
	if !slices.Equal(f.told, want) {
		f.t.Fatalf("of %d bytes, the last ones %q: %v, not %v", len(f.all), chunk, f.told, want)
	}
	for range 2 {
		if got := f.r.Left(); got != left {
			f.t.Fatalf("Left of %d bytes: %d, not %d", len(f.all), got, left)
		}
	}
}

func head(n int) string { return string([]byte{byte(n >> 8), byte(n)}) }

// P20.1: texts of all lengths that may be, and some that may not.
func TestEncode(t *testing.T) {
	for n := range 1100 {
		s := strings.Repeat("\xa7", n)
		got, code := Encode(s)
		want, wantCode := head(n)+s, api.OK
		if n < 1 || n > 512 {
			want, wantCode = "", api.ErrArg
		}
		if got != want || code != wantCode {
			t.Errorf("Encode of %d bytes: %q, %d", n, got, code)
		}
	}
	for _, n := range []int{65535, 65536, 65537, 65536 + 512, 1 << 20} {
		if got, code := Encode(strings.Repeat("x", n)); got != "" || code != api.ErrArg {
			t.Errorf("Encode of %d bytes: %d bytes, %d", n, len(got), code)
		}
	}
	for b := range 256 {
		s := string([]byte{byte(b)})
		if got, code := Encode(s); got != "\x00\x01"+s || code != api.OK {
			t.Errorf("Encode(%q): %q, %d", s, got, code)
		}
	}
}

// P20.2: the document's examples.
func TestExamples(t *testing.T) {
	l := New().Feed(string([]byte{0, 1, 97, 0, 0, 0, 1, 98}))
	if !slices.Equal(l, []Piece{{Text: "a"}, {Code: api.ErrBig}, {Text: "b"}}) {
		t.Errorf("pieces %v", l)
	}
	r := New()
	if l := r.Feed(head(513)); !slices.Equal(l, []Piece{{Code: api.ErrBig}}) {
		t.Errorf("pieces %v", l)
	}
	if l := r.Feed(strings.Repeat("\x00\x01", 256)); len(l) != 0 || r.Left() != 0 {
		t.Errorf("pieces %v, %d left", l, r.Left())
	}
	if l := r.Feed("\x00\x00\x01a"); !slices.Equal(l, []Piece{{Text: "a"}}) {
		t.Errorf("pieces %v", l)
	}
}

// P20.2: an error is told as soon as the two bytes of a length are there, and of a good one nothing; each length of two bytes.
func TestEachLength(t *testing.T) {
	for n := range 1 << 16 {
		f := newFed(t)
		f.feed(head(n)[:1])
		f.feed(head(n)[1:])
		good := n >= 1 && n <= 512
		if good && (len(f.told) != 0 || f.r.Left() != 2) {
			t.Fatalf("length %d: %v, %d left", n, f.told, f.r.Left())
		}
		if !good && (!slices.Equal(f.told, []Piece{{Code: api.ErrBig}}) || f.r.Left() != 0) {
			t.Fatalf("length %d: %v, %d left", n, f.told, f.r.Left())
		}
	}
}

// P20.2, P20.3: as many bytes as a length tells are passed over, or are a text, and what is behind them comes, in one chunk or in two.
func TestPassesOver(t *testing.T) {
	lengths := []int{0, 1, 2, 3, 255, 256, 257, 510, 511, 512, 513, 514, 515, 767, 768, 1024, 4096, 32767, 32768, 65534, 65535}
	for _, n := range lengths {
		s := head(n) + strings.Repeat("\x01", n) + "\x00\x02ok"
		whole := newFed(t)
		whole.feed(s)
		if last := whole.told[len(whole.told)-1]; len(whole.told) != 2 || last != (Piece{Text: "ok"}) {
			t.Errorf("length %d: last piece %v", n, last)
		}
		for _, cut := range []int{0, 1, 2, 3, n, n + 1, n + 2, n + 3, n + 4, n + 5, n + 6} {
			if cut > len(s) {
				continue
			}
			f := newFed(t)
			f.feed(s[:cut])
			f.feed("")
			f.feed(s[cut:])
		}
	}
}

// P20.3: all short texts, in all ways of cutting them.
func TestAllCuts(t *testing.T) {
	const bytes = "\x00\x01\x02"
	for length := range 7 {
		total := 1
		for range length {
			total *= len(bytes)
		}
		for number := range total {
			s := make([]byte, length)
			for i, rest := 0, number; i < length; i, rest = i+1, rest/len(bytes) {
				s[i] = bytes[rest%len(bytes)]
			}
			for cuts := range 1 << max(length-1, 0) {
				f := newFed(t)
				from := 0
				for i := 1; i < length; i++ {
					if cuts>>(i-1)&1 == 1 {
						f.feed(string(s[from:i]))
						from = i
					}
				}
				f.feed(string(s[from:]))
			}
		}
	}
}

// P20.2, P20.3: what is encoded comes as it was, whatever is between, and in whatever chunks.
func TestAny(t *testing.T) {
	for seed := range int64(200) {
		r := rand.New(rand.NewSource(seed))
		var s strings.Builder
		var want []Piece
		for range 1 + r.Intn(12) {
			n := []int{1, 2, r.Intn(5), r.Intn(512), 512, 513, r.Intn(2000), 65535}[r.Intn(8)]
			text := make([]byte, n)
			r.Read(text)
			frame, code := Encode(string(text))
			if code == api.OK {
				want = append(want, Piece{Text: string(text)})
			} else {
				frame = head(n) + string(text)
				want = append(want, Piece{Code: api.ErrBig})
			}
			s.WriteString(frame)
		}
		most := []int{1, 3, 40, 600, 100000}[r.Intn(5)]
		f := newFed(t)
		var got []Piece
		reader := New()
		for rest := s.String(); rest != ""; {
			n := min(r.Intn(most+1), len(rest))
			got = append(got, reader.Feed(rest[:n])...)
			if most >= 600 {
				f.feed(rest[:n])
			}
			rest = rest[n:]
		}
		if !slices.Equal(got, want) || reader.Left() != 0 {
			t.Fatalf("seed %d: %d pieces, not %d; %d left", seed, len(got), len(want), reader.Left())
		}
	}
}

// R5, R6: pieces stay as they were told, and Readers are nothing to each other.
func TestSharesNothing(t *testing.T) {
	a, b := New(), New()
	a.Feed("\x00\x03ab")
	if l := b.Feed("\x00\x01x"); !slices.Equal(l, []Piece{{Text: "x"}}) || b.Left() != 0 || a.Left() != 4 {
		t.Errorf("pieces %v", l)
	}
	l := a.Feed("c\x00\x01d")
	kept := slices.Clone(l)
	a.Feed("\x00\x03xyz\x00\x01e")
	if !slices.Equal(l, kept) || !slices.Equal(l, []Piece{{Text: "abc"}, {Text: "d"}}) {
		t.Errorf("pieces %v, once %v", l, kept)
	}
	l[0] = Piece{Text: "changed"}
	_ = append(l, Piece{Text: "more"})
	if m := a.Feed("\x00\x01f"); !slices.Equal(m, []Piece{{Text: "f"}}) {
		t.Errorf("pieces %v", m)
	}
}

// P20.2: of a nil Reader, and of one that New did not make.
func TestNone(t *testing.T) {
	for _, r := range []*Reader{nil, {}} {
		for _, chunk := range []string{"", "\x00", "\x00\x01a", "\x00\x00"} {
			if l := r.Feed(chunk); len(l) != 0 || r.Left() != 0 {
				t.Errorf("Feed(%q): %v, %d left", chunk, l, r.Left())
			}
		}
	}
}
