package cell

import (
	"math"
	"math/rand"
	"reflect"
	"slices"
	"testing"

	"sandglass/api"
	"sandglass/exact"
	"sandglass/fixed"
	"sandglass/gcra"
	"sandglass/ring"
)

const lastTick = 1 << 40

// layer is what a layer below tells of its kind.
type layer struct {
	may  func(p api.Policy, c api.Cell) bool
	ask  func(p api.Policy, c api.Cell, t int, w int) (api.Cell, api.Verdict)
	ends func(p api.Policy, c api.Cell) int
}

var layers = map[int]layer{
	1: {gcra.May, gcra.Ask, gcra.Ends},
	2: {fixed.May, fixed.Ask, fixed.Ends},
	3: {ring.May, ring.Ask, ring.Ends},
	4: {exact.May, exact.Ask, exact.Ends},
}

// small are policies of each kind.
var small = []api.Policy{
	{Kind: api.Bucket, Limit: 9, Window: 30},
	{Kind: api.Fixed, Limit: 9, Window: 30},
	{Kind: api.Ring, Limit: 9, Window: 30, Buckets: 3},
	{Kind: api.Exact, Limit: 9, Window: 30},
}

// great are the greatest ones of each kind.
var great = []api.Policy{
	{Kind: api.Bucket, Limit: 1 << 20, Window: 1 << 20},
	{Kind: api.Fixed, Limit: 1 << 20, Window: 1 << 20},
	{Kind: api.Ring, Limit: 1 << 20, Window: 1 << 20, Buckets: 16},
	{Kind: api.Exact, Limit: 16, Window: 1 << 20},
}

// wrong are policies that may not be.
var wrong = []api.Policy{
	{}, {Kind: 5, Limit: 9, Window: 30}, {Kind: -1, Limit: 9, Window: 30}, {Kind: 9, Limit: 1, Window: 1}, {Limit: 9, Window: 30},
	{Kind: math.MaxInt, Limit: 9, Window: 30}, {Kind: math.MinInt, Limit: 9, Window: 30, Buckets: 3},
	{Kind: api.Bucket, Limit: 0, Window: 30}, {Kind: api.Bucket, Limit: 9, Window: 30, Buckets: 1},
	{Kind: api.Fixed, Limit: 9}, {Kind: api.Fixed, Limit: 9, Window: 30, Buckets: math.MaxInt},
	{Kind: api.Ring, Limit: 9, Window: 30}, {Kind: api.Ring, Limit: 9, Window: 30, Buckets: 4}, {Kind: api.Ring, Limit: 9, Window: 34, Buckets: 17},
	{Kind: api.Ring, Limit: 9, Window: 30, Buckets: math.MaxInt}, {Kind: api.Ring, Limit: 9, Window: 30, Buckets: math.MinInt}, {Kind: api.Ring, Limit: 9, Window: 30, Buckets: -3},
	{Kind: api.Exact, Limit: 17, Window: 30}, {Kind: api.Exact, Limit: 9, Window: 30, Buckets: 17},
}

// cells tells cells of all kinds, and some that may be none of any.
func cells() []api.Cell {
	return []api.Cell{
		{}, {At: 41}, {At: lastTick}, {At: 41, Level: 5}, {At: 41, Level: 9}, {At: 41, Level: 10}, {At: 41, Level: 270}, {At: 41, Level: 271},
		{At: 41, Sums: []int{1, 2, 3}}, {At: 41, Sums: []int{0, 0, 0}}, {At: 5, Sums: []int{0, 1, 0}}, {At: 41, Sums: []int{4, 4, 4}}, {At: 41, Sums: []int{1}},
		{At: 41, Hits: []api.Hit{{Tick: 12, Weight: 4}, {Tick: 41, Weight: 5}}}, {At: 41, Hits: []api.Hit{{Tick: 11, Weight: 4}}}, {At: 41, Hits: []api.Hit{{}}},
		{At: 41, Level: 1, Sums: []int{1, 2, 3}}, {At: 41, Sums: []int{1, 2, 3}, Hits: []api.Hit{{Tick: 12, Weight: 4}}}, {At: 41, Level: -1},
		{At: -1}, {At: lastTick + 1}, {At: math.MaxInt, Level: math.MaxInt}, {At: math.MinInt}, {Sums: []int{}, Hits: []api.Hit{}},
		{At: 1 << 30, Sums: make([]int, 16)}, {At: 1 << 30, Sums: make([]int, 17)}, {At: 1 << 30, Sums: make([]int, 1000)}, {Hits: make([]api.Hit, 1000)},
		{At: 1 << 30, Sums: []int{math.MaxInt, math.MaxInt, 2}}, {At: 30, Hits: []api.Hit{{Tick: 10, Weight: math.MaxInt}, {Tick: 11, Weight: math.MaxInt}}},
	}
}

// P14.1: by a policy's Kind what its layer tells, also of cells, times and weights that may not be.
func TestKinds(t *testing.T) {
	for _, p := range append(append(slices.Clone(small), great...), wrong...) {
		below, there := layers[p.Kind]
		if !there {
			continue
		}
		for _, c := range cells() {
			if May(p, c) != below.may(p, c) || Ends(p, c) != below.ends(p, c) {
				t.Errorf("of %v, %v: %v, %d", p, c, May(p, c), Ends(p, c))
			}
			for _, at := range []int{math.MinInt, -1, 0, 41, 42, 60, 71, 1 << 30, lastTick, lastTick + 1, math.MaxInt} {
				for _, w := range []int{math.MinInt, -1, 0, 1, 4, 9, 10, 1 << 20, 1<<20 + 1, math.MaxInt} {
					d, v := Ask(p, c, at, w)
					want, told := below.ask(p, c, at, w)
					if v != told || !reflect.DeepEqual(d, want) {
						t.Errorf("Ask(%v, %v, %d, %d): %v, %v", p, c, at, w, d, v)
					}
				}
			}
		}
	}
}

// P14.1: each kind is its own: an ask that the four tell apart, by hand.
func TestKindsApart(t *testing.T) {
	for i, p := range small {
		c, _ := Ask(p, api.Cell{}, 35, 4)
		c, _ = Ask(p, c, 41, 5)
		d, v := Ask(p, c, 42, 9)
		if want := [4]int{23, 18, 28, 29}[i]; v != (api.Verdict{Remaining: v.Remaining, Retry: want, Reset: want}) || d.At != 42 {
			t.Errorf("%v: %v, %v", p, d, v)
		}
		if n, want := Ends(p, c), [4]int{65, 60, 70, 71}[i]; n != want || !May(p, c) {
			t.Errorf("%v: %d", p, n)
		}
	}
}

// P14.1, P14.2: policies that may not be, of whatever Kind.
func TestWrongPolicies(t *testing.T) {
	full := slices.Repeat([]uint64{math.MaxUint64}, 19)
	for _, p := range wrong {
		for _, c := range cells() {
			if May(p, c) || Ends(p, c) != 0 || Neutral(p, c, 0) || Neutral(p, c, math.MaxInt) {
				t.Errorf("of %v, %v", p, c)
			}
			for _, at := range []int{-1, 0, 9, 100, lastTick} {
				if d, v := Ask(p, c, at, 1); v != (api.Verdict{}) || !reflect.DeepEqual(d, c) {
					t.Errorf("Ask(%v, %v, %d, 1): %v, %v", p, c, at, d, v)
				}
			}
			if w, is := Pack(p, c); is || len(w) != 0 {
				t.Errorf("Pack(%v, %v): %v", p, c, w)
			}
		}
		for _, w := range [][]uint64{make([]uint64, 19), full, nil} {
			noCell(t, p, w)
		}
	}
}

// P14.1: Neutral from Ends on, of whatever time, and never of a cell that may not be.
func TestNeutral(t *testing.T) {
	for _, p := range append(slices.Clone(small), great...) {
		for _, c := range cells() {
			end := layers[p.Kind].ends(p, c)
			for _, at := range []int{math.MinInt, -1, 0, 1, c.At, end - 1, end, end + 1, 1 << 30, lastTick, lastTick + 1, lastTick + 1<<20, math.MaxInt} {
				if Neutral(p, c, at) != (layers[p.Kind].may(p, c) && at >= end) {
					t.Errorf("Neutral(%v, %v, %d): %v", p, c, at, Neutral(p, c, at))
				}
			}
		}
	}
	last := api.Cell{At: lastTick, Level: 1}
	if p := great[1]; Neutral(p, last, lastTick) || Neutral(p, last, lastTick+1<<20-1) || !Neutral(p, last, lastTick+1<<20) {
		t.Error("Neutral beyond the last tick")
	}
}

// tape is bits, the lowest of each field first.
type tape []bool

// put puts the lowest width bits of n behind the others.
func (b *tape) put(width int, n int) {
	for i := range width {
		*b = append(*b, n>>i&1 == 1)
	}
}

// words tells the bits as 19 words.
func (b tape) words() []uint64 {
	w := make([]uint64, 19)
	for i, one := range b {
		if one {
			w[i/64] |= 1 << (i % 64)
		}
	}
	return w
}

// packed is P14.2 by its words alone, of a cell that may be.
func packed(c api.Cell) []uint64 {
	var b tape
	b.put(41, c.At)
	b.put(41, c.Level)
	sums := append(slices.Clone(c.Sums), make([]int, 16-len(c.Sums))...)
	for _, sum := range sums {
		b.put(21, sum)
	}
	b.put(5, len(c.Hits))
	hits := append(slices.Clone(c.Hits), make([]api.Hit, 16-len(c.Hits))...)
	for _, hit := range hits {
		b.put(41, hit.Tick)
		b.put(5, hit.Weight)
	}
	return b.words()
}

// asUnpacked tells the cell that Unpack tells of what Pack tells of c: of a Ring all sums are there.
func asUnpacked(p api.Policy, c api.Cell) api.Cell {
	if p.Kind == api.Ring && len(c.Sums) == 0 {
		c.Sums = make([]int, p.Buckets)
	}
	return c
}

// same tells whether two cells have the same in them.
func same(c, d api.Cell) bool {
	return c.At == d.At && c.Level == d.Level && slices.Equal(c.Sums, d.Sums) && slices.Equal(c.Hits, d.Hits)
}

// noCell holds Unpack against nothing.
func noCell(t *testing.T, p api.Policy, w []uint64) {
	t.Helper()
	if c, is := Unpack(p, w); is || !reflect.DeepEqual(c, api.Cell{}) {
		t.Errorf("Unpack(%v, %x): %v, %v", p, w, c, is)
	}
}

// comesBack packs a cell that may be, holds the words against the chapter's, and unpacks them.
func comesBack(t *testing.T, p api.Policy, c api.Cell) {
	t.Helper()
	w, is := Pack(p, c)
	if !is || !slices.Equal(w, packed(c)) {
		t.Fatalf("Pack(%v, %v): %x, %v, not %x", p, c, w, is, packed(c))
	}
	if d, is := Unpack(p, w); !is || !same(d, asUnpacked(p, c)) {
		t.Fatalf("Unpack(%v, %x): %v, %v, not %v", p, w, d, is, c)
	}
}

// P14.2: the chapter's example, of each kind.
func TestNew(t *testing.T) {
	for _, p := range append(slices.Clone(small), great...) {
		w, is := Pack(p, api.Cell{})
		if !is || !slices.Equal(w, make([]uint64, 19)) {
			t.Errorf("Pack(%v, new): %x, %v", p, w, is)
		}
		c, is := Unpack(p, make([]uint64, 19))
		if !is || !same(c, asUnpacked(p, api.Cell{})) || len(c.Sums) != p.Buckets {
			t.Errorf("Unpack(%v, new): %v, %v", p, c, is)
		}
	}
}

// P14.2: cells that may be, and the greatest of each kind; nothing of those that may not.
func TestPack(t *testing.T) {
	for _, p := range append(slices.Clone(small), great...) {
		for _, c := range cells() {
			if layers[p.Kind].may(p, c) {
				comesBack(t, p, c)
			} else if w, is := Pack(p, c); is || len(w) != 0 {
				t.Errorf("Pack(%v, %v): %x, %v", p, c, w, is)
			}
		}
	}
	comesBack(t, great[0], api.Cell{At: lastTick, Level: 1 << 40})
	comesBack(t, great[1], api.Cell{At: lastTick, Level: 1 << 20})
	for i := range 16 {
		sums := make([]int, 16)
		sums[i] = 1 << 20
		comesBack(t, great[2], api.Cell{At: lastTick, Sums: sums})
	}
	comesBack(t, great[2], api.Cell{At: lastTick, Sums: slices.Repeat([]int{1 << 16}, 16)})
	comesBack(t, great[2], api.Cell{At: lastTick - 1})
	comesBack(t, great[3], api.Cell{At: lastTick, Hits: []api.Hit{{Tick: lastTick, Weight: 16}}})
	var hits []api.Hit
	for i := range 16 {
		hits = append(hits, api.Hit{Tick: lastTick - 15 + i, Weight: 1})
		comesBack(t, great[3], api.Cell{At: lastTick, Hits: slices.Clone(hits)})
	}
}

// P14.2: a word or a bit in each field, by hand.
func TestFields(t *testing.T) {
	w, _ := Pack(great[0], api.Cell{At: 1<<40 - 1, Level: 1<<39 + 5})
	if w[0] != 1<<40-1|5<<41 || w[1] != 1<<(39+41-64) {
		t.Errorf("At, Level: %x", w)
	}
	w, _ = Pack(great[2], api.Cell{At: lastTick, Sums: []int{3, 0, 0, 0, 0, 0, 0, 0, 0, 0, 0, 0, 0, 0, 0, 1 << 19}})
	if w[1] != 3<<(82-64) || w[(82+15*21+19)/64] != 1<<((82+15*21+19)%64) {
		t.Errorf("Sums: %x", w)
	}
	w, _ = Pack(great[3], api.Cell{At: 9, Hits: []api.Hit{{Tick: 1, Weight: 2}, {Tick: 9, Weight: 3}}})
	// The count is behind 41 + 41 + 16 * 21 = 418 bits, the hits behind 423.
	if w[6] != 2<<(418-384)|1<<(423-384) || w[7] != 2<<(464-448)|9<<(469-448)|3<<(510-448) {
		t.Errorf("Hits: %x", w)
	}
}

// P14.2: words that are no cell's: too few, too many, and all whose bits behind the fields are not 0.
func TestWrongWords(t *testing.T) {
	for _, p := range append(slices.Clone(small), great...) {
		c, _ := Ask(p, api.Cell{}, 41, 4)
		w, _ := Pack(p, c)
		noCell(t, p, nil)
		noCell(t, p, []uint64{})
		noCell(t, p, w[:18])
		noCell(t, p, w[1:])
		noCell(t, p, append(slices.Clone(w), 0))
		noCell(t, p, make([]uint64, 18))
		noCell(t, p, make([]uint64, 20))
		noCell(t, p, make([]uint64, 1000))
		for bit := 41 + 41 + 16*21 + 5 + 16*(41+5); bit < 19*64; bit++ {
			v := slices.Clone(w)
			v[bit/64] |= 1 << (bit % 64)
			noCell(t, p, v)
		}
		noCell(t, p, slices.Repeat([]uint64{math.MaxUint64}, 19))
	}
}

// read tells the number in a field of words, bit by bit.
func read(w []uint64, at, width int) int {
	n := 0
	for i := range width {
		n |= int(w[(at+i)/64]>>((at+i)%64)&1) << i
	}
	return n
}

// unpacked tells the only cell whose words could be w, of a policy that may be.
func unpacked(p api.Policy, w []uint64) (api.Cell, bool) {
	c := api.Cell{At: read(w, 0, 41), Level: read(w, 41, 41)}
	for i := range p.Buckets {
		c.Sums = append(c.Sums, read(w, 82+21*i, 21))
	}
	count := read(w, 418, 5)
	for i := range min(count, 16) {
		c.Hits = append(c.Hits, api.Hit{Tick: read(w, 423+46*i, 41), Weight: read(w, 423+46*i+41, 5)})
	}
	if count > 16 || !layers[p.Kind].may(p, c) || !slices.Equal(packed(c), w) {
		return api.Cell{}, false
	}
	return c, true
}

// P14.2: words with each bit the other way: the cell of which Pack tells them, or none.
func TestEachBit(t *testing.T) {
	are := 0
	for i, p := range append(slices.Clone(small), great...) {
		c, _ := Ask(p, api.Cell{}, 35, 4)
		c, _ = Ask(p, c, 41, 5)
		for _, c := range []api.Cell{{}, c, {At: 1 << 30}} {
			w, _ := Pack(p, c)
			for bit := range 19 * 64 {
				v := slices.Clone(w)
				v[bit/64] ^= 1 << (bit % 64)
				want, is := unpacked(p, v)
				d, got := Unpack(p, v)
				if got != is || !same(d, want) {
					t.Fatalf("kind %d, bit %d of %x: %v, %v, not %v, %v", i, bit, w, d, got, want, is)
				}
				if !is {
					noCell(t, p, v)
					continue
				}
				are++
			}
		}
	}
	if are < 200 {
		t.Errorf("but %d were cells", are)
	}
}

// P14.2: every number of hits with as many of them there: all above 16 are wrong, and so is one that is not theirs.
func TestCounts(t *testing.T) {
	p := great[3]
	for have := range 17 {
		c := api.Cell{At: 100}
		for i := range have {
			c.Hits = append(c.Hits, api.Hit{Tick: 50 + i, Weight: 1})
		}
		w := packed(c)
		for count := range 32 {
			v := slices.Clone(w)
			v[6] = v[6]&^(31<<(418-384)) | uint64(count)<<(418-384)
			d, is := Unpack(p, v)
			if is != (count == have) || is && !same(d, c) {
				t.Errorf("%d hits, count %d: %v, %v", have, count, d, is)
			}
		}
	}
}

// P14.2: what a cell of another kind, or of another policy, would have.
func TestOtherKinds(t *testing.T) {
	for i, p := range small {
		c, _ := Ask(p, api.Cell{}, 35, 4)
		w, _ := Pack(p, c)
		for k, q := range small {
			_, is := Unpack(q, w)
			want, may := unpacked(q, w)
			if is != may || is && !layers[q.Kind].may(q, want) {
				t.Errorf("%d as %d: %v", i, k, is)
			}
		}
	}
	four := api.Policy{Kind: api.Ring, Limit: 9, Window: 40, Buckets: 4}
	w, _ := Pack(four, api.Cell{At: 39, Sums: []int{1, 2, 3, 1}})
	noCell(t, small[2], w)
	w, _ = Pack(four, api.Cell{At: 39, Sums: []int{1, 2, 3, 0}})
	if c, is := Unpack(small[2], w); !is || !slices.Equal(c.Sums, []int{1, 2, 3}) {
		t.Errorf("%v, %v", c, is)
	}
	w, _ = Pack(four, api.Cell{At: 39, Sums: []int{4, 4, 1, 0}})
	noCell(t, api.Policy{Kind: api.Ring, Limit: 8, Window: 30, Buckets: 3}, w)
}

// anyPolicy tells a policy of a kind.
func anyPolicy(r *rand.Rand, kind int) api.Policy {
	p := api.Policy{Kind: kind, Limit: 1 + r.Intn(1<<r.Intn(21)), Window: 1 + r.Intn(1<<r.Intn(21))}
	switch kind {
	case api.Ring:
		p.Buckets = 1 + r.Intn(16)
		p.Window = p.Buckets * (1 + r.Intn(1<<r.Intn(17)))
	case api.Exact:
		p.Limit = 1 + r.Intn(16)
	}
	return p
}

// P14.1 to P14.3: asks by and by, of cells that are packed and unpacked in between, and from Ends on as of a new one.
func TestAsksByAndBy(t *testing.T) {
	r := rand.New(rand.NewSource(1))
	for i := range 1200 {
		p := anyPolicy(r, 1+i%4)
		c, kept := api.Cell{}, api.Cell{}
		now := r.Intn(1 << r.Intn(40))
		for range 30 {
			now = max(now+r.Intn(p.Window/4+3)-1, 0)
			w := 1 + r.Intn(p.Limit/3+1)
			d, v := Ask(p, c, now, w)
			again, told := Ask(p, kept, now, w)
			if v != told || !same(d, again) {
				t.Fatalf("%v at %d, %d: %v, %v, not %v, %v", p, now, w, again, told, d, v)
			}
			comesBack(t, p, d)
			words, _ := Pack(p, d)
			c = d
			kept, _ = Unpack(p, words)
			asNew(t, p, c, w)
		}
	}
}

// asNew asks a cell from its Ends on, where it is neutral, as well as a new one.
func asNew(t *testing.T, p api.Policy, c api.Cell, w int) {
	t.Helper()
	end := Ends(p, c)
	for _, now := range []int{end, end + 1, end + p.Window, lastTick} {
		if !Neutral(p, c, now) {
			t.Fatalf("Neutral(%v, %v, %d)", p, c, now)
		}
		d, v := Ask(p, c, now, w)
		if e, told := Ask(p, api.Cell{}, now, w); v != told || !same(d, e) {
			t.Fatalf("%v, %v at %d: %v, %v, not %v, %v", p, c, now, d, v, e, told)
		}
	}
	if end > c.At && Neutral(p, c, end-1) {
		t.Fatalf("Neutral(%v, %v, %d)", p, c, end-1)
	}
}

// R5: what is handed in is not changed, and what is answered shares nothing that is changed later.
func TestHandedInStays(t *testing.T) {
	for _, p := range small {
		c, _ := Ask(p, api.Cell{}, 35, 4)
		sums, hits := slices.Clone(c.Sums), slices.Clone(c.Hits)
		w, _ := Pack(p, c)
		words := slices.Clone(w)
		d, _ := Unpack(p, w)
		Ask(p, d, 36, 2)
		Neutral(p, d, 36)
		for i := range d.Sums {
			d.Sums[i] += 100
		}
		for i := range d.Hits {
			d.Hits[i].Tick += 100
		}
		if !slices.Equal(w, words) || !slices.Equal(c.Sums, sums) || !slices.Equal(c.Hits, hits) {
			t.Errorf("%v: %x, %v", p, w, c)
		}
		w[0]++
		if again, _ := Pack(p, c); !slices.Equal(again, words) {
			t.Errorf("%v: %x", p, again)
		}
	}
}
