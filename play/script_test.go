package play

import (
	"math/rand"
	"slices"
	"strings"
	"testing"

	"sandglass/api"
)

// kinds are policies of each kind that let in 2, and in which what was let in at 20 counts till 29.
var kinds = []api.Policy{
	{Kind: api.Bucket, Limit: 2, Window: 10},
	{Kind: api.Fixed, Limit: 2, Window: 10},
	{Kind: api.Ring, Limit: 2, Window: 10, Buckets: 2},
	{Kind: api.Exact, Limit: 2, Window: 10},
}

func ask(book int, key string, weight int) api.Ask {
	return api.Ask{Book: book, Key: key, Weight: weight}
}

func set(book int, p api.Policy) api.Command {
	return api.Command{Kind: api.Set, Book: book, Policy: p}
}

func remove(book int) api.Command {
	return api.Command{Kind: api.Delete, Book: book}
}

func check(book int, key string, weight int) api.Command {
	return api.Command{Kind: api.Check, Asks: []api.Ask{ask(book, key, weight)}}
}

func peek(book int, key string, weight int) api.Command {
	return api.Command{Kind: api.Peek, Asks: []api.Ask{ask(book, key, weight)}}
}

func batch(all bool, l ...api.Ask) api.Command {
	return api.Command{Kind: api.Batch, All: all, Asks: l}
}

func reset(book int, key string) api.Command {
	return api.Command{Kind: api.Reset, After: api.Name{Book: book, Key: key}}
}

func dump(book int, key string, most int) api.Command {
	return api.Command{Kind: api.Dump, After: api.Name{Book: book, Key: key}, Most: most}
}

// junk is bytes that are one piece, but no command, and the error of it.
func junk(tick int, bytes string, code api.Errno) sent {
	return sent{tick: tick, bytes: bytes, code: code}
}

// both is what Play tells, and Model too.
func both(t *testing.T, c api.Config, l []api.Step) string {
	t.Helper()
	kept := slices.Clone(l)
	got, code := Play(c, l)
	want, other := Model(c, l)
	if code != api.OK || other != api.OK {
		t.Fatalf("Play: %d, Model: %d", code, other)
	}
	if got != want {
		t.Fatalf("%v of %v:\nPlay  %q\nModel %q", c, l, got, want)
	}
	if !slices.Equal(l, kept) {
		t.Fatalf("%v was changed to %v", kept, l)
	}
	return got
}

// replies is the answers to a script.
func replies(t *testing.T, c api.Config, l []api.Step) []api.Answer {
	t.Helper()
	a, code := Answers(both(t, c, l))
	if code != api.OK {
		t.Fatalf("Answers: %d", code)
	}
	return a
}

// short is of each answer its Code's digit, if it is an error's; else of each ask y for let in, n for not let in, or the error's digit; and of others a dot.
func short(l []api.Answer) string {
	s := ""
	for _, a := range l {
		s += " "
		switch {
		case a.Code != api.OK:
			s += string([]byte{'0' + byte(a.Code)})
		case len(a.Told) == 0:
			s += "."
		}
		for _, x := range a.Told {
			switch {
			case x.Code != api.OK:
				s += string([]byte{'0' + byte(x.Code)})
			case x.Verdict.Allowed:
				s += "y"
			default:
				s += "n"
			}
		}
	}
	return strings.TrimPrefix(s, " ")
}

// tells holds what a script is told, as short tells it.
func tells(t *testing.T, cells int, want string, l ...sent) {
	t.Helper()
	if got := short(replies(t, api.Config{Cells: cells, Seed: 1}, steps(l))); got != want {
		t.Errorf("%d cells: %s, not %s, of %v", cells, got, want, l)
	}
}

// world is of what a random script is: how many keys and books, how great things are, and how often time goes on.
type world struct {
	keys, books   int
	limit, window int
	leap, errors  int
}

var small = world{keys: 4, books: 3, limit: 6, window: 20, leap: 6, errors: 12}

func (w world) key(r *rand.Rand) string {
	n := r.Intn(w.keys)
	return strings.Repeat(string([]byte{byte(n), 255}), n%16) + string([]byte{byte(255 - n)})
}

func (w world) policy(r *rand.Rand) api.Policy {
	p := api.Policy{Kind: 1 + r.Intn(4), Limit: 1 + r.Intn(w.limit), Window: 1 + r.Intn(w.window)}
	if p.Kind == api.Exact {
		p.Limit = min(p.Limit, 16)
	}
	if p.Kind == api.Ring {
		p.Buckets = 1 + r.Intn(16)
		p.Window = p.Buckets * (1 + p.Window/(p.Buckets+1))
	}
	return p
}

func (w world) ask(r *rand.Rand) api.Ask {
	a := ask(r.Intn(w.books), w.key(r), 1+r.Intn(1+w.limit/2))
	if r.Intn(w.errors) > 0 {
		return a
	}
	switch r.Intn(4) {
	case 0:
		a.Book = r.Intn(256)
	case 1:
		a.Key = strings.Repeat("k", 33*r.Intn(2))
	case 2:
		a.Weight = []int{0, 1 << 20, 1<<20 + 1, 1<<32 - 1}[r.Intn(4)]
	case 3:
		a.Weight = w.limit + r.Intn(2)
	}
	return a
}

func (w world) command(r *rand.Rand) api.Command {
	book := r.Intn(w.books)
	if r.Intn(2*w.errors) == 0 {
		book = r.Intn(10)
	}
	switch r.Intn(24) {
	case 0:
		return set(book, w.policy(r))
	case 1:
		return []api.Command{remove(book), set(book, api.Policy{Kind: r.Intn(6), Limit: r.Intn(3), Window: r.Intn(3), Buckets: r.Intn(2)})}[r.Intn(2)]
	case 2:
		return reset(book, w.key(r))
	case 3:
		return api.Command{Kind: api.Get, Book: book}
	case 4:
		return api.Command{Kind: api.Stats}
	case 5:
		return dump(book, []string{"", w.key(r)}[r.Intn(2)], []int{r.Intn(4), r.Intn(256)}[r.Intn(2)])
	case 6, 7, 8:
		return api.Command{Kind: api.Peek, Asks: []api.Ask{w.ask(r)}}
	case 9, 10, 11, 12, 13:
		c := batch(r.Intn(2) == 0)
		for range []int{1 + r.Intn(4), r.Intn(10)}[r.Intn(2)] {
			c.Asks = append(c.Asks, w.ask(r))
		}
		return c
	}
	return api.Command{Kind: api.Check, Asks: []api.Ask{w.ask(r)}}
}

// piece is a command, or now and then none.
func (w world) piece(r *rand.Rand, tick int) sent {
	if r.Intn(2*w.errors) > 0 {
		return at(tick, w.command(r))
	}
	whole := commandBytes(w.command(r))
	return []sent{
		junk(tick, "\x00\x00", api.ErrBig),
		junk(tick, "\x02\x01"+strings.Repeat("\x00\x01\x08", 171), api.ErrBig),
		junk(tick, "\x00\x01\x0a", api.ErrKind),
		junk(tick, putFrame("\x00"+whole), api.ErrKind),
		junk(tick, putFrame(whole[2:]+"\x00"), api.ErrForm),
		junk(tick, putFrame(strings.Repeat("\x06", 512)), api.ErrForm),
	}[r.Intn(6)]
}

// script is a script of so many pieces.
func (w world) script(r *rand.Rand, length int) []sent {
	var l []sent
	now := 0
	for book := range w.books {
		l = append(l, at(0, set(book, w.policy(r))))
	}
	for range length {
		switch r.Intn(20) {
		case 0:
			now += r.Intn(3 * w.window)
		case 1, 2, 3, 4, 5, 6:
			now += r.Intn(1 + w.leap)
		}
		tick := now
		if r.Intn(w.errors) == 0 {
			tick = []int{now - r.Intn(10), -now, 1<<40 + 1 + r.Intn(5), 1 << 62, -1 << 62}[r.Intn(5)]
		}
		l = append(l, w.piece(r, tick))
	}
	return l
}
