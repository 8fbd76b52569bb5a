package play

import (
	"math"
	"math/rand"
	"reflect"
	"slices"
	"strings"
	"testing"

	"sandglass/api"
	"sandglass/session"
)

// P24.1, P24.2: all numbers of cells; R3: with an error there is no text.
func TestCells(t *testing.T) {
	l := steps([]sent{at(0, api.Command{Kind: api.Stats})})
	for cells := 1; cells <= 64; cells++ {
		if s := both(t, api.Config{Cells: cells, Seed: math.MaxUint64}, l); s != answerBytes(api.Answer{Kind: api.Stats}) {
			t.Errorf("%d cells: %q", cells, s)
		}
	}
	for _, cells := range []int{math.MinInt, -1, 0, 65, 128, 1 << 32, math.MaxInt} {
		for _, l := range [][]api.Step{nil, l} {
			if s, code := Play(api.Config{Cells: cells}, l); s != "" || code != api.ErrArg {
				t.Errorf("Play of %d cells: %q, %d", cells, s, code)
			}
			if s, code := Model(api.Config{Cells: cells}, l); s != "" || code != api.ErrArg {
				t.Errorf("Model of %d cells: %q, %d", cells, s, code)
			}
		}
	}
}

// P24.1, P24.2: the document's example, and steps of which nothing comes.
func TestNothing(t *testing.T) {
	for _, l := range [][]api.Step{nil, {}, {{}}, {{Tick: 5}, {Budget: 7}}, {{Chunk: "\x00"}, {Chunk: "\x01"}}, {{Chunk: "\x00\x02\x06"}}} {
		if s := both(t, api.Config{Cells: 1}, l); s != "" {
			t.Errorf("%v: %q", l, s)
		}
	}
}

// P24.1: what Play tells is what a session's steps tell.
func TestPlayIsSession(t *testing.T) {
	for seed := range int64(30) {
		r := rand.New(rand.NewSource(seed))
		l := steps(small.script(r, 50))
		c := api.Config{Cells: 1 + r.Intn(4), Seed: r.Uint64()}
		s, _ := session.New(c)
		want := ""
		for _, x := range l {
			want += s.Step(x)
		}
		if got, code := Play(c, l); got != want || code != api.OK {
			t.Fatalf("seed %d: %q, %d, not %q", seed, got, code, want)
		}
	}
}

// P24.1, P24.2, P24.5: what both tell is what follows from the document's words by brute force.
func TestBothAreOracle(t *testing.T) {
	for seed := range int64(600) {
		r := rand.New(rand.NewSource(seed))
		w := small
		w.keys = 1 + r.Intn(20)
		l := w.script(r, 1+r.Intn(120))
		cells := 1 + r.Intn(8)
		got := both(t, api.Config{Cells: cells, Seed: r.Uint64()}, steps(l))
		if want := bytesOf(answers(cells, l)); got != want {
			t.Fatalf("seed %d, %d cells: %v: %q, not %q", seed, cells, l, got, want)
		}
	}
}

// P24.5: Play is Model, of numbers of all sizes, many keys, and times up to the last one.
func TestBothAtAllSizes(t *testing.T) {
	for seed := range int64(300) {
		r := rand.New(rand.NewSource(seed))
		w := world{keys: 1 + r.Intn(100), books: 1 + r.Intn(8), limit: 1 << r.Intn(21), window: 1 << r.Intn(21), errors: 20}
		w.leap = 1 + r.Intn(1+w.window)
		l := w.script(r, 1+r.Intn(300))
		if r.Intn(3) == 0 {
			late := 1<<40 - r.Intn(2000)
			for i := range l {
				l[i].tick += late
			}
		}
		x := steps(l)
		for i := range x {
			x[i].Budget = []int{0, -1, 1, 2, 1000, math.MaxInt}[r.Intn(6)]
		}
		both(t, api.Config{Cells: []int{1, 2, 3, 5, 16, 63, 64}[r.Intn(7)], Seed: r.Uint64()}, x)
	}
}

// P24.5: what was let in of many names, ahead of all that may be asked of it.
func TestManyNames(t *testing.T) {
	for _, p := range kinds {
		l := []sent{at(0, set(7, p)), at(0, set(0, p))}
		for i := range 65 {
			l = append(l, at(i/32, check(7*(i%2), strings.Repeat(string([]byte{byte(i)}), 1+i%32), 1)))
		}
		for book := range 8 {
			l = append(l, at(2, dump(book, "", 255)), at(2, dump(book, "\x20", 7)))
		}
		l = append(l, at(2, api.Command{Kind: api.Stats}), at(30, api.Command{Kind: api.Stats}), at(30, dump(0, "", 255)))
		for _, cells := range []int{1, 63, 64} {
			got := both(t, api.Config{Cells: cells, Seed: 3}, steps(l))
			if want := bytesOf(answers(cells, l)); got != want {
				t.Errorf("%v, %d cells: %q, not %q", p, cells, got, want)
			}
		}
	}
}

// P24.2: a Set that is wrong, or a Delete of nothing, forgets nothing of its book; those that are done forget that of their book alone.
func TestForgets(t *testing.T) {
	for _, p := range kinds {
		tells(t, 4, ". . y y 1 5 n n . y n . n 5 . n y", at(0, set(0, p)), at(0, set(1, p)), at(5, check(0, "a", 2)), at(5, check(1, "a", 2)),
			at(5, set(0, api.Policy{Kind: p.Kind})), at(5, remove(2)), at(5, check(0, "a", 1)), at(5, check(1, "a", 1)),
			at(5, set(0, p)), at(5, check(0, "a", 2)), at(5, check(1, "a", 1)),
			at(5, remove(0)), at(5, check(1, "a", 1)), at(5, reset(0, "a")), at(5, set(0, p)), at(5, check(1, "a", 1)), at(5, check(0, "a", 2)))
		tells(t, 4, ". y y . y n . n y", at(0, set(0, p)), at(5, check(0, "a", 2)), at(5, check(0, "b", 2)), at(5, reset(0, "a")), at(5, check(0, "a", 1)), at(5, check(0, "b", 1)),
			at(5, reset(0, "c")), at(5, check(0, "b", 1)), at(5, check(0, "a", 1)))
	}
}

// P24.3: answers of all kinds come as they were told; example 1's empty text has none.
func TestAnswers(t *testing.T) {
	if l, code := Answers(""); len(l) != 0 || code != api.OK {
		t.Errorf("%v, %d", l, code)
	}
	for seed := range int64(100) {
		r := rand.New(rand.NewSource(seed))
		want := answers(3, small.script(r, r.Intn(60)))
		got, code := Answers(bytesOf(want))
		if code != api.OK || len(got) != len(want) {
			t.Fatalf("seed %d: %d answers, %d, not %d", seed, len(got), code, len(want))
		}
		for i, a := range got {
			if answerBytes(a) != answerBytes(want[i]) || !slices.Equal(a.Told, want[i].Told) || !slices.Equal(a.Names, want[i].Names) {
				t.Fatalf("seed %d: %v, not %v", seed, a, want[i])
			}
		}
	}
}

// P24.3: what isn't whole frames, all of them good, of answers.
func TestNoAnswers(t *testing.T) {
	zero := answerBytes(api.Answer{})
	good := zero + answerBytes(api.Answer{Kind: 1, Told: []api.Told{{Code: 1}}, Names: []api.Name{{Book: 1, Key: "a"}}})
	for n := range len(good) {
		want := api.ErrForm
		if n == 0 || n == len(zero) {
			want = api.OK
		}
		l, code := Answers(good[:n])
		if code != want || len(l) != n/len(zero)*int(1-want/api.ErrForm) {
			t.Errorf("%d bytes: %v, %d", n, l, code)
		}
	}
	for _, bad := range []string{
		"\x00", "\x00\x00", "\x00\x1a", "\xff\xff", "\x02\x01", "\x02\x01" + strings.Repeat("\x00", 513), "\x02\x00" + strings.Repeat("\x00", 512),
		putFrame("\x00"), putFrame(strings.Repeat("\x00", 25)), putFrame(strings.Repeat("\x00", 27)), commandBytes(set(1, kinds[0])),
		putFrame(strings.Repeat("\x00", 24) + "\x01\x00"), putFrame(strings.Repeat("\x00", 25) + "\x01"), zero[1:], zero[:27],
	} {
		for _, s := range []string{bad, bad + good, good + bad, good + bad + good} {
			if l, code := Answers(s); len(l) != 0 || code != api.ErrForm {
				t.Errorf("%q: %v, %d", s, l, code)
			}
		}
	}
}

// let is one that was let in; forgot one that was forgotten.
func let(book int, version int, key string, tick int, weight int) api.Past {
	return api.Past{Book: book, Version: version, Key: key, Hit: api.Hit{Tick: tick, Weight: weight}}
}

func forgot(book int, version int, key string) api.Past {
	return api.Past{Book: book, Version: version, Key: key, Reset: true}
}

// yes, no and wrong are things that may be told.
var (
	yes   = api.Told{Verdict: api.Verdict{Allowed: true}}
	no    = api.Told{}
	wrong = api.Told{Code: api.ErrNone, Verdict: api.Verdict{Allowed: true}}
)

func lets(t *testing.T, l []api.Step, a []api.Answer, want ...api.Past) {
	t.Helper()
	steps, told := slices.Clone(l), slices.Clone(a)
	if got := Let(l, a); !slices.Equal(got, want) {
		t.Errorf("Let(%v, %v): %v, not %v", l, a, got, want)
	}
	if !slices.Equal(l, steps) || !reflect.DeepEqual(a, told) {
		t.Errorf("Let changed %v to %v, or %v to %v", steps, l, told, a)
	}
}

// one is a step of one command, and an answer to it, of its kind.
func one(c api.Command, a api.Answer) ([]api.Step, []api.Answer) {
	a.Kind = c.Kind
	return steps([]sent{at(5, c)}), []api.Answer{a}
}

// P24.4: what follows of one command and of its answer.
func TestLetOne(t *testing.T) {
	a, b := ask(1, "a", 2), ask(200, strings.Repeat("b", 40), 1<<32-1)
	pastA, pastB := let(1, 0, "a", 5, 2), let(200, 0, b.Key, 5, 1<<32-1)
	for _, c := range []struct {
		c    api.Command
		a    api.Answer
		want []api.Past
	}{
		{check(1, "a", 2), api.Answer{Told: []api.Told{yes}}, []api.Past{pastA}},
		{check(1, "a", 2), api.Answer{Told: []api.Told{no}}, nil},
		{check(1, "a", 2), api.Answer{Told: []api.Told{wrong}}, nil},
		{check(1, "a", 2), api.Answer{}, nil},
		{check(1, "a", 2), api.Answer{Told: []api.Told{yes, yes}, Count: 2}, []api.Past{pastA}},
		{check(1, "a", 2), api.Answer{Told: []api.Told{yes}, Code: api.ErrArg}, []api.Past{pastA}},
		{api.Command{Kind: api.Check, Asks: []api.Ask{b}}, api.Answer{Told: []api.Told{yes}}, []api.Past{pastB}},
		{peek(1, "a", 2), api.Answer{Told: []api.Told{yes}, Count: 1}, nil},
		{batch(false, a, b), api.Answer{Told: []api.Told{yes, yes}, Count: 2}, []api.Past{pastA, pastB}},
		{batch(false, a, b), api.Answer{Told: []api.Told{yes, yes}}, []api.Past{pastA, pastB}},
		{batch(false, a, b), api.Answer{Told: []api.Told{no, yes}, Count: 1}, []api.Past{pastB}},
		{batch(false, a, b), api.Answer{Told: []api.Told{yes, wrong}, Count: 1}, []api.Past{pastA}},
		{batch(false, a, b), api.Answer{Told: []api.Told{yes}, Count: 1}, []api.Past{pastA}},
		{batch(false, a), api.Answer{Told: []api.Told{yes, yes, yes}, Count: 3}, []api.Past{pastA}},
		{batch(false, slices.Repeat([]api.Ask{a}, 32)...), api.Answer{Told: slices.Repeat([]api.Told{yes}, 31)}, slices.Repeat([]api.Past{pastA}, 31)},
		{batch(false), api.Answer{Told: []api.Told{yes}, Count: 1}, nil},
		{batch(true, a, b), api.Answer{Told: []api.Told{yes, yes}, Count: 2}, []api.Past{pastA, pastB}},
		{batch(true, a, b), api.Answer{Told: []api.Told{yes, yes}}, nil},
		{batch(true, a, b), api.Answer{Told: []api.Told{yes, no}}, nil},
		{batch(true, a, b), api.Answer{Told: []api.Told{yes, no}, Count: 1}, []api.Past{pastA}},
		{batch(true, a, b), api.Answer{Told: []api.Told{yes, yes}, Count: -1}, []api.Past{pastA, pastB}},
		{reset(200, b.Key), api.Answer{}, []api.Past{forgot(200, 0, b.Key)}},
		{reset(1, ""), api.Answer{Told: []api.Told{yes}}, []api.Past{forgot(1, 0, "")}},
		{reset(1, "a"), api.Answer{Code: api.ErrNone}, nil},
		{set(1, kinds[0]), api.Answer{Version: 3, Told: []api.Told{yes}}, nil},
		{remove(1), api.Answer{Told: []api.Told{yes}}, nil},
		{api.Command{Kind: api.Get, Book: 1}, api.Answer{Version: 3, Told: []api.Told{yes}}, nil},
		{api.Command{Kind: api.Stats}, api.Answer{Count: 1, Told: []api.Told{yes}}, nil},
		{dump(1, "a", 3), api.Answer{Told: []api.Told{yes}}, nil},
	} {
		l, told := one(c.c, c.a)
		lets(t, l, told, c.want...)
		// Of another kind it is no answer to that.
		for _, kind := range []int{0, told[0].Kind%9 + 1, told[0].Kind + 256, -told[0].Kind, math.MaxInt} {
			told[0].Kind = kind
			lets(t, l, told)
		}
		lets(t, l, nil)
		lets(t, nil, told)
	}
}

// P24.4: versions are those that were told last, of the same book, by a Set that told OK.
func TestLetVersions(t *testing.T) {
	commands := []api.Command{check(1, "a", 1), set(1, kinds[0]), check(1, "a", 1), set(2, kinds[0]), reset(1, "a"), set(1, kinds[0]), check(1, "a", 1), remove(1), check(1, "a", 1), set(1, kinds[0]), batch(false, ask(2, "a", 1), ask(1, "a", 1)), set(1, kinds[0]), reset(1, "b")}
	told := []api.Answer{{}, {Version: 7}, {}, {Version: 9}, {}, {Version: 8, Code: api.ErrFull}, {}, {Version: 5}, {}, {Version: 2}, {}, {Version: -4}, {}}
	var l []api.Step
	for i, c := range commands {
		told[i].Kind = c.Kind
		told[i].Told = slices.Repeat([]api.Told{yes}, 2)
		l = append(l, api.Step{Chunk: commandBytes(c)})
	}
	want := []api.Past{let(1, 0, "a", 0, 1), let(1, 7, "a", 0, 1), forgot(1, 7, "a"), let(1, 7, "a", 0, 1), let(1, 7, "a", 0, 1), let(2, 9, "a", 0, 1), let(1, 2, "a", 0, 1), forgot(1, -4, "b")}
	lets(t, l, told, want...)
	// A Set whose answer is of another kind tells no version.
	told[1].Kind = api.Get
	want[1].Version, want[2].Version, want[3].Version, want[4].Version = 0, 0, 0, 0
	lets(t, l, told, want...)
}

// P24.4: each piece has an answer's place, also one that is no command; answers may be fewer, or more.
func TestLetPlaces(t *testing.T) {
	chunk := commandBytes(check(1, "a", 1)) + "\x00\x00" + commandBytes(check(1, "b", 2)) + putFrame("\x0a") + putFrame("\x01\x01") + "\x02\x01" + strings.Repeat("\x00", 513) + commandBytes(check(1, "c", 3))
	want := []api.Past{let(1, 0, "a", 9, 1), let(1, 0, "b", 9, 2), let(1, 0, "c", 9, 3)}
	a := slices.Repeat([]api.Answer{{Kind: api.Check, Told: []api.Told{yes}}}, 9)
	for n := range 10 {
		lets(t, []api.Step{{Tick: 9, Chunk: chunk}}, a[:n], want[:[]int{0, 1, 1, 2, 2, 2, 2, 3, 3, 3}[n]]...)
	}
	for from := 1; from < 7; from++ {
		a[from-1].Kind = 0
		lets(t, []api.Step{{Tick: 9, Chunk: chunk}}, a, want[[]int{0, 1, 1, 2, 2, 2, 2}[from]:]...)
	}
}

// P24.4: the time of a weight is that of its last byte, and the greatest Tick till then that is one.
func TestLetTicks(t *testing.T) {
	for _, c := range []struct {
		ticks []int
		want  int
	}{
		{[]int{0}, 0},
		{[]int{7}, 7},
		{[]int{-1}, 0},
		{[]int{math.MinInt}, 0},
		{[]int{1 << 40}, 1 << 40},
		{[]int{1<<40 + 1}, 0},
		{[]int{math.MaxInt}, 0},
		{[]int{9, 7}, 9},
		{[]int{7, 9}, 9},
		{[]int{7, 1<<40 + 1}, 7},
		{[]int{7, -9, 8, 3}, 8},
		{[]int{1 << 40, 5}, 1 << 40},
	} {
		s := commandBytes(check(1, "a", 1))
		a := []api.Answer{{Kind: api.Check, Told: []api.Told{yes}}, {Kind: api.Check, Told: []api.Told{yes}}}
		for cut := range len(s) {
			var l []api.Step
			for _, tick := range c.ticks {
				l = append(l, api.Step{Tick: tick})
			}
			l[len(l)-1].Chunk = s[cut:]
			if len(l) > 1 {
				l[0].Chunk = s[:cut]
			} else {
				l[0].Chunk = s
			}
			// What comes later has no part in it.
			lets(t, append(l, api.Step{Tick: 1 << 39}), a, let(1, 0, "a", c.want, 1))
		}
	}
}

// P24.4: of what was sent and told indeed it tells the history that the document's words tell.
func TestLetIsHistory(t *testing.T) {
	for seed := range int64(200) {
		r := rand.New(rand.NewSource(seed))
		l := small.script(r, 100)
		cells := 1 + r.Intn(6)
		o := newOracle(cells)
		for _, x := range l {
			if x.tick > o.now && x.tick <= 1<<40 {
				o.now = x.tick
			}
			if x.code == api.OK {
				o.do(x.c)
			}
		}
		past := map[api.Name][]api.Hit{}
		for _, x := range Let(steps(l), answers(cells, l)) {
			n := api.Name{Book: x.Book, Key: x.Key}
			if x.Reset || x.Version != o.books[x.Book].Version || !o.books[x.Book].On {
				delete(past, n)
			} else {
				past[n] = append(past[n], x.Hit)
			}
		}
		if !reflect.DeepEqual(past, o.past) {
			t.Fatalf("seed %d: %v, not %v", seed, past, o.past)
		}
	}
}

// R5, R6: what is told hangs on nothing that was asked before, and shares nothing with it.
func TestAgain(t *testing.T) {
	r := rand.New(rand.NewSource(24))
	l := small.script(r, 80)
	x := steps(l)
	c := api.Config{Cells: 3, Seed: 5}
	first := both(t, c, x)
	a, _ := Answers(first)
	past := Let(x, a)
	kept := slices.Clone(past)
	both(t, api.Config{Cells: 1}, steps(small.script(r, 80)))
	if both(t, c, x) != first {
		t.Errorf("it tells something else again")
	}
	b, _ := Answers(first)
	b[0], b[1] = api.Answer{Kind: 77}, api.Answer{}
	for _, y := range b {
		for i := range y.Told {
			y.Told[i] = wrong
		}
	}
	other := Let(x, a)
	if !slices.Equal(other, kept) || len(other) == 0 {
		t.Fatalf("%v, not %v", other, kept)
	}
	other[0] = api.Past{}
	if !slices.Equal(past, kept) || !slices.Equal(Let(x, a), kept) {
		t.Errorf("%v, not %v", past, kept)
	}
}
