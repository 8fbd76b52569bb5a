package play

import (
	"math"
	"math/rand"
	"slices"
	"strings"
	"testing"

	"sandglass/api"
)

// The ten examples of the whole; the tenth one is of any script (P24.5).
func TestTenExamples(t *testing.T) {
	bucket, fixed := kinds[0], kinds[1]
	ring := api.Policy{Kind: api.Ring, Limit: 2, Window: 30, Buckets: 3}
	exact := kinds[3]
	tells(t, 1, ". y n n y n", at(0, set(1, bucket)), at(100, check(1, "a", 2)), at(100, check(1, "a", 1)), at(104, check(1, "a", 1)), at(105, check(1, "a", 1)), at(105, check(1, "a", 1)))
	tells(t, 1, ". y n y n", at(0, set(1, fixed)), at(9, check(1, "a", 2)), at(9, check(1, "a", 1)), at(10, check(1, "a", 2)), at(10, check(1, "a", 1)))
	tells(t, 1, ". y n y", at(0, set(1, ring)), at(5, check(1, "a", 2)), at(29, check(1, "a", 1)), at(30, check(1, "a", 2)))
	tells(t, 1, ". y n y", at(0, set(1, exact)), at(5, check(1, "a", 2)), at(14, check(1, "a", 1)), at(15, check(1, "a", 2)))
	for _, p := range kinds {
		tells(t, 1, ". y 7 y", at(0, set(1, p)), at(20, check(1, "a", 2)), at(29, check(1, "b", 1)), at(30, check(1, "b", 1)))
		tells(t, 2, ". y y n . y y", at(0, set(1, p)), at(20, check(1, "a", 2)), at(20, check(1, "b", 2)), at(20, check(1, "a", 1)), at(20, set(1, p)), at(20, check(1, "a", 2)), at(20, check(1, "b", 2)))
		tells(t, 2, ". yn y", at(0, set(1, p)), at(20, batch(true, ask(1, "a", 1), ask(1, "a", 2))), at(20, check(1, "a", 2)))
		tells(t, 1, ". y n n y", at(0, set(1, p)), at(20, check(1, "a", 2)), at(20, check(1, "a", 2)), at(7, check(1, "a", 2)), at(30, check(1, "a", 2)))
	}
	back := []sent{at(10, api.Command{Kind: api.Stats}), at(7, api.Command{Kind: api.Stats})}
	if s := both(t, api.Config{Cells: 1}, steps(back)); s != bytesOf([]api.Answer{{Kind: api.Stats, Now: 10}, {Kind: api.Stats, Now: 10}}) {
		t.Errorf("%q", s)
	}
	tells(t, 1, "8 .", junk(0, "\x02\x01"+strings.Repeat("\x00\x01\x08", 171), api.ErrBig), at(0, api.Command{Kind: api.Stats}))
}

// passes tells whether more was let in, in some span, than a policy's kind says.
func passes(p api.Policy, l []api.Hit) bool {
	for i := range l {
		sum := 0
		for _, h := range l[i:] {
			sum += h.Weight
			from, to := l[i].Tick, h.Tick
			over := false
			switch p.Kind {
			case api.Bucket:
				over = p.Window*(sum-p.Limit) > p.Limit*(to-from)
			case api.Fixed:
				over = from/p.Window == to/p.Window && sum > p.Limit
			case api.Ring:
				slot := p.Window / p.Buckets
				over = to/slot-from/slot < p.Buckets && sum > p.Limit
			case api.Exact:
				over = to-from < p.Window && sum > p.Limit
			}
			if over {
				return true
			}
		}
	}
	return false
}

// era is a book by its version.
type era struct{ book, version int }

// P1: by what was sent and told alone, no more is let in in any span than the policy's kind says.
func TestLimit(t *testing.T) {
	for seed := range int64(200) {
		r := rand.New(rand.NewSource(seed))
		l := small.script(r, 200)
		a := replies(t, api.Config{Cells: 1 + r.Intn(6), Seed: r.Uint64()}, steps(l))
		policies := map[era]api.Policy{}
		for i, x := range l {
			if x.c.Kind == api.Set && a[i].Code == api.OK {
				policies[era{x.c.Book, a[i].Version}] = x.c.Policy
			}
		}
		type name struct {
			era
			key string
		}
		past := map[name][]api.Hit{}
		for _, x := range Let(steps(l), a) {
			n := name{era{x.Book, x.Version}, x.Key}
			if x.Reset {
				delete(past, n)
				continue
			}
			past[n] = append(past[n], x.Hit)
			if p, there := policies[n.era]; !there || passes(p, past[n]) {
				t.Fatalf("seed %d: %v, of %v: %v", seed, n, p, past[n])
			}
		}
	}
}

// about tells whether a command is of moment to a name.
func about(c api.Command, n api.Name) bool {
	switch c.Kind {
	case api.Check, api.Peek:
		return c.Asks[0].Book == n.Book && c.Asks[0].Key == n.Key
	case api.Reset:
		return c.After == n
	case api.Set, api.Delete:
		return c.Book == n.Book
	}
	return false
}

// clocked is a script whose ticks are what the clock is then.
func clocked(l []sent) []sent {
	now := 0
	l = slices.Clone(l)
	for i := range l {
		if l[i].tick > now && l[i].tick <= 1<<40 {
			now = l[i].tick
		}
		l[i].tick = now
	}
	return l
}

// P2: what is told of a name is what is told, if nothing is asked of others.
func TestAloneIsTheSame(t *testing.T) {
	for seed := range int64(60) {
		r := rand.New(rand.NewSource(seed))
		w := small
		w.errors = 1000
		l := slices.DeleteFunc(clocked(w.script(r, 200)), func(x sent) bool { return x.c.Kind == api.Batch })
		all := replies(t, api.Config{Cells: 64, Seed: 1}, steps(l))
		for n := range newNames(l) {
			var of []sent
			var want []api.Answer
			for i, x := range l {
				if about(x.c, n) {
					of, want = append(of, x), append(want, all[i])
				}
			}
			if got := both(t, api.Config{Cells: 1, Seed: 2}, steps(of)); got != bytesOf(want) {
				t.Fatalf("seed %d: %v: %q, not %q", seed, n, got, bytesOf(want))
			}
		}
	}
}

// newNames is the names that a script's commands ask of.
func newNames(l []sent) map[api.Name]bool {
	names := map[api.Name]bool{}
	for _, x := range l {
		for _, a := range x.c.Asks {
			names[api.Name{Book: a.Book, Key: a.Key}] = true
		}
	}
	return names
}

// withStats is a script with Stats ahead of each piece.
func withStats(l []sent) []sent {
	var out []sent
	for _, x := range l {
		out = append(out, at(x.tick, api.Command{Kind: api.Stats}), x)
	}
	return out
}

// P3: for want of room something is refused only where as many names count as there are cells; with enough cells nothing is.
func TestRoom(t *testing.T) {
	refused := 0
	for seed := range int64(150) {
		r := rand.New(rand.NewSource(seed))
		w := small
		w.keys = 1 + r.Intn(12)
		l := slices.DeleteFunc(w.script(r, 150), func(x sent) bool { return x.c.Kind == api.Batch })
		l = withStats(l)
		cells := 1 + r.Intn(5)
		a := replies(t, api.Config{Cells: cells, Seed: r.Uint64()}, steps(l))
		for i := 1; i < len(a); i += 2 {
			if len(a[i].Told) > 0 && a[i].Told[0].Code == api.ErrCapacity {
				refused++
				if a[i-1].Count != cells || l[i].c.Kind != api.Check {
					t.Fatalf("seed %d: %v, of %v cells", seed, l[i], a[i-1])
				}
			}
		}
		for _, x := range replies(t, api.Config{Cells: 64, Seed: r.Uint64()}, steps(l)) {
			if len(x.Told) > 0 && x.Told[0].Code == api.ErrCapacity {
				t.Fatalf("seed %d: %v", seed, x)
			}
		}
	}
	if refused == 0 {
		t.Errorf("nothing was refused for want of room")
	}
}

// P3, P24.5: neither seeds nor budgets are told.
func TestSeedsAndBudgets(t *testing.T) {
	for seed := range int64(60) {
		r := rand.New(rand.NewSource(seed))
		w := small
		w.keys = 1 + r.Intn(60)
		x := steps(w.script(r, 150))
		c := api.Config{Cells: 1 + r.Intn(40)}
		want := both(t, c, x)
		for _, budget := range []int{math.MinInt, -1, 1, 2, 1000, math.MaxInt} {
			for i := range x {
				x[i].Budget = budget
			}
			c.Seed = r.Uint64()
			if both(t, c, x) != want {
				t.Fatalf("seed %d, budget %d: it tells something else", seed, budget)
			}
		}
	}
}

// P4: a clock that goes back, or to no time, is as one that stands still.
func TestClock(t *testing.T) {
	for seed := range int64(60) {
		r := rand.New(rand.NewSource(seed))
		w := small
		w.errors = 3
		l := w.script(r, 100)
		c := api.Config{Cells: 1 + r.Intn(4)}
		if both(t, c, steps(l)) != both(t, c, steps(clocked(l))) {
			t.Fatalf("seed %d: it tells something else", seed)
		}
	}
}

// P5: what is refused is let in when Retry is over, and not one tick sooner.
func TestRetry(t *testing.T) {
	refused := 0
	for seed := range int64(40) {
		r := rand.New(rand.NewSource(seed))
		w := small
		w.books = 1
		l := clocked(w.script(r, 40))
		now := l[len(l)-1].tick
		for key := range 4 {
			for weight := 1; weight <= 7; weight++ {
				ask := check(0, strings.Repeat(string([]byte{byte(key), 255}), key)+string([]byte{byte(255 - key)}), weight)
				told := lastTold(t, append(slices.Clone(l), at(now, ask)))
				v := told.Verdict
				if told.Code != api.OK || v.Allowed || v.Retry == api.Never {
					continue
				}
				refused++
				for wait := range v.Retry + 1 {
					v := lastTold(t, append(slices.Clone(l), at(now, ask), at(now+wait, ask))).Verdict
					if v.Allowed != (wait == told.Verdict.Retry) || !v.Allowed && v.Retry != told.Verdict.Retry-wait {
						t.Fatalf("seed %d: %v, and %d later %v", seed, told, wait, v)
					}
				}
			}
		}
	}
	if refused == 0 {
		t.Errorf("nothing was refused")
	}
}

// lastTold is what is told of a script's last ask.
func lastTold(t *testing.T, l []sent) api.Told {
	t.Helper()
	a := replies(t, api.Config{Cells: 64}, steps(l))
	return a[len(a)-1].Told[0]
}

// P5: what is above the limit is never let in.
func TestNever(t *testing.T) {
	for _, p := range kinds {
		told := lastTold(t, []sent{at(0, set(0, p)), at(5, check(0, "a", 1)), at(6, check(0, "a", 3))})
		if told.Verdict.Allowed || told.Verdict.Retry != api.Never {
			t.Errorf("%v: %v", p, told)
		}
	}
}

// P6: however bytes are cut into chunks at one time, the same is told; each piece has one answer.
func TestCuts(t *testing.T) {
	for seed := range int64(60) {
		r := rand.New(rand.NewSource(seed))
		w := small
		w.errors = 3
		l := w.script(r, 60)
		c := api.Config{Cells: 1 + r.Intn(4), Seed: 7}
		whole := both(t, c, steps(l))
		if a, code := Answers(whole); code != api.OK || len(a) != len(l) {
			t.Fatalf("seed %d: %d answers to %d pieces, %d", seed, len(a), len(l), code)
		}
		for _, most := range []int{1, 3, 30} {
			var x []api.Step
			for _, piece := range l {
				for rest := piece.bytes; rest != ""; {
					n := min(r.Intn(most+1), len(rest))
					x = append(x, api.Step{Tick: piece.tick, Chunk: rest[:n], Budget: r.Intn(3)})
					rest = rest[n:]
				}
			}
			if both(t, c, x) != whole {
				t.Fatalf("seed %d: of chunks of %d it tells something else", seed, most)
			}
			if past := Let(x, answers(c.Cells, l)); !slices.Equal(past, Let(steps(l), answers(c.Cells, l))) {
				t.Fatalf("seed %d: of chunks of %d something else was let in", seed, most)
			}
		}
	}
}

// P6: what can't be read changes nothing.
func TestUnreadChangesNothing(t *testing.T) {
	for seed := range int64(60) {
		r := rand.New(rand.NewSource(seed))
		w := small
		w.errors = 3
		// The clock goes on, whatever can't be read then.
		l := clocked(w.script(r, 120))
		a := replies(t, api.Config{Cells: 3}, steps(l))
		var read []sent
		want := ""
		for i, x := range l {
			if x.code != api.OK {
				if answerBytes(a[i]) != answerBytes(api.Answer{Code: x.code}) {
					t.Fatalf("seed %d: %v of %v", seed, a[i], x)
				}
				continue
			}
			read = append(read, x)
			want += answerBytes(a[i])
		}
		if both(t, api.Config{Cells: 3}, steps(read)) != want {
			t.Fatalf("seed %d: it tells something else", seed)
		}
	}
}

// R1: bytes that nobody made end, and tell the same; so do answers that nobody made.
func TestAnyBytes(t *testing.T) {
	for seed := range int64(300) {
		r := rand.New(rand.NewSource(seed))
		var l []api.Step
		for range r.Intn(20) {
			chunk := make([]byte, r.Intn(60))
			for i := range chunk {
				chunk[i] = []byte{0, 0, 1, 2, 5, byte(r.Intn(256))}[r.Intn(6)]
			}
			l = append(l, api.Step{Tick: int(r.Uint64()), Budget: int(r.Uint64()), Chunk: string(chunk)})
		}
		s := both(t, api.Config{Cells: 2}, l)
		a, code := Answers(s)
		if code != api.OK {
			t.Fatalf("seed %d: %d", seed, code)
		}
		for i := range a {
			a[i].Kind = r.Intn(12) - 1
			a[i].Version, a[i].Count = int(r.Uint64()), r.Intn(3)-1
			a[i].Told = slices.Repeat([]api.Told{yes}, r.Intn(4))
		}
		Let(l, a)
		for _, x := range l {
			Answers(x.Chunk)
		}
	}
}
