package play

import (
	"cmp"
	"slices"
	"strings"

	"sandglass/api"
)

// big is a number as so many bytes, the highest one first.
func big(n int, width int) string {
	s := ""
	for i := width - 1; i >= 0; i-- {
		s += string([]byte{byte(n >> (8 * i))})
	}
	return s
}

func putText(s string) string { return big(len(s), 1) + s }

func putFrame(s string) string { return big(len(s), 2) + s }

// commandBytes is a command's frame, in the document's words.
func commandBytes(c api.Command) string {
	s := big(c.Kind, 1)
	switch c.Kind {
	case api.Batch:
		flag := 0
		if c.All {
			flag = 1
		}
		s += big(flag, 1) + big(len(c.Asks), 1)
	case api.Set:
		p := c.Policy
		s += big(c.Book, 1) + big(p.Kind, 1) + big(p.Limit, 4) + big(p.Window, 4) + big(p.Buckets, 1)
	case api.Get, api.Delete:
		s += big(c.Book, 1)
	case api.Reset:
		s += big(c.After.Book, 1) + putText(c.After.Key)
	case api.Dump:
		s += big(c.After.Book, 1) + putText(c.After.Key) + big(c.Most, 1)
	}
	for _, a := range c.Asks {
		s += big(a.Book, 1) + putText(a.Key) + big(a.Weight, 4)
	}
	return putFrame(s)
}

// answerBytes is an answer's frame, in the document's words.
func answerBytes(a api.Answer) string {
	s := big(a.Kind, 1) + big(int(a.Code), 1) + big(a.Version, 4)
	s += big(a.Policy.Kind, 1) + big(a.Policy.Limit, 4) + big(a.Policy.Window, 4) + big(a.Policy.Buckets, 1)
	s += big(a.Now, 6) + big(a.Count, 2) + big(len(a.Told), 1)
	for _, t := range a.Told {
		let := 0
		if t.Verdict.Allowed {
			let = 1
		}
		s += big(int(t.Code), 1) + big(let, 1) + big(t.Verdict.Remaining, 4) + big(t.Verdict.Retry, 6) + big(t.Verdict.Reset, 6)
	}
	s += big(len(a.Names), 1)
	for _, n := range a.Names {
		s += big(n.Book, 1) + putText(n.Key)
	}
	return putFrame(s)
}

// sent is a piece that is sent at a tick: its bytes, and what it is: a command, or an error.
type sent struct {
	tick  int
	bytes string
	c     api.Command
	code  api.Errno
}

func at(tick int, c api.Command) sent {
	return sent{tick: tick, bytes: commandBytes(c), c: c}
}

// steps is a step for each piece.
func steps(l []sent) []api.Step {
	var out []api.Step
	for _, x := range l {
		out = append(out, api.Step{Tick: x.tick, Chunk: x.bytes})
	}
	return out
}

// oracle is the document's words, by brute force: for small numbers alone.
type oracle struct {
	cells, now int
	books      [8]api.Book
	past       map[api.Name][]api.Hit
}

func newOracle(cells int) *oracle {
	return &oracle{cells: cells, past: map[api.Name][]api.Hit{}}
}

// answers is what a script is told.
func answers(cells int, l []sent) []api.Answer {
	o := newOracle(cells)
	var out []api.Answer
	for _, x := range l {
		if x.tick > o.now && x.tick <= 1<<40 {
			o.now = x.tick
		}
		a := api.Answer{Code: x.code}
		if x.code == api.OK {
			a = o.do(x.c)
			a.Kind = x.c.Kind
		}
		out = append(out, a)
	}
	return out
}

func bytesOf(l []api.Answer) string {
	s := ""
	for _, a := range l {
		s += answerBytes(a)
	}
	return s
}

// counted is what counts at t, and what a weight of 1 is worth, and the most that may count.
func counted(p api.Policy, l []api.Hit, t int) (int, int, int) {
	sum := 0
	switch p.Kind {
	case api.Bucket:
		most := 0
		for i := range l {
			weights := 0
			for _, h := range l[i:] {
				weights += h.Weight
			}
			most = max(most, p.Window*weights-p.Limit*(t-l[i].Tick))
		}
		return most, p.Window, p.Limit * p.Window
	case api.Fixed:
		for _, h := range l {
			if h.Tick/p.Window == t/p.Window {
				sum += h.Weight
			}
		}
	case api.Ring:
		slot := p.Window / p.Buckets
		for _, h := range l {
			if h.Tick/slot > t/slot-p.Buckets {
				sum += h.Weight
			}
		}
	case api.Exact:
		for _, h := range l {
			if h.Tick > t-p.Window {
				sum += h.Weight
			}
		}
	}
	return sum, 1, p.Limit
}

// verdict is what is told of a weight, and the history then.
func verdict(p api.Policy, l []api.Hit, t int, w int) (api.Verdict, []api.Hit) {
	fits := func(at int, weight int) bool {
		sum, worth, most := counted(p, l, at)
		return sum+worth*weight <= most
	}
	var v api.Verdict
	v.Allowed = fits(t, w)
	if w > p.Limit {
		v.Retry = 1 << 41
	} else {
		for !fits(t+v.Retry, w) {
			v.Retry++
		}
	}
	if v.Allowed {
		l = append(slices.Clone(l), api.Hit{Tick: t, Weight: w})
	}
	for v.Remaining < p.Limit && fits(t, v.Remaining+1) {
		v.Remaining++
	}
	for sum := 1; ; v.Reset++ {
		if sum, _, _ = counted(p, l, t+v.Reset); sum == 0 {
			return v, l
		}
	}
}

func mayPolicy(p api.Policy) bool {
	if p.Kind < 1 || p.Kind > 4 || p.Limit < 1 || p.Limit > 1<<20 || p.Window < 1 || p.Window > 1<<20 || p.Kind == api.Exact && p.Limit > 16 {
		return false
	}
	if p.Kind == api.Ring {
		return p.Buckets >= 1 && p.Buckets <= 16 && p.Window%p.Buckets == 0
	}
	return p.Buckets == 0
}

func (o *oracle) nameCode(n api.Name) api.Errno {
	if n.Book > 7 || n.Key == "" || len(n.Key) > 32 {
		return api.ErrArg
	}
	if !o.books[n.Book].On {
		return api.ErrNone
	}
	return api.OK
}

func (o *oracle) counts(n api.Name) bool {
	sum, _, _ := counted(o.books[n.Book].Policy, o.past[n], o.now)
	return sum > 0
}

func (o *oracle) names() []api.Name {
	var names []api.Name
	for n := range o.past {
		if o.counts(n) {
			names = append(names, n)
		}
	}
	slices.SortFunc(names, func(a, b api.Name) int {
		return cmp.Or(cmp.Compare(a.Book, b.Book), strings.Compare(a.Key, b.Key))
	})
	return names
}

// ask is what is told of an ask; it is let in, if lets.
func (o *oracle) ask(a api.Ask, lets bool) api.Told {
	n := api.Name{Book: a.Book, Key: a.Key}
	code := o.nameCode(n)
	if code == api.ErrArg || a.Weight < 1 || a.Weight > 1<<20 {
		return api.Told{Code: api.ErrArg}
	}
	if code != api.OK {
		return api.Told{Code: code}
	}
	v, l := verdict(o.books[n.Book].Policy, o.past[n], o.now, a.Weight)
	if lets && v.Allowed {
		if !o.counts(n) && len(o.names()) == o.cells {
			return api.Told{Code: api.ErrCapacity}
		}
		o.past[n] = l
	}
	return api.Told{Verdict: v}
}

func (o *oracle) batch(c api.Command) api.Answer {
	if len(c.Asks) < 1 || len(c.Asks) > 8 {
		return api.Answer{Code: api.ErrArg}
	}
	before := map[api.Name][]api.Hit{}
	for n, l := range o.past {
		before[n] = l
	}
	var a api.Answer
	for _, x := range c.Asks {
		told := o.ask(x, true)
		a.Told = append(a.Told, told)
		if told.Verdict.Allowed {
			a.Count++
		}
	}
	if c.All && a.Count < len(c.Asks) {
		o.past = before
		a.Count = 0
	}
	return a
}

func (o *oracle) forgetBook(id int) {
	for n := range o.past {
		if n.Book == id {
			delete(o.past, n)
		}
	}
}

func (o *oracle) do(c api.Command) api.Answer {
	switch c.Kind {
	case api.Check, api.Peek:
		return api.Answer{Told: []api.Told{o.ask(c.Asks[0], c.Kind == api.Check)}}
	case api.Batch:
		return o.batch(c)
	case api.Reset:
		code := o.nameCode(c.After)
		if code == api.OK {
			delete(o.past, c.After)
		}
		return api.Answer{Code: code}
	case api.Stats:
		return api.Answer{Now: o.now, Count: len(o.names())}
	case api.Dump:
		names := slices.DeleteFunc(o.names(), func(n api.Name) bool {
			return n.Book < c.After.Book || n.Book == c.After.Book && n.Key <= c.After.Key
		})
		return api.Answer{Names: names[:min(len(names), c.Most, 12)]}
	}
	return o.doBook(c)
}

func (o *oracle) doBook(c api.Command) api.Answer {
	if c.Book > 7 || c.Kind == api.Set && !mayPolicy(c.Policy) {
		return api.Answer{Code: api.ErrArg}
	}
	b := &o.books[c.Book]
	if c.Kind == api.Set {
		o.forgetBook(c.Book)
		*b = api.Book{On: true, Policy: c.Policy, Version: b.Version + 1}
		return api.Answer{Version: b.Version}
	}
	if !b.On {
		return api.Answer{Code: api.ErrNone}
	}
	if c.Kind == api.Get {
		return api.Answer{Policy: b.Policy, Version: b.Version}
	}
	o.forgetBook(c.Book)
	*b = api.Book{Version: b.Version}
	return api.Answer{}
}
