package engine

import (
	"sandglass/api"
	"sandglass/grow"
	"sandglass/recent"
	"sandglass/slab"
	"sandglass/timer"
)

const (
	// cellWords is as many words as cell.Pack tells.
	cellWords = 19
	// firstBits is of a small table: it grows with the names.
	firstBits = 2
)

// holder is who has a cell.
type holder struct {
	name   api.Name
	handle int
	// over tells that nothing of the name counts any more: then the cell may be given to another one.
	over bool
}

// store has cells: each that is taken is of one name, and no two are of the same one. Each name that counts has one; those whose names do not count are over. Cells go by their numbers, as handles rise without end, and timers' ids do not.
type store struct {
	config  api.Config
	cells   *slab.Slab
	numbers *grow.Grow // by keyOf of a name
	holders map[int]holder
	// timers tell when a cell is over; their clock is that of the whole engine.
	timers *timer.Timer
	// order is that in which cells were filled.
	order *recent.Recent
}

// newStore tells a store whose cells are all free, at 0.
func newStore(c api.Config) (*store, api.Errno) {
	cells, code := slab.New(c.Cells, cellWords)
	if code != api.OK {
		return nil, code
	}
	numbers, code := grow.New(c.Seed, firstBits)
	if code != api.OK {
		return nil, code
	}
	timers, code := timer.New(0)
	if code != api.OK {
		return nil, code
	}
	return &store{
		config:  c,
		cells:   cells,
		numbers: numbers,
		holders: map[int]holder{},
		timers:  timers,
		order:   recent.New(),
	}, api.OK
}

// copy tells a store of its own. Its cells' numbers may be others: nothing hangs on these but which is which.
func (s *store) copy() *store {
	c, code := newStore(s.config)
	if code != api.OK {
		return nil
	}
	c.advance(s.now())
	for _, from := range s.order.Order() {
		due, there := s.timers.Due(from)
		if !there {
			due = api.Never
		}
		to, _ := c.take(s.holders[from].name)
		c.fill(to, s.words(from), due)
		if s.holders[from].over {
			c.end(to)
		}
	}
	return c
}

func (s *store) now() int {
	return s.timers.Now()
}

// advance makes the clock go on, if it can, and ends the cells that are over then.
func (s *store) advance(now int) {
	for _, number := range s.timers.Advance(now) {
		s.end(number)
	}
}

// find tells the number of a name's cell, be it over or not; false, if it has none.
func (s *store) find(n api.Name) (int, bool) {
	return s.numbers.Get(keyOf(n))
}

// words tells the words of a cell.
func (s *store) words(number int) []uint64 {
	words, _ := s.cells.Read(s.holders[number].handle)
	return words
}

// take tells the number of a name's cell, and takes one for it, if it has none; false, if there is none to be had, as all cells count.
func (s *store) take(n api.Name) (int, bool) {
	if number, there := s.find(n); there {
		return number, true
	}
	if s.cells.Free() == 0 && !s.evict() {
		return 0, false
	}
	handle, _ := s.cells.Take()
	number := handle % api.MaxCells
	s.numbers.Put(keyOf(n), number)
	s.holders[number] = holder{name: n, handle: handle}
	return number, true
}

// fill gives a cell that is taken its words, by which it counts until a time.
func (s *store) fill(number int, words []uint64, until int) {
	h := s.holders[number]
	h.over = false
	s.holders[number] = h
	s.cells.Write(h.handle, words)
	s.order.Touch(number)
	// No timer is due beyond MaxTick; nor does the clock get there.
	if s.timers.Set(number, until) != api.OK {
		s.timers.Cancel(number)
	}
}

// end makes a cell that is taken one that is over.
func (s *store) end(number int) {
	h := s.holders[number]
	h.over = true
	s.holders[number] = h
	s.timers.Cancel(number)
}

// give gives a cell that is taken back.
func (s *store) give(number int) {
	h := s.holders[number]
	s.cells.Give(h.handle)
	s.numbers.Delete(keyOf(h.name))
	delete(s.holders, number)
	s.timers.Cancel(number)
	s.order.Drop(number)
}

// evict gives the cell back that was filled longest ago of those that are over; false, if there is none.
func (s *store) evict() bool {
	for number, there := s.order.Oldest(); there; number, there = s.order.Newer(number) {
		if s.holders[number].over {
			s.give(number)
			return true
		}
	}
	return false
}

// counting tells the names that count. They are sorted as their keys are.
func (s *store) counting() []api.Name {
	var names []api.Name
	for _, key := range s.numbers.Keys() {
		number, _ := s.numbers.Get(key)
		if h := s.holders[number]; !h.over {
			names = append(names, h.name)
		}
	}
	return names
}

// keyOf tells the key of a name in a table: no two names have the same, and by their bytes they stand in the order of books, and then of keys. A book's number, 0 to 7, is a byte.
func keyOf(n api.Name) string {
	return string([]byte{byte(n.Book)}) + n.Key
}
