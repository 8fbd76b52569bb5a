package wire

import "sandglass/api"

// How many bytes numbers have.
const (
	byteWidth = 1
	longWidth = 4
)

// mostAsks is how many asks a Batch may have.
const mostAsks = 32

// command has a method for each part of its bytes, which passes that to a hand.
type command api.Command

// part is such a method.
type part func(c *command, h hand)

// kinds tells which parts each kind has, in order, behind the kind itself.
func kinds() map[int][]part {
	return map[int][]part{
		api.Check:  {(*command).ask},
		api.Batch:  {(*command).all, (*command).asks},
		api.Peek:   {(*command).ask},
		api.Reset:  {(*command).after},
		api.Set:    {(*command).book, (*command).policy},
		api.Get:    {(*command).book},
		api.Delete: {(*command).book},
		api.Stats:  {},
		api.Dump:   {(*command).after, (*command).most},
	}
}

// known tells whether there are commands of a kind.
func known(kind int) bool {
	_, is := kinds()[kind]
	return is
}

// pass passes all of a command to h.
func (c *command) pass(h hand) {
	h.number(&c.Kind, byteWidth)
	for _, passPart := range kinds()[c.Kind] {
		passPart(c, h)
	}
}

func (c *command) ask(h hand) {
	c.firstAsks(h, 1)
}

func (c *command) all(h hand) {
	flag := 0
	if c.All {
		flag = 1
	}
	h.number(&flag, byteWidth)
	c.All = flag == 1
}

func (c *command) asks(h hand) {
	count := len(c.Asks)
	h.number(&count, byteWidth)
	c.firstAsks(h, min(count, mostAsks))
}

// firstAsks passes so many asks to h.
func (c *command) firstAsks(h hand, count int) {
	// Asks that were handed in are not changed, and those that are read are not there yet.
	var asks []api.Ask
	for i := range count {
		var a api.Ask
		if i < len(c.Asks) {
			a = c.Asks[i]
		}
		h.number(&a.Book, byteWidth)
		h.text(&a.Key)
		h.number(&a.Weight, longWidth)
		asks = append(asks, a)
	}
	c.Asks = asks
}

func (c *command) after(h hand) {
	h.number(&c.After.Book, byteWidth)
	h.text(&c.After.Key)
}

func (c *command) book(h hand) {
	h.number(&c.Book, byteWidth)
}

func (c *command) policy(h hand) {
	h.number(&c.Policy.Kind, byteWidth)
	h.number(&c.Policy.Limit, longWidth)
	h.number(&c.Policy.Window, longWidth)
	h.number(&c.Policy.Buckets, byteWidth)
}

func (c *command) most(h hand) {
	h.number(&c.Most, byteWidth)
}
