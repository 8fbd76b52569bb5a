package hist

import (
	"math"

	"sandglass/api"
	"sandglass/policy"
)

// rule is how hits count by a policy.
type rule struct {
	worth int                // what a weight of 1 is worth
	most  int                // the most that may count
	drain int                // how much runs out in each tick
	goes  func(tick int) int // which hits count: those of a Tick do ahead of this time, and not from it on
}

// ruleOf tells the rule of a policy that may be.
func ruleOf(p api.Policy) rule {
	if p.Kind == api.Bucket {
		return rule{worth: p.Window, most: p.Limit * p.Window, drain: p.Limit, goes: going(p)}
	}
	return rule{worth: 1, most: p.Limit, goes: going(p)}
}

// going tells when hits go, by a policy that may be.
func going(p api.Policy) func(tick int) int {
	slot := policy.Slot(p)
	switch p.Kind {
	case api.Fixed:
		return func(tick int) int { return (tick/p.Window + 1) * p.Window }
	case api.Ring:
		return func(tick int) int { return (tick/slot + p.Buckets) * slot }
	case api.Exact:
		return func(tick int) int { return tick + p.Window }
	}
	// What is in a Bucket runs out bit by bit: no hit goes as a whole.
	return func(tick int) int { return math.MaxInt }
}

// tally is what counts of a history at a time.
type tally struct {
	rule
	now    int
	amount int
	hits   []api.Hit // those that have not gone
}

// tallyOf tells the tally of l at t; false, if p may not be, l is no history of it, or t no time for l.
func tallyOf(p api.Policy, l []api.Hit, t int) (tally, bool) {
	if policy.Check(p) != api.OK || !May(l) {
		return tally{}, false
	}
	n := tally{rule: ruleOf(p), hits: l}
	for _, hit := range l {
		n.advance(hit.Tick)
		n.amount += n.worth * hit.Weight
		if n.amount > n.most {
			return tally{}, false
		}
	}
	if t < n.now || t > api.MaxTick {
		return tally{}, false
	}
	n.advance(t)
	return n, true
}

// advance goes on to t, which is not below now. (Hits that are still to come stay where they are: none goes ahead of its own Tick.)
func (n *tally) advance(t int) {
	// Of a Bucket the greatest one of many numbers counts, one for each hit. In a tick all of them fall by the same, and with a hit all of them rise by the same, so that the greatest one is known from the greatest one ahead.
	n.amount = max(n.amount-n.drain*(t-n.now), 0)
	for len(n.hits) > 0 && n.goes(n.hits[0].Tick) <= t {
		n.amount -= n.worth * n.hits[0].Weight
		n.hits = n.hits[1:]
	}
	n.now = t
}

// wait tells in how many ticks no more than most counts, if nothing else is let in.
func (n tally) wait(most int) int {
	if n.drain > 0 {
		return (max(n.amount-most, 0) + n.drain - 1) / n.drain
	}
	ticks, left := 0, n.amount
	for _, hit := range n.hits {
		if left <= most {
			break
		}
		ticks, left = n.goes(hit.Tick)-n.now, left-hit.Weight
	}
	return ticks
}
