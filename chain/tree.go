package chain

import (
	"slices"

	"coracle/api"
)

// place is where a header that was taken in stands.
type place struct {
	id     api.Hash
	height int
	work   int      // all of it, from the genesis up
	below  *place   // nil of the genesis
	above  []*place // what was taken in on it, and is known
}

// tip is the last of the chain.
func (c *Chain) tip() *place {
	return c.way[len(c.way)-1]
}

// floor is the tip's height less k.
func (c *Chain) floor() int {
	return c.tip().height - c.k
}

// deep tells whether p is too far down for anything to be taken in on it.
func (c *Chain) deep(p *place) bool {
	return p.height < c.floor()
}

// waits tells whether a header is an orphan.
func (c *Chain) waits(id api.Hash) bool {
	return slices.ContainsFunc(c.waiting, func(o orphan) bool { return o.id == id })
}

// wait lets a header be an orphan, if there is room.
func (c *Chain) wait(o orphan) api.Errno {
	if len(c.waiting) >= c.room {
		return api.ErrFull
	}
	c.waiting = append(c.waiting, o)
	return api.OK
}

// take takes a header in. Works are told apart by their difference, which is that of some k + orphans headers at most: the sums themselves may run over.
func (c *Chain) take(o orphan, below *place) {
	p := &place{id: o.id, height: below.height + 1, work: below.work + o.work, below: below}
	below.above = append(below.above, p)
	c.known[p.id] = p
	if p.work-c.best.work > 0 {
		c.best = p
	}
}

// takeWaiting takes in the first orphan whose Prev is known, till there is none. Each may be what one that came ahead of it waits for: all are gone over again.
func (c *Chain) takeWaiting() {
again:
	for i, o := range c.waiting {
		below := c.find(o.prev)
		if below == nil {
			continue
		}
		c.waiting = slices.Delete(c.waiting, i, i+1)
		if !c.deep(below) {
			c.take(o, below)
		}
		goto again
	}
}

// follow brings the tip to the best header, if that is another one, and forgets what is too far down by then; it halts if too much would be disconnected.
func (c *Chain) follow() ([]Event, api.Errno) {
	up, fork := c.branch(c.best)
	down := c.way[fork.height+1:]
	if len(down) > c.k {
		c.halted = true
		return nil, api.ErrHalt
	}
	var events []Event
	for _, p := range slices.Backward(down) {
		events = append(events, Event{Kind: Disconnect, ID: p.id, Height: p.height})
	}
	// The spare room behind a shorter way would keep what is forgotten.
	clear(down)
	c.way = c.way[:fork.height+1]
	for _, p := range slices.Backward(up) {
		events = append(events, Event{Kind: Connect, ID: p.id, Height: p.height})
		c.way = append(c.way, p)
	}
	c.trim()
	return events, api.OK
}

// branch is the way from p down to where it meets the chain: what is not on the chain, and what it stands on there.
func (c *Chain) branch(p *place) (off []*place, fork *place) {
next:
	if !c.on(p) {
		off = append(off, p)
		p = p.below
		goto next
	}
	return off, p
}

// on tells whether p is on the chain.
func (c *Chain) on(p *place) bool {
	return p.height < len(c.way) && c.way[p.height] == p
}

// trim forgets what is not on the chain and too far down, with all that stands on it: each branch whose lowest header, the one that leaves the chain, is. A tip may be lower than the one it follows, and then something may be taken in lower down: the mark goes down too.
func (c *Chain) trim() {
	for height := c.trimmed; height+1 < c.floor(); height++ {
		c.cut(c.way[height], c.way[height+1])
	}
	c.trimmed = max(0, c.floor()-1)
}

// cut forgets all that stands on p, but for what stands on next. A branch may be long: it is walked by a list.
func (c *Chain) cut(p, next *place) {
	if len(p.above) == 1 {
		return
	}
	gone := p.above
	p.above = []*place{next}
	gone = slices.DeleteFunc(gone, func(q *place) bool { return q == next })
more:
	if len(gone) > 0 {
		last := gone[len(gone)-1]
		gone = append(gone[:len(gone)-1], last.above...)
		delete(c.known, last.id)
		goto more
	}
}
