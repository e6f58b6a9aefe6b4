package chain

import (
	"math"
	"slices"
	"testing"

	"coracle/api"
	"coracle/block"
)

// grown is a chain of a line of n headers of Work 1, each by its height.
func grown(t *testing.T, k, orphans, n int) (*Chain, []api.Header) {
	t.Helper()
	l := []api.Header{{Work: 1}}
	c, e := New(l[0], k, orphans)
	if e != api.OK {
		t.Fatalf("P10.1: New: error %d", e)
	}
	for i := range n {
		l = append(l, on(l[i], 1))
		if _, e := c.Add(l[i+1]); e != api.OK {
			t.Fatalf("P10.1: header %d: error %d", i+1, e)
		}
	}
	return c, l
}

// on is a header of some Work on another one.
func on(h api.Header, work int) api.Header {
	return api.Header{Prev: block.ID(h), Work: work}
}

// wait is a header that waits, whatever it stands on.
func wait(c *Chain, h api.Header) {
	c.waiting = append(c.waiting, orphan{id: block.ID(h), prev: h.Prev, work: h.Work})
}

// What is dropped must have waited on something that is known and too deep. No call leaves such a one: what comes in stands on nothing too deep, and so what waits for it doesn't either. It is set by hand.
func TestAnOrphanOnWhatIsTooDeepIsDropped(t *testing.T) {
	for _, k := range []int{1, 2, 3} {
		c, l := grown(t, k, 9, 6)
		deep, edge, next := on(l[6-k-1], 20), on(l[6-k], 2), on(l[6], 5)
		above := on(next, 5)
		far := on(deep, 5)
		for _, h := range []api.Header{far, deep, above, edge} {
			wait(c, h)
		}
		events, e := c.Add(next)
		if want := []Event{{Connect, block.ID(next), 7}, {Connect, block.ID(above), 8}}; e != api.OK || !slices.Equal(events, want) {
			t.Errorf("P10.1: k %d: error %d, events %v, want %v", k, e, events, want)
		}
		if c.Known(block.ID(deep)) {
			t.Errorf("P10.1: k %d: an orphan on what is too deep was taken in", k)
		}
		if want := []api.Hash{block.ID(far)}; !slices.Equal(c.Orphans(), want) {
			t.Errorf("P10.1: k %d: there wait %x, want the one that stands on what was dropped", k, c.Orphans())
		}
		if c.Known(block.ID(edge)) {
			t.Errorf("P10.1: k %d: what came in beside the chain is too far below the tip by then, and known still", k)
		}
	}
}

// How deep what waits stands is told by the tip that was there ahead of the Add: it comes in, and may be the best.
func TestAnOrphanThatIsJustNotTooDeep(t *testing.T) {
	for _, k := range []int{1, 2, 3} {
		c, l := grown(t, k, 9, 6)
		edge, next := on(l[6-k], 200), on(l[6], 5)
		wait(c, edge)
		_, e := c.Add(next)
		if id, height := c.Tip(); e != api.OK || id != block.ID(edge) || height != 6-k+1 || len(c.Orphans()) != 0 {
			t.Errorf("P10.1: k %d: error %d, the tip is at %d, %d wait", k, e, height, len(c.Orphans()))
		}
	}
}

// Within the bound the sum of Works may be beyond what an int has: the tip is the best one none the less.
func TestWorkThatRunsOver(t *testing.T) {
	for _, start := range []int{math.MaxInt, math.MaxInt - 1, math.MaxInt - mostOrphans, math.MaxInt - 1<<40, -1, -2, -1 << 40} {
		c, l := grown(t, 3, 0, 0)
		c.best.work = start
		one, other := on(l[0], 1<<39), on(l[0], 1<<39)
		other.Nonce = 1
		better, best := on(one, 1<<40), on(other, 1<<40)
		next := on(best, 1)
		for _, x := range []struct {
			h, tip api.Header
		}{{one, one}, {other, one}, {better, better}, {best, better}, {next, next}} {
			if _, e := c.Add(x.h); e != api.OK {
				t.Fatalf("P10.3: from %d: error %d", start, e)
			}
			if id, _ := c.Tip(); id != block.ID(x.tip) {
				t.Errorf("P10.3: from %d: the tip is not the best one", start)
			}
		}
	}
}

// What is kept is no more than what is known and what waits: the spare room of lists has nothing of what went.
func TestNothingElseIsKept(t *testing.T) {
	c, l := grown(t, 3, 2, 6)
	high := on(l[4], 9)
	if _, e := c.Add(high); e != api.OK {
		t.Fatalf("P10.1: error %d", e)
	}
	for i, p := range c.way[:cap(c.way)] {
		if (p != nil) != (i < len(c.way)) {
			t.Errorf("the way of %d headers keeps something at %d: %t", len(c.way), i, p != nil)
		}
	}
	last := high
	for range 9 {
		last = on(last, 1)
		if _, e := c.Add(last); e != api.OK {
			t.Fatalf("P10.1: error %d", e)
		}
	}
	if len(c.known) != len(c.way) {
		t.Errorf("P10.1: %d are known, %d stand on the chain", len(c.known), len(c.way))
	}
	for _, p := range c.way {
		if len(p.above) > 1 {
			t.Errorf("what went is kept above height %d", p.height)
		}
	}
}
