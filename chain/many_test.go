package chain_test

import (
	"testing"

	"coracle/api"
	"coracle/block"
	"coracle/chain"
)

// adds adds a header on another one, and is its ID.
func adds(t *testing.T, c *chain.Chain, prev api.Hash, work, nonce, events int) api.Hash {
	t.Helper()
	h := api.Header{Prev: prev, Work: work, Nonce: nonce}
	l, e := c.Add(h)
	if e != api.OK || len(l) != events {
		t.Fatalf("P10.1: Work %d, Nonce %d: error %d, %d events, want %d", work, nonce, e, len(l), events)
	}
	return block.ID(h)
}

// A branch of very many headers goes when its foot does, and comes in when it is better.
func TestAVeryTallBranch(t *testing.T) {
	const many = 100000
	for _, better := range []bool{false, true} {
		g := api.Header{Work: 1}
		c, _ := chain.New(g, 2, 0)
		low := adds(t, c, block.ID(g), mostNumber, 0, 1)
		foot := adds(t, c, block.ID(g), 1, 1, 0)
		top := foot
		for range many {
			top = adds(t, c, top, 1, 0, 0)
		}
		if better {
			top = adds(t, c, top, mostNumber, 0, many+3)
			adds(t, c, top, 1, 0, 1)
			if c.Known(low) || !c.Known(foot) {
				t.Errorf("P10.1: what is far below a tall branch: known %t", c.Known(low))
			}
			continue
		}
		for range 3 {
			low = adds(t, c, low, 1, 0, 1)
		}
		if c.Known(foot) || c.Known(top) {
			t.Errorf("P10.1: a tall branch on what is too deep: known %t %t", c.Known(foot), c.Known(top))
		}
	}
}

// Very many beside each other: each is better than those ahead of it.
func TestVeryManyBesideEachOther(t *testing.T) {
	const many = 50000
	g := api.Header{Work: 1}
	c, _ := chain.New(g, 1, 0)
	first := adds(t, c, block.ID(g), 1, 0, 1)
	last := first
	for n := range many {
		last = adds(t, c, block.ID(g), n+2, 0, 2)
	}
	last = adds(t, c, last, 1, 0, 1)
	if !c.Known(first) {
		t.Error("P10.1: what is at the tip's height less k is known no more")
	}
	adds(t, c, last, 1, 0, 1)
	if c.Known(first) {
		t.Error("P10.1: what is below the tip's height less k is known still")
	}
}
