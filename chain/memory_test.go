package chain_test

import (
	"slices"
	"strconv"
	"testing"

	"coracle/api"
	"coracle/chain"
)

// spoilEvents overwrites an answer and its spare room.
func spoilEvents(l []chain.Event) {
	l = l[:cap(l)]
	for i := range l {
		l[i] = chain.Event{Kind: 9, ID: api.Hash{9}, Height: 9}
	}
}

// spoilHashes does too.
func spoilHashes(l []api.Hash) {
	l = l[:cap(l)]
	for i := range l {
		l[i] = api.Hash{9}
	}
}

func TestEventsAreNewMemory(t *testing.T) {
	p := start(t, 9, 9)
	var all, copies [][]chain.Event
	add := func(name string) {
		events, e := p.c.Add(p.heads[name])
		if e != api.OK {
			t.Fatalf("P10.1: %s: error %d", name, e)
		}
		all, copies = append(all, events), append(copies, slices.Clone(events))
	}
	p.make("a", "g", 1)
	p.make("b", "a", 1)
	p.make("c", "b", 1)
	p.make("x", "a", 5)
	p.make("d", "c", 9)
	for _, name := range []string{"a", "c", "b", "x", "d"} {
		add(name)
	}
	state := p.state()
	for i := range all {
		for j := range all {
			if !slices.Equal(all[j], copies[j]) {
				t.Errorf("P10.3: the events of Add %d changed with those of another one", j)
			}
		}
		spoilEvents(all[i])
		copies[i] = slices.Clone(all[i])
		p.stands("events of Add "+strconv.Itoa(i)+" that are changed", state)
	}
	p.is("e on d, behind events that are changed", p.put("e", "d", 1), "+e5")
	p.is("y on x, behind events that are changed", p.put("y", "x", 99), "-e5 -d4 -c3 -b2 +x2 +y3")
}

func TestOrphansAreNewMemory(t *testing.T) {
	p := start(t, 9, 5)
	p.make("a", "g", 1)
	for _, name := range []string{"b", "c", "d"} {
		p.put(name, "a", 1)
	}
	want := p.c.Orphans()
	one, other := p.c.Orphans(), p.c.Orphans()
	spoilHashes(one)
	if !slices.Equal(other, want) {
		t.Errorf("P10.3: two answers of Orphans share memory: %x", other)
	}
	p.stands("Orphans that are changed", "g 0/1; ; b c d")
	p.put("e", "nothing", 1)
	p.is("b again", p.add("b"), "error 6")
	p.is("a, with Orphans that are changed", p.add("a"), "+a1 +b2")
	if !slices.Equal(other, want) {
		t.Errorf("P10.3: an answer of Orphans changed behind Add: %x", other)
	}
	spoilHashes(p.c.Orphans())
	p.stands("all that", "g a b 2/3; c2/3 d2/3; e")
}

// A header is told by its ID: one with another Root, Nonce or Work is another one.
func TestHeadersByTheirID(t *testing.T) {
	p := start(t, 9, 5)
	h := api.Header{Prev: p.id("g"), Work: 5}
	p.name("a", h)
	h.Root = api.Hash{1}
	p.name("b", h)
	h.Nonce = 1
	p.name("c", h)
	h.Work = 6
	p.name("d", h)
	p.is("a", p.add("a"), "+a1")
	p.is("another Root", p.add("b"), "")
	p.is("another Nonce", p.add("c"), "")
	p.is("another Work", p.add("d"), "-a1 +d1")
	p.stands("all of these", "g d 1/7; a1/6 b1/6 c1/6; ")
	for _, name := range []string{"a", "b", "c", "d"} {
		p.is(name+" again", p.add(name), "error 6")
	}
}
