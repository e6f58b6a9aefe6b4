package chain_test

import (
	"strconv"
	"testing"

	"coracle/api"
	"coracle/block"
	"coracle/chain"
)

func TestGenesisAlone(t *testing.T) {
	for _, g := range []api.Header{
		{Work: 1},
		{Work: mostNumber, Nonce: mostNumber},
		{Prev: api.Hash{1}, Root: api.Hash{2}, Work: 7, Nonce: 3},
	} {
		c, e := chain.New(g, 6, 3)
		if e != api.OK || c == nil {
			t.Fatalf("P10.1: New of Work %d: error %d", g.Work, e)
		}
		own := block.ID(g)
		if id, height := c.Tip(); id != own || height != 0 {
			t.Errorf("P10.1: the tip is %x at %d", id, height)
		}
		if id, ok := c.At(0); !ok || id != own {
			t.Errorf("P10.1: At(0): %x, %t", id, ok)
		}
		if height, ok := c.Height(own); !ok || height != 0 {
			t.Errorf("P10.1: Height of the genesis: %d, %t", height, ok)
		}
		if work, ok := c.Work(own); !ok || work != g.Work {
			t.Errorf("P10.1: Work of the genesis: %d, %t, want %d", work, ok, g.Work)
		}
		if !c.Known(own) || c.Halted() || len(c.Orphans()) != 0 {
			t.Errorf("P10.1: a genesis alone: Known %t, Halted %t, Orphans %x", c.Known(own), c.Halted(), c.Orphans())
		}
		for _, id := range []api.Hash{{}, g.Prev, g.Root, {31: 1}} {
			_, high := c.Height(id)
			_, worked := c.Work(id)
			if high || worked || c.Known(id) {
				t.Errorf("P10.2: %x is known", id)
			}
		}
		for _, height := range []int{-1, 1, 2, -1 << 63, 1<<63 - 1} {
			if id, ok := c.At(height); ok || id != (api.Hash{}) {
				t.Errorf("P10.2: At(%d): %x, %t", height, id, ok)
			}
		}
		if _, e := c.Add(g); e != api.ErrThere {
			t.Errorf("P10.1: Add of the genesis: error %d", e)
		}
	}
}

func TestNewAtTheEdges(t *testing.T) {
	for _, x := range []struct {
		what        string
		work, nonce int
		k, orphans  int
		want        api.Errno
	}{
		{"all as little as may be", 1, 0, 1, 0, api.OK},
		{"all as great as may be", mostNumber, mostNumber, mostOf, mostOf, api.OK},
		{"Work -1", -1, 0, 1, 0, api.ErrArg},
		{"Work 0", 0, 0, 1, 0, api.ErrArg},
		{"Work 2^40 + 1", mostNumber + 1, 0, 1, 0, api.ErrArg},
		{"the least Work", -1 << 63, 0, 1, 0, api.ErrArg},
		{"the greatest Work", 1<<63 - 1, 0, 1, 0, api.ErrArg},
		{"Nonce -1", 1, -1, 1, 0, api.ErrArg},
		{"Nonce 1", 1, 1, 1, 0, api.OK},
		{"Nonce 2^40 + 1", 1, mostNumber + 1, 1, 0, api.ErrArg},
		{"the least Nonce", 1, -1 << 63, 1, 0, api.ErrArg},
		{"the greatest Nonce", 1, 1<<63 - 1, 1, 0, api.ErrArg},
		{"k -1", 1, 0, -1, 0, api.ErrArg},
		{"k 0", 1, 0, 0, 0, api.ErrArg},
		{"k 2", 1, 0, 2, 0, api.OK},
		{"k 99", 1, 0, mostOf - 1, 0, api.OK},
		{"k 101", 1, 0, mostOf + 1, 0, api.ErrArg},
		{"orphans -1", 1, 0, 1, -1, api.ErrArg},
		{"orphans 1", 1, 0, 1, 1, api.OK},
		{"orphans 99", 1, 0, 1, mostOf - 1, api.OK},
		{"orphans 101", 1, 0, 1, mostOf + 1, api.ErrArg},
		{"nothing that may be", 0, -1, 0, -1, api.ErrArg},
	} {
		c, e := chain.New(api.Header{Prev: api.Hash{5}, Root: api.Hash{6}, Work: x.work, Nonce: x.nonce}, x.k, x.orphans)
		if e != x.want || (c != nil) != (x.want == api.OK) {
			t.Errorf("P10.1: New, %s: error %d, want %d; a chain: %t", x.what, e, x.want, c != nil)
		}
	}
}

// Work and Nonce of a header that is added: refused ones leave nothing behind, whether or not their Prev is known.
func TestAddAtTheEdges(t *testing.T) {
	for _, x := range []struct {
		work, nonce int
		want        api.Errno
	}{
		{-1 << 63, 0, api.ErrArg},
		{-1, 0, api.ErrArg},
		{0, 0, api.ErrArg},
		{1, 0, api.OK},
		{2, 0, api.OK},
		{mostNumber - 1, 0, api.OK},
		{mostNumber, 0, api.OK},
		{mostNumber + 1, 0, api.ErrArg},
		{1<<63 - 1, 0, api.ErrArg},
		{1, -1 << 63, api.ErrArg},
		{1, -1, api.ErrArg},
		{1, 1, api.OK},
		{1, mostNumber, api.OK},
		{1, mostNumber + 1, api.ErrArg},
		{1, 1<<63 - 1, api.ErrArg},
		{0, -1, api.ErrArg},
	} {
		what := "Work " + strconv.Itoa(x.work) + ", Nonce " + strconv.Itoa(x.nonce)
		want, state := "+h1", "g h 1/"+strconv.Itoa(1+x.work)+"; ; "
		waits, waiting := "", "g 0/1; ; o"
		if x.want != api.OK {
			want, state = "error 1", "g 0/1; ; "
			waits, waiting = want, state
		}
		p := start(t, 2, 1)
		p.name("h", api.Header{Prev: p.id("g"), Work: x.work, Nonce: x.nonce})
		p.is(what, p.add("h"), want)
		p.stands(what, state)
		p = start(t, 2, 1)
		p.name("o", api.Header{Prev: api.Hash{9}, Work: x.work, Nonce: x.nonce})
		p.is(what+" on nothing", p.add("o"), waits)
		p.stands(what+" on nothing", waiting)
	}
}

// The most Work that a header may have sums up.
func TestGreatWork(t *testing.T) {
	p := start(t, 100, 0)
	below := "g"
	for n := range 300 {
		name := "a" + strconv.Itoa(n) + "."
		p.is("a header of the most Work", p.put(name, below, mostNumber), "+"+name+strconv.Itoa(n+1))
		below = name
		if work, ok := p.c.Work(p.id(name)); !ok || work != 1+(n+1)*mostNumber {
			t.Fatalf("P10.2: Work of %d headers of the most: %d, %t", n+1, work, ok)
		}
	}
}

func TestAddOnTheTip(t *testing.T) {
	p := start(t, 3, 2)
	p.stands("New", "g 0/1; ; ")
	p.is("a on the genesis", p.put("a", "g", 1), "+a1")
	p.stands("a", "g a 1/2; ; ")
	p.is("b on the tip", p.put("b", "a", 5), "+b2")
	p.stands("b", "g a b 2/7; ; ")
	p.is("c on the tip", p.put("c", "b", 2), "+c3")
	p.stands("c", "g a b c 3/9; ; ")
}

// The chapter's example: two of one Work on the genesis.
func TestTheFirstOfOneWorkIsTheTip(t *testing.T) {
	p := start(t, 1, 0)
	p.is("a", p.put("a", "g", 1), "+a1")
	p.is("b, of the same Work", p.put("b", "g", 1), "")
	p.stands("b", "g a 1/2; b1/2; ")
	p.is("c, of the same Work", p.put("c", "g", 1), "")
	p.stands("c", "g a 1/2; b1/2 c1/2; ")
}

func TestAddBesideTheChain(t *testing.T) {
	p := start(t, 3, 0)
	p.line("g", "a", "b", "c")
	p.is("less Work, on the tip's Prev", p.put("d", "b", 1), "")
	p.is("less Work, lower", p.put("e", "a", 1), "")
	p.is("less Work, on the genesis", p.put("f", "g", 1), "")
	p.stands("three beside", "g a b c 3/4; d3/4 e2/3 f1/2; ")
	p.is("one on one beside, of the tip's Work", p.put("h", "e", 1), "")
	p.is("one on one beside, of less Work", p.put("i", "f", 1), "")
	p.stands("two more", "g a b c 3/4; d3/4 e2/3 f1/2 h3/4 i2/3; ")
	p.is("more Work on the same", p.put("j", "f", 3), "-c3 -b2 -a1 +f1 +j2")
	p.stands("a change of the tip", "g f j 2/5; a1/2 b2/3 c3/4 d3/4 e2/3 h3/4 i2/3; ")
}

// The tip with the most Work may be lower than one with less.
func TestWorkTellsNotHeight(t *testing.T) {
	p := start(t, 5, 0)
	p.line("g", "a", "b", "c")
	p.is("one header of as much Work as three", p.put("d", "g", 3), "")
	p.is("one header of more Work than three", p.put("e", "g", 4), "-c3 -b2 -a1 +e1")
	p.stands("a lower tip", "g e 1/5; a1/2 b2/3 c3/4 d1/4; ")
	p.is("the higher one, as much Work", p.put("f", "c", 1), "")
	p.is("the higher one, more Work", p.put("h", "f", 1), "-e1 +a1 +b2 +c3 +f4 +h5")
	p.stands("the higher one", "g a b c f h 5/6; d1/4 e1/5; ")
}

func TestEventsOfAChange(t *testing.T) {
	p := start(t, 4, 0)
	p.line("g", "a", "b", "c", "d")
	p.is("x on b", p.put("x", "b", 1), "")
	p.is("y on x, of the tip's Work", p.put("y", "x", 1), "")
	p.is("z on y", p.put("z", "y", 1), "-d4 -c3 +x3 +y4 +z5")
	p.stands("z", "g a b x y z 5/6; c3/4 d4/5; ")
	p.is("e on d, of the tip's Work", p.put("e", "d", 1), "")
	p.is("f on e", p.put("f", "e", 1), "-z5 -y4 -x3 +c3 +d4 +e5 +f6")
	p.stands("f", "g a b c d e f 6/7; x3/4 y4/5 z5/6; ")
	p.is("h on the tip", p.put("h", "f", 1), "+h7")
	p.stands("h, and the others go", "g a b c d e f h 7/8; x3/4 y4/5 z5/6; ")
	p.is("i on the tip", p.put("i", "h", 1), "+i8")
	p.stands("i, and the others go", "g a b c d e f h i 8/9; ; ")
}

// Of several with the most Work the first that was taken in is the tip; also where all come in at once.
func TestTheFirstOfOneWorkAmongOrphans(t *testing.T) {
	p := start(t, 3, 5)
	p.make("a", "g", 1)
	p.put("x", "a", 4)
	p.put("y", "a", 5)
	p.put("z", "a", 5)
	p.is("a, and three that wait", p.add("a"), "+a1 +y2")
	p.stands("a", "g a y 2/7; x2/6 z2/7; ")
}

func TestRefusedHeaders(t *testing.T) {
	p := start(t, 2, 2)
	p.line("g", "a", "b", "c", "d")
	p.put("s", "c", 1)
	p.put("o", "nothing", 1)
	want := "g a b c d 4/5; s4/5; o"
	p.stands("what was added", want)
	for _, x := range []struct{ name, want string }{
		{"g", "error 6"}, {"a", "error 6"}, {"d", "error 6"}, {"s", "error 6"}, {"o", "error 6"},
	} {
		p.is(x.name+" again", p.add(x.name), x.want)
		p.stands(x.name+" again", want)
	}
	p.is("one on a, too deep", p.put("t", "a", 9), "error 8")
	p.is("one on the genesis, too deep", p.put("u", "g", 9), "error 8")
	p.is("one on what is too deep waits", p.put("v", "t", 9), "")
	p.stands("all of these", want+" v")
	p.is("no room", p.put("w", "nobody", 9), "error 4")
	p.stands("no room", want+" v")
}

// Where several errors hold, the first in P10.1's order is told.
func TestWhichErrorIsTold(t *testing.T) {
	p := start(t, 2, 1)
	p.line("g", "a", "b", "c", "d")
	p.put("o", "nothing", 1)
	p.make("bad", "nobody", 0)
	p.is("a Work that may not be, no Prev, no room", p.add("bad"), "error 1")
	p.make("worse", "g", mostNumber+1)
	p.is("a Work that may not be, on what is too deep", p.add("worse"), "error 1")
	p.is("an orphan, no room", p.add("o"), "error 6")
	p.is("the genesis, no Prev, no room", p.add("g"), "error 6")
	p.is("known, on what is too deep", p.add("b"), "error 6")
	p.is("no Prev, no room", p.put("q", "nobody", 1), "error 4")
	p.stands("all of these", "g a b c d 4/5; ; o")
}

func TestNoChain(t *testing.T) {
	var none *chain.Chain
	for what, c := range map[string]*chain.Chain{"a nil Chain": none, "a Chain that New did not make": {}} {
		for _, h := range []api.Header{{}, {Work: 1}, {Work: -1, Nonce: -1}, {Prev: api.Hash{1}, Work: mostNumber}} {
			if events, e := c.Add(h); e != api.ErrHalt || len(events) != 0 {
				t.Errorf("P10.2: Add to %s: error %d, %d events", what, e, len(events))
			}
		}
		if id, height := c.Tip(); id != (api.Hash{}) || height != 0 {
			t.Errorf("P10.2: Tip of %s: %x, %d", what, id, height)
		}
		for _, height := range []int{-1, 0, 1, 1<<63 - 1, -1 << 63} {
			if id, ok := c.At(height); id != (api.Hash{}) || ok {
				t.Errorf("P10.2: At(%d) of %s: %x, %t", height, what, id, ok)
			}
		}
		for _, id := range []api.Hash{{}, {1}, block.ID(api.Header{Work: 1})} {
			height, high := c.Height(id)
			work, worked := c.Work(id)
			if height != 0 || high || work != 0 || worked || c.Known(id) {
				t.Errorf("P10.2: %x in %s: Height %d %t, Work %d %t, Known %t", id, what, height, high, work, worked, c.Known(id))
			}
		}
		if len(c.Orphans()) != 0 || !c.Halted() {
			t.Errorf("P10.2: %s: %d Orphans, Halted %t", what, len(c.Orphans()), c.Halted())
		}
	}
}
