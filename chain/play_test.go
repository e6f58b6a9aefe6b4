package chain_test

import (
	"slices"
	"strconv"
	"strings"
	"testing"

	"coracle/api"
	"coracle/block"
	"coracle/chain"
	"coracle/sha"
)

// The greatest Work and Nonce, k and orphans.
const (
	mostNumber = 1 << 40
	mostOf     = 100
)

// play is a chain, and headers by short names: g is the genesis.
type play struct {
	t     *testing.T
	c     *chain.Chain
	heads map[string]api.Header
	ids   map[string]api.Hash
	names map[api.Hash]string
	order []string // the names, as they were made
}

// start is a chain of a genesis of Work 1.
func start(t *testing.T, k, orphans int) *play {
	t.Helper()
	p := &play{t: t, heads: map[string]api.Header{}, ids: map[string]api.Hash{}, names: map[api.Hash]string{}}
	p.make("g", "", 1)
	c, e := chain.New(p.heads["g"], k, orphans)
	if e != api.OK || c == nil {
		t.Fatalf("P10.1: New with k %d, %d orphans: error %d", k, orphans, e)
	}
	p.c = c
	return p
}

// make is a header of a name on another one; of one that was not made, on what nobody knows.
func (p *play) make(name, prev string, work int) {
	p.t.Helper()
	h := api.Header{Prev: sha.Sum([]byte(prev)), Root: sha.Sum([]byte(name)), Work: work}
	if below, there := p.ids[prev]; there {
		h.Prev = below
	}
	p.name(name, h)
}

// name gives a header its name.
func (p *play) name(name string, h api.Header) {
	p.t.Helper()
	if _, there := p.heads[name]; there {
		p.t.Fatalf("two headers are named %s", name)
	}
	p.heads[name] = h
	p.ids[name] = block.ID(h)
	p.names[p.ids[name]] = name
	p.order = append(p.order, name)
}

// id is a header's.
func (p *play) id(name string) api.Hash {
	p.t.Helper()
	id, there := p.ids[name]
	if !there {
		p.t.Fatalf("no header is named %s", name)
	}
	return id
}

// add adds a header that was made: what is told, in short.
func (p *play) add(name string) string {
	p.t.Helper()
	p.id(name)
	events, e := p.c.Add(p.heads[name])
	return p.told(events, e)
}

// put makes a header, and adds it.
func (p *play) put(name, prev string, work int) string {
	p.t.Helper()
	p.make(name, prev, work)
	return p.add(name)
}

// line makes and adds headers of Work 1, one on the other, each of which is OK.
func (p *play) line(prev string, names ...string) {
	p.t.Helper()
	for _, name := range names {
		if got := p.put(name, prev, 1); strings.HasPrefix(got, "error") {
			p.t.Fatalf("%s on %s: %s", name, prev, got)
		}
		prev = name
	}
}

// told is what Add tells, in short: -b2 +c2, or an error.
func (p *play) told(events []chain.Event, e api.Errno) string {
	if e != api.OK {
		return strings.Join(append([]string{"error " + strconv.Itoa(int(e))}, p.short(events)...), " ")
	}
	return strings.Join(p.short(events), " ")
}

func (p *play) short(events []chain.Event) []string {
	var l []string
	for _, v := range events {
		sign := map[int]string{chain.Connect: "+", chain.Disconnect: "-"}[v.Kind]
		l = append(l, sign+p.names[v.ID]+strconv.Itoa(v.Height))
	}
	return l
}

// way is the chain, from the genesis to the tip.
func (p *play) way() string {
	var l []string
	for height := 0; ; height++ {
		id, ok := p.c.At(height)
		if !ok {
			return strings.Join(l, " ")
		}
		l = append(l, p.names[id])
	}
}

// beside is who is known, but not on the chain: each with its height, a slash, and its Work, as they were made.
func (p *play) beside() string {
	var l []string
	way := strings.Fields(p.way())
	for _, name := range p.order {
		if p.c.Known(p.id(name)) && !slices.Contains(way, name) {
			l = append(l, name+p.numbers(name))
		}
	}
	return strings.Join(l, " ")
}

// numbers is the height and the Work of a header.
func (p *play) numbers(name string) string {
	height, _ := p.c.Height(p.id(name))
	work, _ := p.c.Work(p.id(name))
	return strconv.Itoa(height) + "/" + strconv.Itoa(work)
}

// orphans is who waits.
func (p *play) orphans() string {
	var l []string
	for _, id := range p.c.Orphans() {
		l = append(l, p.names[id])
	}
	return strings.Join(l, " ")
}

// state is all that the chain tells, in short: the chain, the tip's height and Work; who is known beside; who waits; whether it is halted.
func (p *play) state() string {
	p.t.Helper()
	p.sound()
	id, _ := p.c.Tip()
	l := []string{p.way() + " " + p.numbers(p.names[id]), p.beside(), p.orphans()}
	if p.c.Halted() {
		l = append(l, "halted")
	}
	return strings.Join(l, "; ")
}

// is fails, unless what was told is what is wanted.
func (p *play) is(what, got, want string) {
	p.t.Helper()
	if got != want {
		p.t.Errorf("P10.1: %s:\n got %s\nwant %s", what, got, want)
	}
}

// stands fails, unless the state is what is wanted.
func (p *play) stands(what, want string) {
	p.t.Helper()
	p.is("the state behind "+what, p.state(), want)
}

// sound fails, where two calls tell what can't both be.
func (p *play) sound() {
	p.t.Helper()
	tip, top := p.c.Tip()
	if id, ok := p.c.At(top); !ok || id != tip {
		p.t.Errorf("P10.2: At(%d) is not the tip", top)
	}
	for _, height := range []int{-1, top + 1, top + 2, -1 << 63, 1<<63 - 1} {
		if id, ok := p.c.At(height); ok || id != (api.Hash{}) {
			p.t.Errorf("P10.2: At(%d) of a tip at %d: %x, %t", height, top, id, ok)
		}
	}
	for height := range top + 1 {
		id, ok := p.c.At(height)
		if got, there := p.c.Height(id); !ok || !there || got != height {
			p.t.Errorf("P10.2: Height of who stands at %d: %d, %t", height, got, there)
		}
	}
	waiting := p.c.Orphans()
	most, _ := p.c.Work(tip)
	for _, name := range p.order {
		id := p.id(name)
		height, high := p.c.Height(id)
		work, worked := p.c.Work(id)
		known := p.c.Known(id)
		if high != known || worked != known || !known && (height != 0 || work != 0) {
			p.t.Errorf("P10.2: %s: Known %t, Height %d %t, Work %d %t", name, known, height, high, work, worked)
		}
		if known && slices.Contains(waiting, id) {
			p.t.Errorf("P10.2: %s is known, and waits", name)
		}
		if known && work > most && !p.c.Halted() {
			p.t.Errorf("P10.3: %s has Work %d, the tip %d", name, work, most)
		}
		if known && name != "g" {
			p.standsOn(name, height, work)
		}
	}
}

// standsOn fails, unless what a known header stands on is known, one lower, with its own Work less.
func (p *play) standsOn(name string, height, work int) {
	p.t.Helper()
	h := p.heads[name]
	under, ok := p.c.Height(h.Prev)
	rest, _ := p.c.Work(h.Prev)
	if !ok || under != height-1 || rest != work-h.Work {
		p.t.Errorf("P10.2: %s at %d with Work %d, of its own %d, stands on height %d, Work %d, known %t", name, height, work, h.Work, under, rest, ok)
	}
}
