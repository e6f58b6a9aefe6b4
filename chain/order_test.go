package chain_test

import (
	"math/rand"
	"slices"
	"strconv"
	"strings"
	"testing"

	"coracle/api"
	"coracle/chain"
)

// orders calls f with each order of l.
func orders(l []string, f func(l []string)) {
	var from func(i int)
	from = func(i int) {
		if i == len(l) {
			f(slices.Clone(l))
			return
		}
		for j := i; j < len(l); j++ {
			l[i], l[j] = l[j], l[i]
			from(i + 1)
			l[i], l[j] = l[j], l[i]
		}
	}
	from(0)
}

// follower is who hears of events alone, and keeps the way that they tell.
type follower struct {
	t   *testing.T
	way []api.Hash
}

// hear fails where an event can't be: what goes is the last one, what comes stands on it.
func (f *follower) hear(events []chain.Event) {
	f.t.Helper()
	up := false
	for _, v := range events {
		last := len(f.way) - 1
		switch {
		case v.Kind == chain.Connect && v.Height == last+1:
			f.way = append(f.way, v.ID)
			up = true
		case v.Kind == chain.Disconnect && v.Height == last && v.ID == f.way[last] && !up:
			f.way = f.way[:last]
		default:
			f.t.Fatalf("P10.1: an event of kind %d at %d, behind %d that stand", v.Kind, v.Height, len(f.way))
		}
	}
}

// agrees fails, unless the way that was heard of is the chain's.
func (f *follower) agrees(what string, c *chain.Chain) {
	f.t.Helper()
	for height, id := range f.way {
		if at, ok := c.At(height); !ok || at != id {
			f.t.Fatalf("P10.1: %s: another one was told at %d", what, height)
		}
	}
	if _, top := c.Tip(); top != len(f.way)-1 {
		f.t.Fatalf("P10.1: %s: the tip is at %d, %d were told", what, top, len(f.way))
	}
}

// Headers of one branch come in any order, and make the same chain.
func TestOneBranchInAnyOrder(t *testing.T) {
	all := []string{"a", "b", "c", "d", "e", "f"}
	orders(slices.Clone(all), func(l []string) {
		p := start(t, 1, 5)
		heard := &follower{t, []api.Hash{p.id("g")}}
		prev := "g"
		for i, name := range all {
			p.make(name, prev, i+1)
			prev = name
		}
		for _, name := range l {
			events, e := p.c.Add(p.heads[name])
			if e != api.OK {
				t.Fatalf("P10.1: %v: %s: error %d", l, name, e)
			}
			heard.hear(events)
			heard.agrees(strings.Join(l, " "), p.c)
		}
		p.stands(strings.Join(l, " "), "g a b c d e f 6/22; ; ")
	})
}

// Two branches in any order: the tip is the better one's in each, as nothing is too deep.
func TestTwoBranchesInAnyOrder(t *testing.T) {
	orders([]string{"a", "b", "c", "x", "y", "z"}, func(l []string) {
		p := start(t, 3, 6)
		heard := &follower{t, []api.Hash{p.id("g")}}
		for _, s := range []string{"a g 2", "b a 2", "c b 2", "x g 1", "y x 1", "z y 5"} {
			of := strings.Fields(s)
			work, _ := strconv.Atoi(of[2])
			p.make(of[0], of[1], work)
		}
		for _, name := range l {
			events, e := p.c.Add(p.heads[name])
			if e != api.OK {
				t.Fatalf("P10.1: %v: %s: error %d", l, name, e)
			}
			heard.hear(events)
			heard.agrees(strings.Join(l, " "), p.c)
		}
		p.stands(strings.Join(l, " "), "g x y z 3/8; a1/3 b2/5 c3/7; ")
	})
}

// A long line that comes from its end, as many as may wait at once.
func TestALongLineFromItsEnd(t *testing.T) {
	p := start(t, 1, mostOf)
	l := names("a", mostOf+1)
	for i, name := range l {
		p.make(name, append([]string{"g"}, l...)[i], 1)
	}
	for i := len(l) - 1; i > 0; i-- {
		p.is(l[i], p.add(l[i]), "")
	}
	var up []string
	for i, name := range l {
		up = append(up, "+"+name+strconv.Itoa(i+1))
	}
	p.is("the first one", p.add(l[0]), strings.Join(up, " "))
	p.stands("the first one", "g "+strings.Join(l, " ")+" 101/102; ; ")
}

// Two Chains that are told the same tell the same; and what is done with one is nothing to the other.
func TestChainsHaveNothingInCommon(t *testing.T) {
	r := rand.New(rand.NewSource(10))
	one, other, third := start(t, 3, 4), start(t, 3, 4), start(t, 3, 4)
	l := draws(one, r, 60)
	shuffle(r, l)
	for _, name := range one.order[1:] {
		other.name(name, one.heads[name])
		third.name(name, one.heads[name])
	}
	for _, name := range l {
		got, want := one.add(name), other.add(name)
		if got != want || one.state() != other.state() {
			t.Fatalf("two Chains were told the same; of %s\n one tells %s, %s\nthe other %s, %s", name, got, one.state(), want, other.state())
		}
	}
	third.stands("nothing", "g 0/1; ; ")
}
