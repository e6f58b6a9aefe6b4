package chain_test

import (
	"strconv"
	"strings"
	"testing"
)

func TestOrphanWaits(t *testing.T) {
	p := start(t, 3, 3)
	p.make("a", "g", 1)
	p.is("b ahead of a", p.put("b", "a", 1), "")
	p.stands("b", "g 0/1; ; b")
	p.is("b again", p.add("b"), "error 6")
	p.is("a", p.add("a"), "+a1 +b2")
	p.stands("a", "g a b 2/3; ; ")
	p.is("b again, known by now", p.add("b"), "error 6")
	p.is("c on b", p.put("c", "b", 1), "+c3")
	p.stands("c", "g a b c 3/4; ; ")
}

// What an orphan has on its own makes it no better while it waits.
func TestOrphanHasNoWork(t *testing.T) {
	p := start(t, 3, 3)
	p.make("a", "g", 1)
	p.is("b ahead of a", p.put("b", "a", mostNumber), "")
	p.is("c on the genesis", p.put("c", "g", 2), "+c1")
	p.stands("c", "g c 1/3; ; b")
	p.is("a, of less Work, but with b on it", p.add("a"), "-c1 +a1 +b2")
	p.stands("a", "g a b 2/"+strconv.Itoa(2+mostNumber)+"; c1/3; ")
}

// What stands on the genesis' own Prev has none in the chain.
func TestOrphanOnTheGenesisPrev(t *testing.T) {
	p := start(t, 3, 3)
	h := p.heads["g"]
	h.Nonce = 1
	p.name("o", h)
	p.is("one beside the genesis", p.add("o"), "")
	p.stands("one beside the genesis", "g 0/1; ; o")
}

func TestOrphansComeInBesideTheChain(t *testing.T) {
	p := start(t, 5, 5)
	p.line("g", "a", "b", "c", "d")
	p.make("x", "b", 1)
	p.make("y", "x", 1)
	p.put("z", "y", 1)
	p.add("y")
	p.stands("two that wait", "g a b c d 4/5; ; z y")
	p.is("x", p.add("x"), "-d4 -c3 +x3 +y4 +z5")
	p.stands("x", "g a b x y z 5/6; c3/4 d4/5; ")
	p.make("e", "d", 1)
	p.make("f", "e", 2)
	p.put("h", "f", 1)
	p.put("i", "e", 1)
	p.is("e, with just one on it", p.add("e"), "-z5 -y4 -x3 +c3 +d4 +e5 +i6")
	p.stands("e", "g a b c d e i 6/7; x3/4 y4/5 z5/6; h")
}

// Several wait for one, and each for another: all come in at once, and just these.
func TestOrphansOnOrphans(t *testing.T) {
	p := start(t, 9, 9)
	for _, s := range []string{"a g", "b a", "c b", "d c", "e d", "x nothing"} {
		of := strings.Fields(s)
		p.make(of[0], of[1], 1)
	}
	p.make("y", "x", 1)
	for _, name := range []string{"e", "x", "c", "y", "d", "b"} {
		p.is(name+" waits", p.add(name), "")
	}
	p.stands("six that wait", "g 0/1; ; e x c y d b")
	p.is("a", p.add("a"), "+a1 +b2 +c3 +d4 +e5")
	p.stands("a", "g a b c d e 5/6; ; x y")
}

// The first one whose Prev is known comes in, and then all are gone over from the first one again: of one Work, who is taken in first tells.
func TestOrphansAreGoneOverFromTheFirst(t *testing.T) {
	for _, x := range []struct{ order, want, state string }{
		{"x z y", "+h1 +z2 +x3", "g h z x 3/4; y2/4; "},
		{"x y z", "+h1 +y2", "g h y 2/4; z2/3 x3/4; "},
		{"y x z", "+h1 +y2", "g h y 2/4; z2/3 x3/4; "},
		{"y z x", "+h1 +y2", "g h y 2/4; z2/3 x3/4; "},
		{"z x y", "+h1 +z2 +x3", "g h z x 3/4; y2/4; "},
		{"z y x", "+h1 +y2", "g h y 2/4; z2/3 x3/4; "},
	} {
		p := start(t, 5, 5)
		p.make("h", "g", 1)
		p.make("z", "h", 1)
		p.make("x", "z", 1)
		p.make("y", "h", 2)
		for _, name := range strings.Fields(x.order) {
			p.is(name+" waits", p.add(name), "")
		}
		// x on z on h has as much Work as y on h.
		p.is("h, with "+x.order+" waiting", p.add("h"), x.want)
		p.stands(x.order, x.state)
	}
}

// Two of one Work that wait for one: the first that came is the tip.
func TestOrphansComeInAsTheyCame(t *testing.T) {
	for _, order := range []string{"x y", "y x"} {
		p := start(t, 5, 5)
		p.make("h", "g", 1)
		p.make("x", "h", 1)
		p.make("y", "h", 1)
		for _, name := range strings.Fields(order) {
			p.add(name)
		}
		p.is("h, with "+order+" waiting", p.add("h"), "+h1 +"+order[:1]+"2")
		p.is("one on the other", p.put("z", order[2:], 1), "-"+order[:1]+"2 +"+order[2:]+"2 +z3")
	}
}

// As many as may be, and one more, for each number of them; a place that is left is there again.
func TestRoomForOrphans(t *testing.T) {
	for _, room := range []int{0, 1, 2, 99, 100} {
		p := start(t, 2, room)
		p.make("h", "g", 1)
		var l []string
		for n := range room {
			l = append(l, "o"+strconv.Itoa(n))
			p.is("one that may wait", p.put(l[n], "h", 1), "")
		}
		want := strings.Join(l, " ")
		p.is("one more of "+strconv.Itoa(room), p.put("more", "h", 1), "error 4")
		p.is("one more on one that waits", p.put("other", "o0", 1), "error 4")
		p.is("one on the genesis, with all waiting", p.put("s", "g", 1), "+s1")
		p.stands(strconv.Itoa(room)+" that wait", "g s 1/2; ; "+want)
		if room == 0 {
			continue
		}
		p.is("what all wait for", p.add("h"), "-s1 +h1 +o02")
		if p.orphans() != "" {
			t.Errorf("P10.1: of %d that came in, there wait %s", room, p.orphans())
		}
		p.is("one that could not wait", p.add("more"), "")
		p.is("one that may wait again", p.put("again", "nothing", 1), "")
		p.is("what waits", p.orphans(), "again")
	}
}

// An orphan stays, however far the tip goes, also when nothing can come in below it any more.
func TestOrphansStay(t *testing.T) {
	p := start(t, 1, 2)
	p.make("x", "g", 9)
	p.put("y", "x", 9)
	p.put("z", "nothing", 9)
	p.line("g", "a", "b")
	p.is("what y waits for", p.add("x"), "error 8")
	p.line("b", "c", "d")
	p.is("what y waits for", p.add("x"), "error 8")
	p.is("y again", p.add("y"), "error 6")
	p.is("one more", p.put("w", "nothing", 1), "error 4")
	p.stands("a tip far up", "g a b c d 4/5; ; y z")
}

// What came in from those that wait, and is far down below the tip that all of them made, is known no more in the same step; it does not wait any more.
func TestOrphanTooFarDownByThen(t *testing.T) {
	p := start(t, 1, 9)
	for _, s := range []string{"h g", "a h", "b a", "c b", "s h", "u s"} {
		of := strings.Fields(s)
		p.make(of[0], of[1], 1)
	}
	for _, name := range []string{"s", "u", "c", "b", "a"} {
		p.add(name)
	}
	p.is("h", p.add("h"), "+h1 +a2 +b3 +c4")
	p.stands("h", "g h a b c 4/5; ; ")
	p.is("s again", p.add("s"), "error 8")
	p.is("u again", p.add("u"), "")
	p.stands("u again", "g h a b c 4/5; ; u")
}

// The tip changes when all have come in, not one by one: what is low then may be the best one.
func TestOrphansAreTakenInAheadOfTheTip(t *testing.T) {
	p := start(t, 1, 9)
	p.make("h", "g", 1)
	p.make("a", "h", 1)
	p.make("b", "a", 1)
	p.make("c", "b", 1)
	p.make("s", "h", 9)
	for _, name := range []string{"a", "b", "c", "s"} {
		p.add(name)
	}
	p.is("h", p.add("h"), "+h1 +s2")
	p.stands("h", "g h s 2/11; a2/3 b3/4 c4/5; ")
}
