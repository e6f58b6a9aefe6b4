package chain_test

import (
	"slices"
	"strconv"
	"strings"
	"testing"
)

// names is a line's: of a letter, from 1 to n.
func names(letter string, n int) []string {
	var l []string
	for i := range n {
		l = append(l, letter+strconv.Itoa(i+1)+".")
	}
	return l
}

// told is the events of a change from the last of a way, whose first one stands at a height, to what goes up.
func told(down []string, height int, up ...string) string {
	var l []string
	for i, name := range slices.Backward(down) {
		l = append(l, "-"+name+strconv.Itoa(height+i))
	}
	return strings.Join(append(l, up...), " ")
}

// A Prev at the tip's height less k, and one lower.
func TestHowDeepAPrevMayBe(t *testing.T) {
	for _, k := range []int{1, 2, 3, 50, 99, 100} {
		for _, more := range []int{0, 1, 2, 7} {
			p := start(t, k, 1)
			l := names("a", k+more)
			p.line("g", l...)
			all := append([]string{"g"}, l...)
			what := "k " + strconv.Itoa(k) + ", a tip at " + strconv.Itoa(len(l))
			way := strings.Join(all, " ") + " " + strconv.Itoa(k+more) + "/" + strconv.Itoa(k+more+1)
			if more > 0 {
				p.is(what+", one too deep", p.put("x", all[more-1], mostNumber), "error 8")
				p.is(what+", on the genesis", p.put("y", "g", mostNumber), "error 8")
			}
			p.stands(what, way+"; ; ")
			p.is(what+", one just as deep", p.put("s", all[more], 1), "")
			p.is(what+", one just as deep, better", p.put("z", all[more], mostNumber), told(all[more+1:], more+1, "+z"+strconv.Itoa(more+1)))
			if p.c.Halted() {
				t.Errorf("P10.1: %s: halted, as %d are disconnected", what, k)
			}
		}
	}
}

// Nothing is too deep while the tip is not above k.
func TestNothingIsTooDeepBelowK(t *testing.T) {
	p := start(t, 3, 0)
	p.is("on the genesis", p.put("x", "g", 1), "+x1")
	p.line("x", "a", "b")
	p.is("on the genesis", p.put("y", "g", 1), "")
	p.line("b", "c")
	p.is("on the genesis", p.put("z", "g", 1), "error 8")
	p.is("one higher", p.put("w", "x", 1), "")
}

// A branch that leaves the chain one lower than the tip's less k is known still, but the tip can't change to it: k, and k + 1, that would be disconnected.
func TestHalt(t *testing.T) {
	for _, k := range []int{1, 2, 3, 10, 99, 100} {
		for _, deeper := range []int{0, 1} {
			p := start(t, k, 0)
			l := names("a", k)
			p.line("g", l...)
			p.put("s", "g", 1)
			all := append([]string{"g"}, l...)
			if deeper == 1 {
				p.line(all[k], "top")
				all = append(all, "top")
			}
			way := strings.Join(all, " ") + " " + strconv.Itoa(k+deeper) + "/" + strconv.Itoa(k+deeper+1)
			what := "k " + strconv.Itoa(k) + ", " + strconv.Itoa(k+deeper) + " to be disconnected"
			p.stands(what, way+"; s1/2; ")
			if deeper == 0 {
				p.is(what, p.put("z", "s", mostNumber), told(l, 1, "+s1", "+z2"))
				p.is(what+", the tip", strings.Fields(p.state())[2], "z")
				continue
			}
			p.is(what, p.put("z", "s", mostNumber), "error 9")
			p.stands(what, way+"; s1/2 z2/"+strconv.Itoa(2+mostNumber)+"; ; halted")
		}
	}
}

// What is told behind a halt: all as it was, with what was taken in; nothing is added any more.
func TestBehindAHalt(t *testing.T) {
	p := start(t, 2, 4)
	p.line("g", "a", "b")
	p.is("s beside", p.put("s", "g", 1), "")
	p.line("b", "c")
	p.make("u", "s", 1)
	p.put("w", "u", 5)
	p.put("v", "u", 1)
	p.put("o", "nothing", 1)
	p.stands("all that came", "g a b c 3/4; s1/2; w v o")
	p.is("u, with two on it", p.add("u"), "error 9")
	want := "g a b c 3/4; s1/2 u2/3 w3/8 v3/4; o; halted"
	p.stands("u", want)
	p.make("bad", "c", 0)
	p.make("d", "c", 1)
	p.make("x", "w", 1)
	p.make("y", "g", 1)
	p.make("p", "nobody", 1)
	for _, name := range []string{"bad", "d", "x", "y", "p", "g", "a", "c", "s", "u", "w", "v", "o", "d"} {
		p.is(name+" behind a halt", p.add(name), "error 9")
		p.stands(name+" behind a halt", want)
	}
}

// A halt comes with the change, not ahead of it: as much Work is not more, and a better one within k goes ahead.
func TestHaltJustOfTheBest(t *testing.T) {
	p := start(t, 2, 4)
	p.line("g", "a", "b")
	p.is("s beside", p.put("s", "g", 1), "")
	p.line("b", "c")
	p.is("as much Work", p.put("u", "s", 2), "")
	p.stands("as much Work", "g a b c 3/4; s1/2 u2/4; ")
	p.is("d on b, better than c", p.put("d", "b", 5), "-c3 +d3")
	p.stands("d", "g a b d 3/8; s1/2 c3/4 u2/4; ")
	p.make("x", "u", 1)
	p.put("y", "x", 9)
	p.put("z", "e", 9)
	p.make("e", "d", 9)
	p.is("x, on which the best one waits", p.add("x"), "error 9")
	p.stands("x", "g a b d 3/8; s1/2 c3/4 u2/4 x3/5 y4/14; z; halted")
}

// What is known no more behind a change of the tip: what is not on the chain and lower than the tip's height less k, and what stands on that, however high.
func TestWhatIsKnownNoMore(t *testing.T) {
	p := start(t, 2, 3)
	p.line("g", "a", "b")
	p.put("r", "g", 1)
	p.put("s", "r", 1)
	p.put("t", "a", 1)
	p.stands("the tip at 2", "g a b 2/3; r1/2 s2/3 t2/3; ")
	p.line("b", "c")
	p.put("u", "t", 1)
	p.put("v", "b", 1)
	p.stands("the tip at 3: nothing is below 1", "g a b c 3/4; r1/2 s2/3 t2/3 u3/4 v3/4; ")
	p.line("c", "d")
	p.stands("the tip at 4: r is below 2, s stands on it", "g a b c d 4/5; t2/3 u3/4 v3/4; ")
	p.put("w", "v", 1)
	p.line("d", "e")
	p.stands("the tip at 5: t is below 3, u stands on it", "g a b c d e 5/6; v3/4 w4/5; ")
	p.line("e", "f")
	p.stands("the tip at 6: v is below 4, w stands on it", "g a b c d e f 6/7; ; ")
	p.is("r again", p.add("r"), "error 8")
	p.is("s again", p.add("s"), "")
	p.is("w again", p.add("w"), "")
	p.stands("all of these", "g a b c d e f 6/7; ; s w")
}

// A tall branch of little Work goes as a whole, with what leaves it, when its foot does; what waits stays.
func TestATallBranchGoesWithItsFoot(t *testing.T) {
	p := start(t, 2, 3)
	p.put("a", "g", 1000)
	p.put("b", "a", 1000)
	p.line("g", names("s", 30)...)
	p.line("s7.", names("u", 20)...)
	p.line("u9.", names("v", 5)...)
	p.put("x", "g", 1)
	p.put("y", "a", 1)
	p.put("o", "s99.", 1)
	p.is("c", p.put("c", "b", 1), "+c3")
	p.is("what is beside the chain at 3", strings.Join([]string{p.numbers("s30."), p.numbers("u20."), p.numbers("v5."), p.numbers("x"), p.numbers("y")}, " "), "30/31 27/28 21/22 1/2 2/1002")
	p.is("d", p.put("d", "c", 1), "+d4")
	p.stands("d", "g a b c d 4/2003; y2/1002; o")
	p.is("one on what is known no more", p.put("z", "s30.", 1), "")
	p.stands("z", "g a b c d 4/2003; y2/1002; o z")
}

// A tip that is lower than the one it follows lets things in lower down, and they go again when it rises.
func TestALowerTipLetsInLowerDown(t *testing.T) {
	p := start(t, 3, 3)
	p.line("g", "a", "b", "c", "d", "e", "f")
	p.is("on b, with the tip at 6", p.put("s", "b", 1), "error 8")
	p.is("x on c, better than f", p.put("x", "c", 9), "-f6 -e5 -d4 +x4")
	p.stands("a tip at 4", "g a b c x 4/13; d4/5 e5/6 f6/7; ")
	p.is("on b, with the tip at 4", p.add("s"), "")
	p.is("on a, with the tip at 4", p.put("u", "a", 1), "")
	p.is("on u, with the tip at 4", p.put("v", "u", 1), "")
	p.is("on the genesis, with the tip at 4", p.put("r", "g", 1), "error 8")
	p.stands("three lower down", "g a b c x 4/13; d4/5 e5/6 f6/7 s3/4 u2/3 v3/4; ")
	p.is("y on x", p.put("y", "x", 1), "+y5")
	p.stands("a tip at 5: nothing is below 2", "g a b c x y 5/14; d4/5 e5/6 f6/7 s3/4 u2/3 v3/4; ")
	p.is("z on y", p.put("z", "y", 1), "+z6")
	p.stands("a tip at 6: u is below 3, v stands on it", "g a b c x y z 6/15; d4/5 e5/6 f6/7 s3/4; ")
	p.is("w on z", p.put("w", "z", 1), "+w7")
	p.stands("a tip at 7: s is below 4", "g a b c x y z w 7/16; d4/5 e5/6 f6/7; ")
	p.is("h on w", p.put("h", "w", 1), "+h8")
	p.stands("a tip at 8: d is below 5, all else stands on it", "g a b c x y z w h 8/17; ; ")
}

// What left the chain lower down, behind a lower tip, can be what the chain's own goes for: it goes then.
func TestALowerTipTwice(t *testing.T) {
	p := start(t, 3, 3)
	p.line("g", "a", "b", "c", "d", "e", "f")
	p.put("x", "c", 9)
	p.is("u on a", p.put("u", "a", 1), "")
	p.is("v on u, better than x", p.put("v", "u", 20), "-x4 -c3 -b2 +u2 +v3")
	p.stands("a tip at 3", "g a u v 3/23; b2/3 c3/4 d4/5 e5/6 f6/7 x4/13; ")
	p.line("v", "w", "y")
	p.stands("a tip at 5", "g a u v w y 5/25; b2/3 c3/4 d4/5 e5/6 f6/7 x4/13; ")
	p.line("y", "z")
	p.stands("a tip at 6: b is below 3, all else stands on it", "g a u v w y z 6/26; ; ")
}

// A header that is known no more may come in again, if what it stands on is not too deep by then.
func TestKnownNoMoreComesInAgain(t *testing.T) {
	p := start(t, 3, 3)
	p.line("g", "a", "b", "c")
	p.is("s on a", p.put("s", "a", 1), "")
	p.is("u on s", p.put("u", "s", 1), "")
	p.line("c", "d", "e", "f")
	p.stands("a tip at 6", "g a b c d e f 6/7; ; ")
	p.is("s again", p.add("s"), "error 8")
	p.is("u again", p.add("u"), "")
	p.is("x on c", p.put("x", "c", 9), "-f6 -e5 -d4 +x4")
	p.is("s once more", p.add("s"), "")
	p.stands("s once more", "g a b c x 4/13; s2/3 u3/4 d4/5 e5/6 f6/7; ")
	p.is("s once again", p.add("s"), "error 6")
}
