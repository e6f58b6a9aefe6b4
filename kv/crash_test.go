package kv_test

import (
	"fmt"
	"math/rand"
	"slices"
	"strings"
	"testing"

	"coracle/api"
	"coracle/file"
	"coracle/kv"
)

// act is a Put, or a Compact if it has no batch.
type act []kv.Pair

// do does it.
func (a act) do(s *kv.Store) api.Errno {
	if a == nil {
		return s.Compact()
	}
	return s.Put(a)
}

// String is it in words.
func (a act) String() string {
	if a == nil {
		return "Compact"
	}
	return "Put(" + shown(a) + ")"
}

// run does acts on a store with these pairs till one is told ErrOff, and tells the pairs as the last one that was told OK left them, and as the one that was told ErrOff would have.
func run(t *testing.T, s *kv.Store, begin []kv.Pair, acts []act) (was, now []kv.Pair) {
	t.Helper()
	was = begin
	for i, a := range acts {
		now = after(was, a)
		e := a.do(s)
		if e == api.ErrOff {
			if !s.Dead() || s.Batches() != i {
				t.Errorf("P9.1: behind ErrOff: Dead %t, Batches %d, want %d", s.Dead(), s.Batches(), i)
			}
			return was, now
		}
		told(t, a.String(), e, api.OK)
		was = now
	}
	return was, was
}

// survives fails, unless a store opens on what a crash left, with the pairs as one of these, again and again alike, and goes on; it tells which.
func survives(t *testing.T, what string, f *file.FS, was, now []kv.Pair) []kv.Pair {
	t.Helper()
	s, e := kv.Open(f, "kv")
	if e != api.OK {
		t.Fatalf("P9.2: %s: Open: error %d", what, e)
	}
	got := s.All()
	if !slices.Equal(got, was) && !slices.Equal(got, now) {
		t.Fatalf("P9.2: %s: All: %s\nwant %s\nor %s", what, shown(got), shown(was), shown(now))
	}
	for _, g := range []*file.FS{f, f.Crash(), f.Crash(1, 1), f.Crash(-1, -1)} {
		if again := open(t, g, "kv").All(); !slices.Equal(again, got) {
			t.Fatalf("P9.2: %s, opened twice: All: %s\nwant %s", what, shown(again), shown(got))
		}
	}
	g := f.Crash()
	m := open(t, g, "kv")
	batch := []kv.Pair{pair("z", "z"), gone("a")}
	put(t, m, batch...)
	holds(t, what+", then Put", open(t, g.Crash(), "kv"), after(got, batch))
	compact(t, m)
	holds(t, what+", then Compact", open(t, g.Crash(), "kv"), after(got, batch))
	return got
}

// picks are those of a crash: none, nothing, all, and parts.
func picks() [][]int {
	l := [][]int{nil, {0, 0}, {-1, -1}, {0, -1}, {-1, 0}}
	for n := 1; n < 120; n += 6 {
		l = append(l, []int{n, n / 2}, []int{-n, n})
	}
	return l
}

// someActs is Puts and Compacts in each order, each of which makes a difference but the Compacts.
func someActs() []act {
	return []act{
		{pair("a", "1"), pair("b", "2")}, {gone("a"), pair("c", "3"), gone("none")}, nil,
		{pair("a", "4"), gone("b")}, nil, nil, {pair("d", strings.Repeat("d", 300)), pair("d", "5"), pair("e", "")},
		{gone("c"), gone("d")}, {gone("a"), gone("e")}, nil, {pair("f", strings.Repeat("f", 300))},
	}
}

// Wherever the power goes within Puts and Compacts, and whatever a crash leaves.
func TestCrashWithinActs(t *testing.T) {
	for cut := 0; ; cut++ {
		f := file.New()
		s := open(t, f, "kv")
		f.Cut(cut)
		was, now := run(t, s, nil, someActs())
		for _, p := range picks() {
			survives(t, fmt.Sprintf("Cut(%d), Crash%v", cut, p), f.Crash(p...), was, now)
		}
		holds(t, fmt.Sprintf("Cut(%d), the store itself", cut), s, was)
		if !s.Dead() {
			break
		}
	}
}

// Wherever the power goes within the Open that follows a crash, and within the one that follows that.
func TestCrashWithinOpen(t *testing.T) {
	for cut := 0; ; cut++ {
		f := file.New()
		s := open(t, f, "kv")
		f.Cut(cut)
		was, now := run(t, s, nil, someActs())
		for _, p := range [][]int{nil, {-1, -1}, {7, 3}, {40, 41}} {
			for first := range 6 {
				for second := range 6 {
					g := f.Crash(p...)
					g.Cut(first)
					kv.Open(g, "kv")
					g = g.Crash(p...)
					g.Cut(second)
					kv.Open(g, "kv")
					survives(t, fmt.Sprintf("Cut(%d), Crash%v, Open within %d acts, Crash, Open within %d, Crash", cut, p, first, second), g.Crash(p...), was, now)
				}
			}
		}
		if !s.Dead() {
			break
		}
	}
}

// Wherever the power goes within the first Open of all.
func TestCrashWithinTheFirstOpen(t *testing.T) {
	for cut := range 10 {
		f := file.New()
		f.Cut(cut)
		s, e := kv.Open(f, "kv")
		if e != api.OK && (e != api.ErrOff || s != nil) {
			t.Errorf("P9.2: Cut(%d): Open: %v, error %d", cut, s, e)
		}
		var was, now []kv.Pair
		if e == api.OK {
			was, now = run(t, s, nil, someActs()[:2])
		}
		for _, p := range picks() {
			survives(t, fmt.Sprintf("Cut(%d) ahead of Open, Crash%v", cut, p), f.Crash(p...), was, now)
		}
	}
}

// What was told OK lasts, and an act that never came to the power leaves nothing.
func TestCrashBetweenActs(t *testing.T) {
	acts := someActs()
	for n := range len(acts) + 1 {
		f := file.New()
		s := open(t, f, "kv")
		was, _ := run(t, s, nil, acts[:n])
		for _, p := range picks() {
			survives(t, fmt.Sprintf("%d acts, Crash%v", n, p), f.Crash(p...), was, was)
		}
		f.Cut(0)
		if n < len(acts) && acts[n].do(s) != api.ErrOff {
			t.Errorf("P9.2: %s without power: not refused", acts[n])
		}
		for _, p := range picks() {
			survives(t, fmt.Sprintf("%d acts, then no power, Crash%v", n, p), f.Crash(p...), was, was)
		}
	}
}

// A Put of which all was left is there as a whole; of which a part was left, not at all.
func TestPutIsAtOnce(t *testing.T) {
	f := file.New()
	s := open(t, f, "kv")
	was := []kv.Pair{pair("a", "1"), pair("b", "2")}
	put(t, s, was...)
	old, _ := f.Read("kv")
	f.Cut(1)
	batch := []kv.Pair{pair("a", "3"), gone("b"), pair("c", "4")}
	told(t, "Put without power for all of it", s.Put(batch), api.ErrOff)
	b, _ := f.Read("kv")
	if len(b) <= len(old) {
		t.Fatalf("P9.2: a Put cut short at its second act has left nothing")
	}
	for left := range len(b) - len(old) {
		survives(t, fmt.Sprintf("%d bytes left", left), f.Crash(left), was, was)
	}
	now := after(was, batch)
	survives(t, "all bytes left", f.Crash(-1), now, now)
}

// A Compact of more than one record changes nothing that is told, wherever it is cut short.
func TestCompactOfMuchCutShort(t *testing.T) {
	var want []kv.Pair
	for i := range 9 {
		want = append(want, pair(fmt.Sprint("big", i), strings.Repeat(string(rune('a'+i)), longValue)))
	}
	for cut := range 5 {
		f := file.New()
		s := open(t, f, "kv")
		for _, p := range want {
			put(t, s, p, pair("a", p.Key))
		}
		put(t, s, gone("a"))
		f.Cut(cut)
		e := s.Compact()
		if e != api.OK && e != api.ErrOff {
			t.Errorf("P9.2: Compact behind Cut(%d): error %d", cut, e)
		}
		for _, p := range [][]int{nil, {-1, -1}, {1 << 20, 1 << 20}} {
			survives(t, fmt.Sprintf("Compact within %d acts, Crash%v", cut, p), f.Crash(p...), want, want)
		}
	}
}

// drawnAct is an act on a few keys.
func drawnAct(r *rand.Rand) act {
	if r.Intn(4) == 0 {
		return nil
	}
	batch := act{}
	for range 1 + r.Intn(4) {
		key := string(rune('a' + r.Intn(6)))
		if r.Intn(3) == 0 {
			batch = append(batch, gone(key))
			continue
		}
		batch = append(batch, pair(key, strings.Repeat(string(rune('A'+r.Intn(26))), r.Intn(5)*r.Intn(5))))
	}
	return batch
}

// Runs of acts, Cuts, crashes and Opens, over the same files again and again.
func TestCrashRuns(t *testing.T) {
	r := rand.New(rand.NewSource(92))
	for n := range 300 {
		f := file.New()
		var was []kv.Pair
		for life := range 8 {
			what := fmt.Sprintf("run %d, life %d", n, life)
			f.Cut(r.Intn(40))
			now := was
			if s, e := kv.Open(f, "kv"); e == api.OK {
				if got := s.All(); !slices.Equal(got, was) {
					t.Fatalf("P9.2: %s: All: %s, want %s", what, shown(got), shown(was))
				}
				var acts []act
				for range r.Intn(12) {
					acts = append(acts, drawnAct(r))
				}
				was, now = run(t, s, was, acts)
				holds(t, what, s, was)
			}
			f = f.Crash(r.Intn(90)-45, r.Intn(90)-45)
			was = survives(t, what, f.Crash(), was, now)
		}
	}
}
