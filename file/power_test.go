package file_test

import (
	"math"
	"strings"
	"testing"

	"coracle/api"
	"coracle/file"
)

// come fails, unless the power comes to just n acts more; these are Appends of nothing to a.
func come(t *testing.T, what string, f *file.FS, n int) {
	t.Helper()
	for i := range n {
		if e := f.Append("a", nil); e != api.OK {
			t.Errorf("P7.2: %s: act %d: error %d, want none", what, i, e)
		}
	}
	for i := range 3 {
		if e := f.Append("a", nil); e != api.ErrOff {
			t.Errorf("P7.2: %s: act %d: error %d, want %d", what, n+i, e, api.ErrOff)
		}
	}
}

func TestCut(t *testing.T) {
	for n, acts := range map[int]int{math.MinInt: 0, -1 << 32: 0, -2: 0, -1: 0, 0: 0, 1: 1, 2: 2, 3: 3, 255: 255, 256: 256, 1000: 1000} {
		f := file.New()
		f.Cut(n)
		come(t, "Cut", f, acts)
		f = with(t, add("a", ""), sync("a"), sync("a"), sync("a"))
		f.Cut(n)
		come(t, "Cut behind four acts", f, acts)
	}
}

func TestNoCut(t *testing.T) {
	for _, n := range []int{1 << 32, 1<<32 + 1, math.MaxInt - 1, math.MaxInt} {
		f := file.New()
		f.Cut(n)
		for i := range 1000 {
			if e := f.Append("a", nil); e != api.OK {
				t.Fatalf("P7.2: Cut(%d): act %d: error %d", n, i, e)
			}
		}
	}
	f := file.New()
	for i := range 100000 {
		if e := f.Append("a", nil); e != api.OK {
			t.Fatalf("P7.1: act %d without a Cut: error %d", i, e)
		}
	}
}

// Each act is one of those that are come to, and each is refused once the power is off, ahead of all else that could be told.
func TestEachActCounts(t *testing.T) {
	acts := append(named("a"), named("none")[1:]...)
	acts = append(acts, named("")...)
	acts = append(acts, rename("a", "a"), truncate("a", 4), truncate("a", -1), add("a", string(make([]byte, bigFile+1))))
	for _, a := range acts {
		f := with(t, add("a", "abc"), sync("a"), add("b", "xy"))
		f.Cut(2)
		a.do(f)
		come(t, "Cut(2), then "+a.what, f, 1)
		before := laid(f)
		play(t, "P7.1", f, step{a, api.ErrOff, before})
	}
}

// What only asks is no act, before and behind the end of the power.
func TestWhatAsksIsNoAct(t *testing.T) {
	f := with(t, add("a", "abc"), sync("a"), add("a", "de"))
	f.Cut(1)
	ask := func() {
		t.Helper()
		b, e := f.Read("a")
		_, none := f.Read("none")
		_, wrong := f.Read("")
		if string(b) != "abcde" || e != api.OK || none != api.ErrNone || wrong != api.ErrNone {
			t.Errorf("P7.2: Read: %q, errors %d, %d, %d", b, e, none, wrong)
		}
		if f.Safe("a") != 3 || f.Safe("none") != -1 || f.Safe("") != -1 || strings.Join(f.Names(), " ") != "a" {
			t.Errorf("P7.2: Safe, Names: %d, %d, %d, %q", f.Safe("a"), f.Safe("none"), f.Safe(""), f.Names())
		}
		if got := laid(f.Crash(1)); got != "a=abcd|" {
			t.Errorf("P7.2: Crash(1): %s", got)
		}
	}
	ops := f.Ops()
	ask()
	ask()
	if f.Ops() != ops {
		t.Errorf("P7.2: Ops behind what asks: %d, want %d", f.Ops(), ops)
	}
	come(t, "what asks", f, 1)
	ask()
}

// A later Cut stands in place of the one before, as long as no act was missed.
func TestCutAgain(t *testing.T) {
	f := file.New()
	f.Cut(2)
	f.Cut(1)
	come(t, "Cut(2), Cut(1)", f, 1)

	f = file.New()
	f.Cut(1)
	f.Cut(3)
	come(t, "Cut(1), Cut(3)", f, 3)

	f = file.New()
	f.Cut(5)
	f.Append("a", nil)
	f.Append("a", nil)
	f.Cut(4)
	come(t, "Cut(5), two acts, Cut(4)", f, 4)

	f = file.New()
	f.Cut(5)
	f.Append("a", nil)
	f.Cut(0)
	come(t, "Cut(5), an act, Cut(0)", f, 0)

	f = file.New()
	f.Cut(5)
	f.Append("a", nil)
	f.Cut(-3)
	come(t, "Cut(5), an act, Cut(-3)", f, 0)

	// The power ends with the first act that it does not come to: till then it may be given more.
	f = file.New()
	f.Cut(1)
	f.Append("a", nil)
	f.Cut(2)
	come(t, "Cut(1), an act, Cut(2)", f, 2)
}

func TestOffIsForGood(t *testing.T) {
	f := with(t, add("a", "abc"))
	f.Cut(0)
	come(t, "Cut(0)", f, 0)
	for _, n := range []int{1, 0, -1, 100, math.MaxInt} {
		f.Cut(n)
		come(t, "Cut behind the end", f, 0)
	}
	if laid(f) != "a=|abc" {
		t.Errorf("P7.1: files behind the end of the power: %s", laid(f))
	}
}

// Nothing is written by an act that the power does not come to, and nothing is half written.
func TestOffChangesNothing(t *testing.T) {
	f := with(t, add("a", "abc"), sync("a"), add("a", "d"), add("b", "xy"))
	f.Cut(0)
	for _, a := range append(append(named("a"), named("c")...), rename("b", "a"), truncate("b", 1), remove("b")) {
		play(t, "P7.1", f, step{a, api.ErrOff, "a=abc|d b=|xy"})
	}
}

func TestOps(t *testing.T) {
	f := file.New()
	for i, s := range []step{
		{add("a", "abc"), api.OK, "a=|abc"},
		{add("", ""), api.ErrArg, "a=|abc"},
		{sync("none"), api.ErrNone, "a=|abc"},
		{truncate("a", 9), api.ErrArg, "a=|abc"},
		{rename("a", "b"), api.OK, "b=|abc"},
		{remove("a"), api.ErrNone, "b=|abc"},
	} {
		if f.Ops() != i {
			t.Errorf("P7.2: Ops: %d, want %d", f.Ops(), i)
		}
		play(t, "P7.1", f, s)
	}
	f.Cut(1)
	if f.Ops() != 6 {
		t.Errorf("P7.2: Ops behind Cut: %d, want 6", f.Ops())
	}
	play(t, "P7.1", f,
		step{sync("b"), api.OK, "b=abc|"},
		step{sync("b"), api.ErrOff, "b=abc|"},
		step{add("", ""), api.ErrOff, "b=abc|"},
	)
	if f.Ops() != 9 {
		t.Errorf("P7.2: Ops: %d, want 9", f.Ops())
	}
	after := f.Crash()
	if after.Ops() != 0 || f.Ops() != 9 {
		t.Errorf("P7.2: Ops of files behind a crash: %d, want 0; of those that crashed: %d, want 9", after.Ops(), f.Ops())
	}
}

func TestNilFiles(t *testing.T) {
	var f *file.FS
	for _, n := range []int{-1, 0, 1, 10} {
		for _, a := range append(append(named("a"), named("")...), truncate("a", -1)) {
			if e := a.do(f); e != api.ErrOff {
				t.Errorf("P7.2: %s of nil: error %d, want %d", a.what, e, api.ErrOff)
			}
		}
		for _, name := range []string{"a", "", strings.Repeat("n", longName+1)} {
			b, e := f.Read(name)
			if len(b) != 0 || e != api.ErrNone || f.Safe(name) != -1 {
				t.Errorf("P7.2: Read, Safe of nil: %q, error %d, %d", b, e, f.Safe(name))
			}
		}
		if len(f.Names()) != 0 || f.Ops() != 0 || f.Crash() != nil || f.Crash(1, 2) != nil {
			t.Errorf("P7.2: Names, Ops, Crash of nil: %q, %d, %v", f.Names(), f.Ops(), f.Crash())
		}
		f.Cut(n)
	}
}

// Files that no New made are files all the same: no call of them panics.
func TestZeroFiles(t *testing.T) {
	var f file.FS
	b, e := f.Read("a")
	if len(b) != 0 || e != api.ErrNone || f.Safe("a") != -1 || len(f.Names()) != 0 || f.Ops() != 0 || laid(f.Crash(1)) != "" {
		t.Errorf("P7.2: zero files: %q, error %d, %d, %q, %d", b, e, f.Safe("a"), f.Names(), f.Ops())
	}
	play(t, "P7.1", &f,
		step{sync("a"), api.ErrNone, ""},
		step{rename("a", "b"), api.ErrNone, ""},
		step{remove("a"), api.ErrNone, ""},
		step{truncate("a", 0), api.ErrNone, ""},
		step{add("a", "x"), api.OK, "a=|x"},
	)
}
