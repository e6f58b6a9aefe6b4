package wal_test

import (
	"fmt"
	"math/rand"
	"slices"
	"strings"
	"testing"

	"coracle/api"
	"coracle/file"
	"coracle/wal"
)

// act is an Append or a Reset, and what becomes of records by it.
type act struct {
	what  string
	do    func(l *wal.Log) api.Errno
	makes func(row []string) []string
}

func appending(s string) act {
	return act{
		fmt.Sprintf("Append(%s)", brief(s)),
		func(l *wal.Log) api.Errno { return l.Append([]byte(s)) },
		func(row []string) []string { return append(slices.Clone(row), s) },
	}
}

func resetting(row ...string) act {
	return act{
		fmt.Sprintf("Reset(%s)", shown(list(row))),
		func(l *wal.Log) api.Errno { return l.Reset(list(row)) },
		func([]string) []string { return row },
	}
}

// run does acts on a log with these records till one is told ErrOff, and tells the records as the last one that was told OK left them, and as the one that was told ErrOff would have.
func run(t *testing.T, l *wal.Log, begin []string, acts []act) (was, now []string) {
	t.Helper()
	was = begin
	for _, a := range acts {
		now = a.makes(was)
		e := a.do(l)
		if e == api.ErrOff {
			return was, now
		}
		told(t, a.what, e, api.OK)
		was = now
	}
	return was, was
}

// row is a log's records.
func row(l *wal.Log) []string {
	var texts []string
	for _, b := range l.Records() {
		texts = append(texts, string(b))
	}
	return texts
}

// survives fails, unless a log opens on what a crash left, with the records as one of these, again and again alike, and goes on; it tells which.
func survives(t *testing.T, what string, f *file.FS, was, now []string) []string {
	t.Helper()
	l, e := wal.Open(f, "log")
	if e != api.OK {
		t.Fatalf("P8.2: %s: Open: error %d", what, e)
	}
	got := row(l)
	if !slices.Equal(got, was) && !slices.Equal(got, now) {
		t.Fatalf("P8.2: %s: Records: %q\nwant %q\nor %q", what, got, was, now)
	}
	for _, g := range []*file.FS{f, f.Crash(), f.Crash(1, 1), f.Crash(-1, -1)} {
		holds(t, what+", opened twice", g, open(t, g, "log"), got...)
	}
	after := f.Crash()
	m := open(t, after, "log")
	add(t, m, "z")
	holds(t, what+", then Append", after.Crash(), open(t, after.Crash(), "log"), append(got, "z")...)
	reset(t, m, "y")
	holds(t, what+", then Reset", after.Crash(), open(t, after.Crash(), "log"), "y")
	return got
}

// picks are those of a crash: none, nothing, all, and parts.
func picks() [][]int {
	l := [][]int{nil, {0, 0}, {-1, -1}, {0, -1}, {-1, 0}}
	for n := 1; n < 120; n += 6 {
		l = append(l, []int{n, n / 2}, []int{-n, n})
	}
	return l
}

// someActs is Appends and Resets in each order.
func someActs() []act {
	return []act{
		appending("abc"), appending(""), resetting("d", "ef"), appending("g"), resetting(), appending("h"),
		resetting("", "", strings.Repeat("i", 300)), resetting("j"), appending(strings.Repeat("k", 300)), appending("l"),
	}
}

// Wherever the power goes within Appends and Resets, and whatever a crash leaves.
func TestCrashWithinActs(t *testing.T) {
	acts := someActs()
	for cut := 0; ; cut++ {
		f := file.New()
		l := open(t, f, "log")
		f.Cut(cut)
		was, now := run(t, l, nil, acts)
		for _, p := range picks() {
			survives(t, fmt.Sprintf("Cut(%d), Crash%v", cut, p), f.Crash(p...), was, now)
		}
		if !l.Dead() {
			break
		}
	}
}

// Wherever the power goes within the Open that follows a crash, and within the one that follows that.
func TestCrashWithinOpen(t *testing.T) {
	acts := someActs()
	for cut := 0; ; cut++ {
		f := file.New()
		l := open(t, f, "log")
		f.Cut(cut)
		was, now := run(t, l, nil, acts)
		for _, p := range [][]int{nil, {-1, -1}, {7, 3}, {40, 41}} {
			for first := range 6 {
				for second := range 6 {
					g := f.Crash(p...)
					g.Cut(first)
					wal.Open(g, "log")
					g = g.Crash(p...)
					g.Cut(second)
					wal.Open(g, "log")
					survives(t, fmt.Sprintf("Cut(%d), Crash%v, Open within %d acts, Crash, Open within %d, Crash", cut, p, first, second), g.Crash(p...), was, now)
				}
			}
		}
		if !l.Dead() {
			break
		}
	}
}

// Wherever the power goes within the first Open of all.
func TestCrashWithinTheFirstOpen(t *testing.T) {
	for cut := range 10 {
		f := file.New()
		f.Cut(cut)
		l, e := wal.Open(f, "log")
		if e != api.OK && (e != api.ErrOff || l != nil) {
			t.Errorf("P8.2: Cut(%d): Open: %v, error %d", cut, l, e)
		}
		var was, now []string
		if e == api.OK {
			was, now = run(t, l, nil, someActs()[:2])
		}
		for _, p := range picks() {
			survives(t, fmt.Sprintf("Cut(%d) ahead of Open, Crash%v", cut, p), f.Crash(p...), was, now)
		}
	}
}

// An act that was told OK lasts, and one that never came to the power leaves nothing.
func TestCrashBetweenActs(t *testing.T) {
	acts := someActs()
	for n := range len(acts) + 1 {
		f := file.New()
		l := open(t, f, "log")
		was, _ := run(t, l, nil, acts[:n])
		for _, p := range picks() {
			survives(t, fmt.Sprintf("%d acts, Crash%v", n, p), f.Crash(p...), was, was)
		}
		f.Cut(0)
		if n < len(acts) && acts[n].do(l) != api.ErrOff {
			t.Errorf("P8.2: %s without power: not refused", acts[n].what)
		}
		for _, p := range picks() {
			survives(t, fmt.Sprintf("%d acts, then no power, Crash%v", n, p), f.Crash(p...), was, was)
		}
	}
}

// A Reset is all or nothing, at each of its acts, and both come about.
func TestResetIsAtOnce(t *testing.T) {
	seen := map[string]int{}
	for cut := range 6 {
		for pick := range 400 {
			f := file.New()
			l := open(t, f, "log")
			add(t, l, "old", "older")
			f.Cut(cut)
			was, now := []string{"old", "older"}, []string{"n", "", strings.Repeat("new", 100)}
			if e := l.Reset(list(now)); e == api.OK {
				was = now
			}
			got := survives(t, fmt.Sprintf("Reset within %d acts, Crash(%d)", cut, pick), f.Crash(pick, pick), was, now)
			seen[got[0]]++
		}
	}
	if seen["old"] == 0 || seen["n"] == 0 {
		t.Errorf("P8.2: Resets cut short leave %v", seen)
	}
}

// An Append is all or nothing, whatever is left of it: all of it by a crash that leaves all, nothing by any other.
func TestAppendIsAtOnce(t *testing.T) {
	for _, s := range []string{"", "x", strings.Repeat("y", 252), strings.Repeat("z", 253), strings.Repeat("\x00", 300)} {
		f := file.New()
		l := open(t, f, "log")
		add(t, l, "old")
		old := l.Bytes()
		f.Cut(1)
		told(t, "Append without power for all of it", l.Append([]byte(s)), api.ErrOff)
		b, _ := f.Read("log")
		for left := range len(b) - old {
			if got := survives(t, fmt.Sprintf("%d bytes left", left), f.Crash(left), []string{"old"}, nil); len(got) != 1 {
				t.Errorf("P8.2: Append(%s), of which %d bytes are left: Records %q", brief(s), left, got)
			}
		}
		survives(t, "all bytes left", f.Crash(-1), []string{"old", s}, []string{"old", s})
	}
}

// A log that was told ErrOff stays as it was told: what a crash leaves is for the next Open.
func TestRecordsBehindErrOff(t *testing.T) {
	acts := someActs()
	for cut := 0; ; cut++ {
		f := file.New()
		l := open(t, f, "log")
		f.Cut(cut)
		was, _ := run(t, l, nil, acts)
		g := file.New()
		m := open(t, g, "log")
		if e := m.Reset(list(was)); e != api.OK || !slices.Equal(row(l), was) || l.Bytes() != m.Bytes() {
			t.Errorf("P8.1: behind Cut(%d): Records %q, want %q; Bytes %d, want %d", cut, row(l), was, l.Bytes(), m.Bytes())
		}
		if !l.Dead() {
			break
		}
	}
}

// What stays of Resets that were cut short does not pile up, nor come back.
func TestResetsCutShort(t *testing.T) {
	f := file.New()
	add(t, open(t, f, "log"), "old")
	for i := range 30 {
		l := open(t, f, "log")
		f.Cut(i % 3)
		told(t, "Reset cut short", l.Reset(list([]string{"new", fmt.Sprint(i)})), api.ErrOff)
		f = f.Crash(-1-i%2, -1-i%3)
	}
	l := open(t, f, "log")
	lasts(t, "Resets cut short", f, l, "old")
	reset(t, l, "newest")
	lasts(t, "a Reset behind those that were cut short", f, l, "newest")
}

// drawnAct is an act with records of a few bytes.
func drawnAct(r *rand.Rand) act {
	drawn := func() string { return strings.Repeat(string(rune('a'+r.Intn(26))), r.Intn(5)*r.Intn(5)) }
	if r.Intn(3) > 0 {
		return appending(drawn())
	}
	var l []string
	for range r.Intn(4) {
		l = append(l, drawn())
	}
	return resetting(l...)
}

// Runs of acts, Cuts, crashes and Opens, over the same files again and again.
func TestCrashRuns(t *testing.T) {
	r := rand.New(rand.NewSource(82))
	for n := range 400 {
		f := file.New()
		var was []string
		for life := range 8 {
			what := fmt.Sprintf("run %d, life %d", n, life)
			f.Cut(r.Intn(40))
			now := was
			if l, e := wal.Open(f, "log"); e == api.OK {
				if got := row(l); !slices.Equal(got, was) {
					t.Fatalf("P8.2: %s: Records: %q, want %q", what, got, was)
				}
				var acts []act
				for range r.Intn(12) {
					acts = append(acts, drawnAct(r))
				}
				was, now = run(t, l, was, acts)
			}
			f = f.Crash(r.Intn(90)-45, r.Intn(90)-45)
			was = survives(t, what, f.Crash(), was, now)
		}
	}
}
