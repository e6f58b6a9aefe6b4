package wal_test

import (
	"bytes"
	"fmt"
	"strings"
	"testing"

	"coracle/api"
	"coracle/file"
	"coracle/wal"
)

// How many bytes a name, a record and a file may have: the chapters' numbers.
const (
	longName  = 40
	bigRecord = 1 << 20
	bigFile   = 1 << 24
)

// open fails, unless a log of this name opens.
func open(t *testing.T, f *file.FS, name string) *wal.Log {
	t.Helper()
	l, e := wal.Open(f, name)
	if e != api.OK || l == nil || l.Dead() {
		t.Fatalf("P8.1: Open(%q): %v, error %d", name, l, e)
	}
	return l
}

// told fails, unless an act told this error.
func told(t *testing.T, what string, e, want api.Errno) {
	t.Helper()
	if e != want {
		t.Errorf("P8.1: %s: error %d, want %d", what, e, want)
	}
}

// add appends records, each of which must be taken.
func add(t *testing.T, l *wal.Log, records ...string) {
	t.Helper()
	for _, s := range records {
		told(t, "Append("+brief(s)+")", l.Append([]byte(s)), api.OK)
	}
}

// reset puts records in place of the others, and must be taken.
func reset(t *testing.T, l *wal.Log, records ...string) {
	t.Helper()
	told(t, "Reset("+shown(list(records))+")", l.Reset(list(records)), api.OK)
}

// list is texts as records.
func list(records []string) [][]byte {
	var l [][]byte
	for _, s := range records {
		l = append(l, []byte(s))
	}
	return l
}

// brief is a text to be shown, or how it begins and how long it is.
func brief(s string) string {
	if len(s) > 40 {
		return fmt.Sprintf("%q.. of %d bytes", s[:8], len(s))
	}
	return fmt.Sprintf("%q", s)
}

// shown is records in order.
func shown(records [][]byte) string {
	var l []string
	for _, b := range records {
		l = append(l, brief(string(b)))
	}
	return strings.Join(l, " ")
}

// alike tells whether records are these.
func alike(got [][]byte, want []string) bool {
	if len(got) != len(want) {
		return false
	}
	for i := range got {
		if string(got[i]) != want[i] {
			return false
		}
	}
	return true
}

// holds fails, unless a log under the name log has these records, its own file alone, of as many bytes as it tells, and all of that safe.
func holds(t *testing.T, what string, f *file.FS, l *wal.Log, want ...string) {
	t.Helper()
	if got := l.Records(); !alike(got, want) {
		t.Errorf("P8.1: %s: Records: %s\nwant %s", what, shown(got), shown(list(want)))
	}
	if got := strings.Join(f.Names(), " "); got != "log" {
		t.Errorf("P8.1: %s: files %q", what, got)
	}
	b, _ := f.Read("log")
	if l.Bytes() != len(b) || f.Safe("log") != len(b) {
		t.Errorf("P8.1: %s: Bytes: %d; the file has %d, %d of them safe", what, l.Bytes(), len(b), f.Safe("log"))
	}
	if l.Dead() {
		t.Errorf("P8.1: %s: dead", what)
	}
}

// lasts fails, unless a log under the name log has these records, and is so when it is opened again, here and behind crashes.
func lasts(t *testing.T, what string, f *file.FS, l *wal.Log, want ...string) {
	t.Helper()
	holds(t, what, f, l, want...)
	holds(t, what+", opened again", f, open(t, f, "log"), want...)
	for _, picks := range [][]int{nil, {0, 0}, {1, 1}, {-1, -1}} {
		after := f.Crash(picks...)
		holds(t, fmt.Sprintf("%s, behind Crash%v", what, picks), after, open(t, after, "log"), want...)
		holds(t, fmt.Sprintf("%s, behind Crash%v, opened twice", what, picks), after, open(t, after, "log"), want...)
	}
}

// rows are lists of records: none, one and several, empty ones, long ones, alike ones, and ones that look like what a log writes.
func rows() [][]string {
	f := file.New()
	l, _ := wal.Open(f, "log")
	l.Append([]byte("inner"))
	l.Append(nil)
	inner, _ := f.Read("log")
	return [][]string{
		nil,
		{"a"},
		{""},
		{"", "", ""},
		{"abc", "", "de"},
		{"a", "a", "a", "a"},
		{"b", "a", "c", "a", "", "b"},
		{"\x00", "\xff\xfe", "\xfd\xfd\x00", "\n", strings.Repeat("\x00", 100)},
		{strings.Repeat("x", 252), strings.Repeat("y", 253), strings.Repeat("z", 254), "end"},
		{strings.Repeat("x", 65535), strings.Repeat("y", 65536), "end"},
		{string(inner), string(inner[1:]), string(inner[:len(inner)-1]), string(inner)},
	}
}

func TestExample(t *testing.T) {
	f := file.New()
	l := open(t, f, "log")
	add(t, l, "a")
	after := f.Crash()
	holds(t, "the example", after, open(t, after, "log"), "a")
}

func TestNewFiles(t *testing.T) {
	f := file.New()
	l := open(t, f, "log")
	lasts(t, "new files", f, l)
	if l.Bytes() != 0 {
		t.Errorf("P8.1: Bytes of new files: %d", l.Bytes())
	}
}

func TestAppend(t *testing.T) {
	for _, row := range rows() {
		f := file.New()
		l := open(t, f, "log")
		for i, s := range row {
			add(t, l, s)
			lasts(t, fmt.Sprintf("Append %d of %s", i, shown(list(row))), f, l, row[:i+1]...)
		}
	}
}

func TestReset(t *testing.T) {
	for _, row := range rows() {
		for _, before := range rows() {
			f := file.New()
			l := open(t, f, "log")
			add(t, l, before...)
			reset(t, l, row...)
			holds(t, fmt.Sprintf("Reset behind %s", shown(list(before))), f, l, row...)
		}
		f := file.New()
		l := open(t, f, "log")
		reset(t, l, row...)
		lasts(t, "Reset", f, l, row...)
		add(t, l, "behind", "it")
		lasts(t, "Append behind Reset", f, l, append(row[:len(row):len(row)], "behind", "it")...)
		reset(t, l, "a", "b")
		reset(t, l, row...)
		lasts(t, "Reset behind Reset", f, l, row...)
		reset(t, l)
		lasts(t, "Reset to none", f, l)
	}
}

// A log goes on where another one of the name has ended.
func TestOpenedAgain(t *testing.T) {
	f := file.New()
	var want []string
	for i := range 20 {
		l := open(t, f, "log")
		if i%7 == 6 {
			want = []string{"anew", fmt.Sprint(i)}
			reset(t, l, want...)
		}
		s := strings.Repeat(fmt.Sprint(i), i%3)
		add(t, l, s, "x")
		want = append(want, s, "x")
		lasts(t, fmt.Sprintf("log %d", i), f, l, want...)
		if i%2 == 1 {
			f = f.Crash(i, 3*i)
		}
	}
}

// ways is how many bytes a log tells that came to these records each in another way.
func ways(t *testing.T, row []string) []int {
	t.Helper()
	var sizes []int
	way := func(f *file.FS, first, inPlace, behind []string) {
		t.Helper()
		l := open(t, f, "log")
		add(t, l, first...)
		if len(first)+len(inPlace) > 0 {
			reset(t, l, inPlace...)
		}
		add(t, l, behind...)
		holds(t, "Bytes", f, l, row...)
		sizes = append(sizes, l.Bytes(), open(t, f, "log").Bytes(), open(t, f.Crash(), "log").Bytes())
	}
	way(file.New(), nil, nil, row)
	way(file.New(), nil, row, nil)
	way(file.New(), []string{"other", "", strings.Repeat("o", 5000)}, row, nil)
	way(file.New(), []string{"other"}, nil, row)
	for i := range row {
		way(file.New(), row, row[:i], row[i:])
	}
	return sizes
}

// Bytes hangs on the records alone, however they came.
func TestBytes(t *testing.T) {
	for _, row := range rows() {
		sizes := ways(t, row)
		least := 0
		for _, s := range row {
			least += len(s)
		}
		for _, n := range sizes {
			if n != sizes[0] || n < least {
				t.Errorf("P8.1: Bytes of %s, come to in several ways: %d", shown(list(row)), sizes)
				break
			}
		}
	}
}

// In another order records take as many bytes.
func TestBytesOfAnotherOrder(t *testing.T) {
	f, g := file.New(), file.New()
	l, m := open(t, f, "log"), open(t, g, "log")
	add(t, l, "abc", "", "de", "de")
	reset(t, m, "de", "abc")
	add(t, m, "de", "")
	if l.Bytes() != m.Bytes() {
		t.Errorf("P8.1: Bytes of the same records in two orders: %d, %d", l.Bytes(), m.Bytes())
	}
}

func TestNames(t *testing.T) {
	for name, want := range map[string]api.Errno{
		"":                                api.ErrArg,
		"a":                               api.OK,
		"\x00":                            api.OK,
		"\xff":                            api.OK,
		" ":                               api.OK,
		"ä/..\n":                          api.OK,
		strings.Repeat("n", longName-1):   api.OK,
		strings.Repeat("n", longName):     api.OK,
		strings.Repeat("n", longName+1):   api.ErrArg,
		strings.Repeat("n", 1000):         api.ErrArg,
		strings.Repeat("ä", longName/2):   api.OK,
		strings.Repeat("ä", 1+longName/2): api.ErrArg,
	} {
		f := file.New()
		l, e := wal.Open(f, name)
		told(t, "Open("+brief(name)+")", e, want)
		if want != api.OK {
			if l != nil || len(f.Names()) != 0 || f.Ops() != 0 {
				t.Errorf("P8.1: Open(%q), which is refused: %v, files %q, %d acts", name, l, f.Names(), f.Ops())
			}
			continue
		}
		add(t, l, "a", "b")
		reset(t, l, "c")
		add(t, l, "d")
		if got := open(t, f.Crash(), name).Records(); !alike(got, []string{"c", "d"}) {
			t.Errorf("P8.1: Records of %q: %s", name, shown(got))
		}
		for _, s := range f.Names() {
			if !strings.HasPrefix(s, name) {
				t.Errorf("P8.1: %q has the file %q, which is not its own", name, s)
			}
		}
	}
}

func TestNoFiles(t *testing.T) {
	for _, name := range []string{"a", "", strings.Repeat("n", longName+1)} {
		if l, e := wal.Open(nil, name); l != nil || e != api.ErrArg {
			t.Errorf("P8.1: Open(nil, %q): %v, error %d, want %d", name, l, e, api.ErrArg)
		}
	}
}

// full is a log whose file has as many bytes as one may, with its records.
func full(t *testing.T, f *file.FS) (*wal.Log, []string) {
	t.Helper()
	l := open(t, f, "log")
	record := strings.Repeat("r", bigRecord)
	var want []string
	for len(want) < bigFile/bigRecord-1 {
		add(t, l, record)
		want = append(want, record)
	}
	// What stands ahead of a long record takes as many bytes in each.
	last := record[:bigFile-l.Bytes()-(l.Bytes()/len(want)-bigRecord)]
	add(t, l, last)
	if l.Bytes() != bigFile {
		t.Fatalf("P8.1: Bytes of a full log: %d", l.Bytes())
	}
	return l, append(want, last)
}

func TestBigRecords(t *testing.T) {
	most := strings.Repeat("m", bigRecord)
	f := file.New()
	l := open(t, f, "log")
	add(t, l, "a", most)
	lasts(t, "a record of 2^20 bytes", f, l, "a", most)
	size, before := l.Bytes(), f.Ops()
	for _, more := range []string{most + "m", most + most, strings.Repeat(most, 17)} {
		told(t, "Append("+brief(more)+")", l.Append([]byte(more)), api.ErrBig)
		for _, row := range [][]string{{more}, {"x", more}, {more, "x"}, {"x", most, more, "y"}} {
			told(t, "Reset("+shown(list(row))+")", l.Reset(list(row)), api.ErrBig)
		}
	}
	if l.Bytes() != size || f.Ops() != before {
		t.Errorf("P8.1: Bytes behind what was refused: %d, want %d; %d acts", l.Bytes(), size, f.Ops()-before)
	}
	lasts(t, "behind records that are too long", f, l, "a", most)
	reset(t, l, most, "", most)
	lasts(t, "Reset to records of 2^20 bytes", f, l, most, "", most)
}

func TestFullFile(t *testing.T) {
	f := file.New()
	l, want := full(t, f)
	for _, s := range []string{"", "x", want[0]} {
		told(t, "Append("+brief(s)+") to a full file", l.Append([]byte(s)), api.ErrBig)
	}
	holds(t, "a full file", f, l, want...)
	told(t, "Reset to one byte too many", l.Reset(list(append([]string{want[len(want)-1] + "x"}, want[:len(want)-1]...))), api.ErrBig)
	told(t, "Reset to a record too many", l.Reset(list(append([]string{""}, want...))), api.ErrBig)
	holds(t, "a full file, behind what was refused", f, l, want...)
	holds(t, "a full file, opened again", f, open(t, f, "log"), want...)
	after := f.Crash(1)
	holds(t, "a full file, behind a crash", after, open(t, after, "log"), want...)
	reset(t, l, "x")
	add(t, l, "y")
	lasts(t, "Reset of a full file", f, l, "x", "y")
	reset(t, l, want...)
	holds(t, "Reset to a full file", f, l, want...)
	told(t, "Append to a file that Reset has filled", l.Append(nil), api.ErrBig)
}

// What is too long for the file leaves room for what is not.
func TestAlmostFullFile(t *testing.T) {
	f := file.New()
	l, want := full(t, f)
	last := want[len(want)-1]
	want[len(want)-1] = last[:len(last)-100]
	reset(t, l, want...)
	told(t, "Append to an almost full file", l.Append(make([]byte, 100)), api.ErrBig)
	add(t, l, "small")
	holds(t, "an almost full file", f, l, append(want, "small")...)
}

// Each thing that could be told, the one ahead of the other.
func TestWhichError(t *testing.T) {
	big, fits := make([]byte, bigRecord+1), make([]byte, bigRecord)
	long := make([][]byte, 17)
	for i := range long {
		long[i] = fits
	}
	tooLong := append(long[:17:17], big)
	f := file.New()
	l, want := full(t, f)
	f.Cut(0)
	// The power is off, and the log does not know of it: what is too long for a record is told without asking for an act.
	told(t, "Append of too much without power", l.Append(big), api.ErrBig)
	told(t, "Reset of too much without power", l.Reset([][]byte{big}), api.ErrBig)
	told(t, "Reset of too much in a file too long, without power", l.Reset(tooLong), api.ErrBig)
	if l.Dead() {
		t.Errorf("P8.1: dead ahead of any ErrOff")
	}
	// What a file is too long for, 7 finds behind the power.
	told(t, "Append to a full file without power", l.Append(fits), api.ErrOff)
	for _, l := range []*wal.Log{l, nil} {
		if !l.Dead() {
			t.Errorf("P8.1: not dead behind ErrOff")
		}
		told(t, "Append of nothing, dead", l.Append(nil), api.ErrOff)
		told(t, "Append, dead", l.Append(fits), api.ErrOff)
		told(t, "Append of too much, dead", l.Append(big), api.ErrBig)
		told(t, "Reset to none, dead", l.Reset(nil), api.ErrOff)
		told(t, "Reset, dead", l.Reset([][]byte{fits, nil}), api.ErrOff)
		told(t, "Reset to a file too long, dead", l.Reset(long), api.ErrOff)
		told(t, "Reset of too much, dead", l.Reset([][]byte{nil, big}), api.ErrBig)
		told(t, "Reset of too much in a file too long, dead", l.Reset(tooLong), api.ErrBig)
	}
	if !alike(l.Records(), want) || l.Bytes() != bigFile {
		t.Errorf("P8.1: behind ErrOff: Bytes %d, %d Records", l.Bytes(), len(l.Records()))
	}
	l = open(t, f.Crash(), "log")
	told(t, "Reset to a file too long", l.Reset(long), api.ErrBig)
	told(t, "Append to a full file", l.Append(fits), api.ErrBig)
	g := file.New()
	l = open(t, g, "log")
	g.Cut(0)
	told(t, "Reset to a file too long without power", l.Reset(long), api.ErrOff)
	if !l.Dead() {
		t.Errorf("P8.1: not dead behind a Reset without power")
	}
}

func TestNilLog(t *testing.T) {
	var l *wal.Log
	for range 2 {
		told(t, "Append to nil", l.Append([]byte("a")), api.ErrOff)
		told(t, "Append of nothing to nil", l.Append(nil), api.ErrOff)
		told(t, "Append of too much to nil", l.Append(make([]byte, bigRecord+1)), api.ErrBig)
		told(t, "Reset of nil", l.Reset(nil), api.ErrOff)
		told(t, "Reset of nil to one", l.Reset([][]byte{nil}), api.ErrOff)
		told(t, "Reset of nil to too much", l.Reset([][]byte{nil, make([]byte, bigRecord+1)}), api.ErrBig)
		if len(l.Records()) != 0 || l.Bytes() != 0 || !l.Dead() {
			t.Errorf("P8.1: nil: Records %s, Bytes %d, Dead %t", shown(l.Records()), l.Bytes(), l.Dead())
		}
	}
}

// A log that no Open made is on no files: no call of it panics.
func TestZeroLog(t *testing.T) {
	var l wal.Log
	if len(l.Records()) != 0 || l.Bytes() != 0 {
		t.Errorf("P8.1: a zero log: Records %s, Bytes %d", shown(l.Records()), l.Bytes())
	}
	told(t, "Append to a zero log", l.Append(nil), api.ErrOff)
	told(t, "Reset of a zero log", l.Reset(nil), api.ErrOff)
	if len(l.Records()) != 0 || l.Bytes() != 0 || !l.Dead() {
		t.Errorf("P8.1: a zero log behind ErrOff: Records %s, Bytes %d, Dead %t", shown(l.Records()), l.Bytes(), l.Dead())
	}
}

// Each function of a dead log, whichever act the power went at.
func TestDead(t *testing.T) {
	acts := map[string]func(l *wal.Log) api.Errno{
		"Append": func(l *wal.Log) api.Errno { return l.Append([]byte("new")) },
		"Reset":  func(l *wal.Log) api.Errno { return l.Reset([][]byte{[]byte("new"), nil}) },
	}
	for what, act := range acts {
		for cut := range 5 {
			f := file.New()
			l := open(t, f, "log")
			add(t, l, "abc", "")
			size := l.Bytes()
			f.Cut(cut)
			if act(l) == api.OK {
				continue
			}
			if !l.Dead() {
				t.Errorf("P8.1: %s behind Cut(%d): not dead", what, cut)
			}
			for range 2 {
				told(t, what+", dead", act(l), api.ErrOff)
				told(t, "Append of nothing, dead", l.Append(nil), api.ErrOff)
				told(t, "Reset to none, dead", l.Reset(nil), api.ErrOff)
				if !l.Dead() || l.Bytes() != size || !alike(l.Records(), []string{"abc", ""}) {
					t.Errorf("P8.1: %s behind Cut(%d): Dead %t, Bytes %d, want %d, Records %s", what, cut, l.Dead(), l.Bytes(), size, shown(l.Records()))
				}
				f.Cut(1000)
			}
		}
	}
}

// Without power nothing opens, and what is there stays.
func TestOpenWithoutPower(t *testing.T) {
	f := file.New()
	add(t, open(t, f, "log"), "abc")
	for _, g := range []*file.FS{f, file.New()} {
		before := fmt.Sprint(g.Names())
		g.Cut(0)
		for range 2 {
			if l, e := wal.Open(g, "log"); l != nil || e != api.ErrOff {
				t.Errorf("P8.1: Open without power: %v, error %d, want %d", l, e, api.ErrOff)
			}
		}
		for _, name := range []string{"", strings.Repeat("n", longName+1)} {
			if l, e := wal.Open(g, name); l != nil || e != api.ErrArg {
				t.Errorf("P8.1: Open(%q) without power: %v, error %d, want %d", name, l, e, api.ErrArg)
			}
		}
		if got := fmt.Sprint(g.Names()); got != before {
			t.Errorf("P8.1: files behind an Open without power: %s, want %s", got, before)
		}
	}
	after := f.Crash()
	holds(t, "behind Opens without power", after, open(t, after, "log"), "abc")
}

// Logs of unlike names have nothing in common but the files they are in.
func TestTwoLogs(t *testing.T) {
	f := file.New()
	l, m := open(t, f, "one"), open(t, f, "two")
	check := func(what string, one, two []string) {
		t.Helper()
		for _, g := range []*file.FS{f, f.Crash(), f.Crash(-1, -1, -1, -1)} {
			a, b := open(t, g, "one"), open(t, g, "two")
			if !alike(a.Records(), one) || !alike(b.Records(), two) || a.Bytes() != l.Bytes() || b.Bytes() != m.Bytes() {
				t.Errorf("P8.1: %s: Records, opened again: %s, and %s", what, shown(a.Records()), shown(b.Records()))
			}
		}
		if !alike(l.Records(), one) || !alike(m.Records(), two) {
			t.Errorf("P8.1: %s: Records: %s, and %s", what, shown(l.Records()), shown(m.Records()))
		}
	}
	add(t, l, "a")
	check("Append", []string{"a"}, nil)
	add(t, m, "b", "c")
	check("Appends", []string{"a"}, []string{"b", "c"})
	reset(t, l, "d", "e")
	check("Reset", []string{"d", "e"}, []string{"b", "c"})
	reset(t, m)
	add(t, l, "f")
	add(t, m, "g")
	check("Resets", []string{"d", "e", "f"}, []string{"g"})
	f.Cut(1)
	told(t, "Append without power", l.Append([]byte("h")), api.ErrOff)
	if !l.Dead() || m.Dead() {
		t.Errorf("P8.1: one log was told ErrOff: dead are %t, %t", l.Dead(), m.Dead())
	}
	told(t, "Reset without power", m.Reset(nil), api.ErrOff)
	if !m.Dead() || !alike(l.Records(), []string{"d", "e", "f"}) || !alike(m.Records(), []string{"g"}) {
		t.Errorf("P8.1: behind ErrOff: Records: %s, and %s", shown(l.Records()), shown(m.Records()))
	}
}

// A Reset that the power leaves at any of its acts touches no other log, nor does the Open that follows.
func TestTwoLogsCutShort(t *testing.T) {
	for cut := range 4 {
		f := file.New()
		l, m := open(t, f, "one"), open(t, f, "two")
		add(t, l, "a")
		add(t, m, "b")
		f.Cut(cut)
		l.Reset([][]byte{[]byte("c")})
		m.Reset([][]byte{[]byte("d")})
		for _, name := range f.Names() {
			if !strings.HasPrefix(name, "one") && !strings.HasPrefix(name, "two") {
				t.Errorf("P8.1: Resets behind Cut(%d) make the file %q, which is no log's own", cut, name)
			}
		}
		after := f.Crash(-1, -1, -1, -1)
		b, _ := after.Read("one")
		open(t, after, "two")
		if is, e := after.Read("one"); e != api.OK || !bytes.Equal(is, b) {
			t.Errorf("P8.1: Open of two changed one: %q, error %d; it was %q", is, e, b)
		}
		if l, m := open(t, after, "one"), open(t, after, "two"); len(l.Records()) != 1 || len(m.Records()) != 1 {
			t.Errorf("P8.1: behind Cut(%d): Records: %s, and %s", cut, shown(l.Records()), shown(m.Records()))
		}
	}
}

// Logs of one name in unlike files are two.
func TestTwoFiles(t *testing.T) {
	f, g := file.New(), file.New()
	l, m := open(t, f, "log"), open(t, g, "log")
	add(t, l, "a")
	reset(t, m, "b", "c")
	f.Cut(0)
	told(t, "Append without power", l.Append(nil), api.ErrOff)
	add(t, m, "d")
	lasts(t, "a log in other files than one that is dead", g, m, "b", "c", "d")
}

// Where somebody else takes a log's own file away, nothing is promised but that no call panics.
func TestFileTakenAway(t *testing.T) {
	for _, left := range []int{-1, 0, 1, 40} {
		f := file.New()
		l := open(t, f, "log")
		add(t, l, "abc", "de")
		f.Truncate("log", left)
		if left < 0 {
			f.Remove("log")
		}
		l.Records()
		l.Bytes()
		l.Append(nil)
		l.Records()
		told(t, "Reset behind a file that was taken away", l.Reset(nil), api.OK)
		lasts(t, "Reset behind a file that was taken away", f, l)
	}
}

// Many small records, in order.
func TestManyRecords(t *testing.T) {
	f := file.New()
	l := open(t, f, "log")
	var want []string
	for i := range 5000 {
		s := string(bytes.Repeat([]byte{byte(i), byte(i >> 8)}, i%5))
		add(t, l, s)
		want = append(want, s)
	}
	lasts(t, "many Appends", f, l, want...)
	reset(t, l, want...)
	lasts(t, "Reset to many", f, l, want...)
}
