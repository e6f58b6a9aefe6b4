package wal_test

import (
	"slices"
	"strings"
	"testing"

	"coracle/api"
	"coracle/file"
)

// spoil overwrites bytes and their spare room.
func spoil(b []byte) {
	b = b[:cap(b)]
	for i := range b {
		b[i] = '#'
	}
}

func TestAppendLeavesAndKeepsNoBytes(t *testing.T) {
	room := []byte("abcdef" + strings.Repeat("g", 200))
	before := string(room)
	b := room[:3]
	f := file.New()
	l := open(t, f, "log")
	told(t, "Append", l.Append(b), api.OK)
	told(t, "Append", l.Append(b[:0]), api.OK)
	told(t, "Append", l.Append(b), api.OK)
	if string(room) != before {
		t.Errorf("P8.3: Append changed what was handed in: %q", room)
	}
	spoil(b)
	lasts(t, "what was handed in changed behind Append", f, l, "abc", "", "abc")
	big := make([]byte, bigRecord+1)
	told(t, "Append", l.Append(big), api.ErrBig)
	if slices.Max(big) != 0 {
		t.Errorf("P8.3: an Append that is refused changed what was handed in")
	}
}

func TestResetLeavesAndKeepsNoBytes(t *testing.T) {
	one, two, out := []byte("abcdef"+strings.Repeat("1", 200)), []byte("ghijkl"+strings.Repeat("2", 200)), []byte("out")
	was := string(one) + string(two)
	room := [][]byte{one[:3], nil, two[:2], one[1:2], out}
	records := room[:4]
	f := file.New()
	l := open(t, f, "log")
	add(t, l, "old")
	told(t, "Reset", l.Reset(records), api.OK)
	if string(one)+string(two) != was || string(out) != "out" {
		t.Errorf("P8.3: Reset changed what was handed in: %q, %q, %q", one, two, out)
	}
	if !alike(room, []string{"abc", "", "gh", "b", "out"}) || room[1] != nil || cap(room[0]) != cap(one) || &room[4][0] != &out[0] {
		t.Errorf("P8.3: Reset changed the list that was handed in: %s", shown(room))
	}
	spoil(one)
	spoil(two)
	records[1] = []byte("new")
	records[2] = nil
	lasts(t, "what was handed in changed behind Reset", f, l, "abc", "", "gh", "b")
	add(t, l, "m")
	lasts(t, "what was handed in changed behind Reset, then Append", f, l, "abc", "", "gh", "b", "m")
	told(t, "Reset without power", noPower(t, f, func() api.Errno { return l.Reset(room) }), api.ErrOff)
	if string(out) != "out" || room[1] == nil {
		t.Errorf("P8.3: a Reset without power changed what was handed in: %s", shown(room))
	}
}

// noPower does an act behind the end of the power.
func noPower(t *testing.T, f *file.FS, do func() api.Errno) api.Errno {
	t.Helper()
	f.Cut(0)
	return do()
}

func TestRecordsAreNewMemory(t *testing.T) {
	f := file.New()
	l := open(t, f, "log")
	add(t, l, "abc", "", "de")
	reset(t, l, "abc", "", "de")
	add(t, l, "fg")
	want := []string{"abc", "", "de", "fg"}
	one, other := l.Records(), l.Records()
	for i := range one {
		spoil(one[i])
		one[i] = append(one[i], "more and more"...)
	}
	one[1] = nil
	if !alike(other, want) {
		t.Errorf("P8.3: two answers of Records share memory: %s", shown(other))
	}
	lasts(t, "an answer of Records changed", f, l, want...)
	add(t, l, "h")
	if !alike(other, want) {
		t.Errorf("P8.3: an answer of Records changed behind Append: %s", shown(other))
	}
	reset(t, l, "xyz", "x", "yz", "xy")
	if !alike(other, want) {
		t.Errorf("P8.3: an answer of Records changed behind Reset: %s", shown(other))
	}
}

// What is appended to a record goes to none of the others.
func TestRecordsHaveNoSharedRoom(t *testing.T) {
	f := file.New()
	l := open(t, f, "log")
	want := []string{"a", "", "b", "", "", "c", strings.Repeat("d", 100), "e"}
	add(t, l, want...)
	for i := range want {
		records := l.Records()
		room := append(records[i], strings.Repeat("#", 200)...)
		spoil(records[i])
		records[i] = []byte(want[i])
		if !alike(records, want) || len(room) != len(want[i])+200 {
			t.Errorf("P8.3: what is appended to record %d goes elsewhere: %s", i, shown(records))
		}
	}
}

// Records of a log whose power went are new memory too.
func TestRecordsOfADeadLog(t *testing.T) {
	f := file.New()
	l := open(t, f, "log")
	add(t, l, "abc", "de")
	told(t, "Append without power", noPower(t, f, func() api.Errno { return l.Append(nil) }), api.ErrOff)
	for _, b := range l.Records() {
		spoil(b)
	}
	if got := l.Records(); !alike(got, []string{"abc", "de"}) {
		t.Errorf("P8.3: an answer of Records changed those of a dead log: %s", shown(got))
	}
}

// A crash, and the log that opens behind it, share nothing with the log that went on.
func TestLogsOfACrashAreTheirOwn(t *testing.T) {
	f := file.New()
	l := open(t, f, "log")
	add(t, l, "abc")
	after := f.Crash()
	m := open(t, after, "log")
	add(t, l, "l")
	reset(t, m, "m")
	lasts(t, "the log that went on", f, l, "abc", "l")
	lasts(t, "the log behind the crash", after, m, "m")
	for _, b := range m.Records() {
		spoil(b)
	}
	lasts(t, "the log that went on", f, l, "abc", "l")
}

// A log's own records may be what it is reset to, and what is appended.
func TestOwnRecordsHandedIn(t *testing.T) {
	f := file.New()
	l := open(t, f, "log")
	add(t, l, "abc", "", "de")
	records := l.Records()
	told(t, "Reset", l.Reset(records), api.OK)
	told(t, "Append", l.Append(records[2]), api.OK)
	told(t, "Reset", l.Reset(append(l.Records(), records...)), api.OK)
	lasts(t, "own records handed in", f, l, "abc", "", "de", "de", "abc", "", "de")
}
