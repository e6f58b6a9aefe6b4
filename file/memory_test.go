package file_test

import (
	"bytes"
	"fmt"
	"math/rand"
	"slices"
	"strings"
	"testing"

	"coracle/api"
	"coracle/file"
)

// spoil overwrites bytes and their spare room.
func spoil(b []byte) {
	b = b[:cap(b)]
	for i := range b {
		b[i] = '#'
	}
}

// What was safe is the beginning of what is there behind each crash, and that is the beginning of what was there.
func TestWhatWasSafeIsThere(t *testing.T) {
	r := rand.New(rand.NewSource(11))
	for range 2000 {
		f, m := file.New(), &model{files: map[string]halves{}, power: -1}
		for range 30 {
			drawnAct(r, f, m)
		}
		after := f.Crash(drawnPicks(r)...)
		if !slices.Equal(after.Names(), f.Names()) {
			t.Fatalf("P7.3: Names behind a crash: %q; ahead of it: %q", after.Names(), f.Names())
		}
		for _, name := range f.Names() {
			was, _ := f.Read(name)
			is, e := after.Read(name)
			if e != api.OK || !bytes.HasPrefix(is, was[:f.Safe(name)]) || !bytes.HasPrefix(was, is) || after.Safe(name) != len(is) {
				t.Fatalf("P7.3: %s behind a crash: %q, error %d, %d safe; ahead of it: %q, %d safe", name, is, e, after.Safe(name), was, f.Safe(name))
			}
		}
	}
}

func TestAppendLeavesAndKeepsNoBytes(t *testing.T) {
	room := []byte("abcdef")
	b := room[:3]
	f := file.New()
	f.Append("a", b)
	f.Append("a", b)
	f.Append("b", b)
	if string(room) != "abcdef" {
		t.Errorf("P7.3: Append changed what was handed in: %q", room)
	}
	spoil(b)
	if got := laid(f); got != "a=|abcabc b=|abc" {
		t.Errorf("P7.3: what was handed in changed behind Append: %s", got)
	}
	f.Append("a", []byte("x"))
	f.Append("b", []byte("y"))
	if string(room) != "######" || laid(f) != "a=|abcabcx b=|abcy" {
		t.Errorf("P7.3: Append wrote into what was handed in: %q, %s", room, laid(f))
	}
}

func TestCrashLeavesPicks(t *testing.T) {
	f := several(t)
	room := []int{7, 8, -9, 10, 11, 12}
	f.Crash(room[:2]...)
	f.Crash(room[:5]...)
	if fmt.Sprint(room) != "[7 8 -9 10 11 12]" {
		t.Errorf("P7.3: Crash changed its picks: %v", room)
	}
}

func TestWhatIsReadIsNew(t *testing.T) {
	f := with(t, add("a", "abc"), sync("a"), add("a", "de"), add("b", "xy"))
	one, _ := f.Read("a")
	other, _ := f.Read("a")
	names, others := f.Names(), f.Names()
	spoil(one)
	clear(names[:cap(names)])
	if string(other) != "abcde" || !slices.Equal(others, []string{"a", "b"}) || laid(f) != "a=abc|de b=|xy" {
		t.Errorf("P7.3: Read, Names share memory: %q, %q, %s", other, others, laid(f))
	}
	if got := laid(f.Crash(-1, -1)); got != "a=abcde| b=xy|" {
		t.Errorf("P7.3: what was read changed ahead of a crash: %s", got)
	}
}

// What was read stays as it was, whatever becomes of the file: its bytes cut off and written anew, too.
func TestWhatWasReadStays(t *testing.T) {
	f := with(t, add("a", "abcdef"))
	b, _ := f.Read("a")
	names := f.Names()
	play(t, "P7.1", f,
		step{truncate("a", 2), api.OK, "a=|ab"},
		step{add("a", "XYZ"), api.OK, "a=|abXYZ"},
		step{rename("a", "c"), api.OK, "c=|abXYZ"},
		step{add("b", ""), api.OK, "b=| c=|abXYZ"},
	)
	if string(b) != "abcdef" || !slices.Equal(names, []string{"a"}) {
		t.Errorf("P7.3: what was read changed: %q, %q", b, names)
	}
}

// What is appended to what was read goes nowhere else.
func TestWhatIsReadHasNoSharedRoom(t *testing.T) {
	f := with(t, add("a", "abc"), add("a", "d"), truncate("a", 2))
	b, _ := f.Read("a")
	b = append(b, "##"...)
	f.Append("a", []byte("ef"))
	if string(b) != "ab##" || laid(f) != "a=|abef" {
		t.Errorf("P7.3: what was read, and the file: %q, %s", b, laid(f))
	}
}

// changed does to each file what can be done to it.
func changed(f *file.FS) {
	for _, name := range f.Names() {
		f.Append(name, []byte("###"))
		f.Truncate(name, 1)
		f.Append(name, []byte("!!!!!!"))
		f.Sync(name)
	}
	f.Rename("a", "z")
	f.Remove("b")
	f.Append("new", []byte("new"))
	f.Cut(0)
	f.Sync("new")
}

// The files that crashed, and those that are left, have nothing in common; nor have those of two crashes.
func TestCrashIsAnother(t *testing.T) {
	f := several(t)
	before := laid(f)
	one, other := f.Crash(1, 2, 3), f.Crash(1, 2, 3)
	want := laid(other)
	changed(one)
	if laid(f) != before || laid(other) != want {
		t.Errorf("P7.3: files behind a crash share memory with others: %s, %s", laid(f), laid(other))
	}
	if e := f.Sync("a"); e != api.OK {
		t.Errorf("P7.3: the power of files behind a crash is that of others: error %d", e)
	}
	f = several(t)
	one = f.Crash(1, 2, 3)
	changed(f)
	if laid(one) != want || one.Sync("a") != api.OK {
		t.Errorf("P7.3: files behind a crash share memory with those that crashed: %s", laid(one))
	}
}

// Two that New made have nothing in common, nor have two files of one.
func TestFilesAreTheirOwn(t *testing.T) {
	f, g := file.New(), file.New()
	f.Append("a", []byte("abc"))
	f.Cut(0)
	f.Sync("a")
	if laid(g) != "" || g.Ops() != 0 || g.Append("b", nil) != api.OK {
		t.Errorf("P7.3: new files after others: %s, %d Ops", laid(g), g.Ops())
	}
	play(t, "P7.3", with(t, add("a", "abcdef"), rename("a", "b"), add("a", "xyz")),
		step{truncate("b", 2), api.OK, "a=|xyz b=|ab"},
		step{add("a", "123"), api.OK, "a=|xyz123 b=|ab"},
		step{add("b", "456"), api.OK, "a=|xyz123 b=|ab456"},
	)
}

// Many small Appends make one file: each stands behind the others, whatever room was left.
func TestManyAppends(t *testing.T) {
	f := file.New()
	var want []byte
	for i := range 20000 {
		one := []byte{byte(i), byte(i >> 8)}[:1+i%2]
		f.Append("a", one)
		want = append(want, one...)
		spoil(one)
	}
	grown(t, f, "a", want, 0)
	if len(f.Names()) != 1 || f.Ops() != 20000 || strings.Join(f.Names(), "") != "a" {
		t.Errorf("P7.2: Names, Ops: %q, %d", f.Names(), f.Ops())
	}
}
