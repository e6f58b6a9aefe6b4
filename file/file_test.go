package file_test

import (
	"bytes"
	"fmt"
	"math"
	"strconv"
	"strings"
	"testing"

	"coracle/api"
	"coracle/file"
)

// How many bytes a name and a file may have: the chapter's numbers.
const (
	longName = 50
	bigFile  = 1 << 24
)

// act is one of the five acts with what it is given, to be asked for of any files.
type act struct {
	what string
	do   func(f *file.FS) api.Errno
}

// brief is a text to be shown, or how long it is.
func brief(s string) string {
	if len(s) > 60 {
		return fmt.Sprintf("%d bytes", len(s))
	}
	return strconv.Quote(s)
}

func add(name, s string) act {
	return act{fmt.Sprintf("Append(%q, %s)", name, brief(s)), func(f *file.FS) api.Errno { return f.Append(name, []byte(s)) }}
}

func sync(name string) act {
	return act{fmt.Sprintf("Sync(%q)", name), func(f *file.FS) api.Errno { return f.Sync(name) }}
}

func rename(from, to string) act {
	return act{fmt.Sprintf("Rename(%q, %q)", from, to), func(f *file.FS) api.Errno { return f.Rename(from, to) }}
}

func remove(name string) act {
	return act{fmt.Sprintf("Remove(%q)", name), func(f *file.FS) api.Errno { return f.Remove(name) }}
}

func truncate(name string, n int) act {
	return act{fmt.Sprintf("Truncate(%q, %d)", name, n), func(f *file.FS) api.Errno { return f.Truncate(name, n) }}
}

// step is an act, the error that it must tell, and how all files must lie behind it (see laid).
type step struct {
	act   act
	e     api.Errno
	files string
}

// laid is all that f tells of its files, by their names: of each its safe bytes, a bar, and those that are not safe.
func laid(f *file.FS) string {
	var l []string
	for _, name := range f.Names() {
		b, e := f.Read(name)
		safe := f.Safe(name)
		if e != api.OK || safe < 0 || safe > len(b) {
			return fmt.Sprintf("%q: %q, error %d, %d safe", name, b, e, safe)
		}
		l = append(l, fmt.Sprintf("%s=%s|%s", name, b[:safe], b[safe:]))
	}
	return strings.Join(l, " ")
}

// play asks f for the acts, one behind the other, and fails where one is not as its step says.
func play(t *testing.T, promise string, f *file.FS, steps ...step) {
	t.Helper()
	for i, s := range steps {
		before := f.Ops()
		if e := s.act.do(f); e != s.e {
			t.Errorf("%s: %d: %s: error %d, want %d", promise, i, s.act.what, e, s.e)
		}
		if got := laid(f); got != s.files {
			t.Errorf("%s: %d: behind %s:\n got %s\nwant %s", promise, i, s.act.what, got, s.files)
		}
		if got := f.Ops(); got != before+1 {
			t.Errorf("P7.2: %d: Ops behind %s: %d, want %d", i, s.act.what, got, before+1)
		}
	}
}

// with is files behind acts that all must be done.
func with(t *testing.T, acts ...act) *file.FS {
	t.Helper()
	f := file.New()
	for _, a := range acts {
		if e := a.do(f); e != api.OK {
			t.Fatalf("%s: error %d", a.what, e)
		}
	}
	return f
}

func TestNewHasNothing(t *testing.T) {
	f := file.New()
	b, e := f.Read("a")
	if len(b) != 0 || e != api.ErrNone || len(f.Names()) != 0 || f.Safe("a") != -1 || f.Ops() != 0 {
		t.Errorf("P7.2: new files: %q, error %d, %q, %d, %d", b, e, f.Names(), f.Safe("a"), f.Ops())
	}
}

func TestAppend(t *testing.T) {
	play(t, "P7.1", file.New(),
		step{add("a", "abc"), api.OK, "a=|abc"},
		step{add("a", "de"), api.OK, "a=|abcde"},
		step{add("a", ""), api.OK, "a=|abcde"},
		step{add("b", ""), api.OK, "a=|abcde b=|"},
		step{add("b", "\x00\xff"), api.OK, "a=|abcde b=|\x00\xff"},
		step{sync("a"), api.OK, "a=abcde| b=|\x00\xff"},
		step{add("a", "f"), api.OK, "a=abcde|f b=|\x00\xff"},
		step{add("a", ""), api.OK, "a=abcde|f b=|\x00\xff"},
		step{add("A", "x"), api.OK, "A=|x a=abcde|f b=|\x00\xff"},
	)
	f := file.New()
	if e := f.Append("a", nil); e != api.OK || laid(f) != "a=|" {
		t.Errorf("P7.1: Append of nil to a new file: error %d, %s", e, laid(f))
	}
}

// A file that was taken away is made anew: nothing of the old one is left in it.
func TestAppendMakesAnew(t *testing.T) {
	play(t, "P7.1", with(t, add("a", "old"), sync("a"), remove("a")),
		step{add("a", ""), api.OK, "a=|"},
		step{add("a", "x"), api.OK, "a=|x"},
		step{rename("a", "b"), api.OK, "b=|x"},
		step{add("a", "y"), api.OK, "a=|y b=|x"},
	)
}

func TestSync(t *testing.T) {
	play(t, "P7.1", with(t, add("a", "abc"), add("b", "xy"), add("c", "")),
		step{sync("d"), api.ErrNone, "a=|abc b=|xy c=|"},
		step{sync("b"), api.OK, "a=|abc b=xy| c=|"},
		step{sync("b"), api.OK, "a=|abc b=xy| c=|"},
		step{add("b", "z"), api.OK, "a=|abc b=xy|z c=|"},
		step{sync("b"), api.OK, "a=|abc b=xyz| c=|"},
		step{sync("c"), api.OK, "a=|abc b=xyz| c=|"},
		step{sync("a"), api.OK, "a=abc| b=xyz| c=|"},
	)
}

func TestRename(t *testing.T) {
	f := with(t, add("a", "abc"), sync("a"), add("a", "de"), add("b", "xyz"), sync("b"), add("c", "c"))
	play(t, "P7.1", f,
		step{rename("d", "a"), api.ErrNone, "a=abc|de b=xyz| c=|c"},
		step{rename("d", "d"), api.ErrNone, "a=abc|de b=xyz| c=|c"},
		step{rename("a", "a"), api.OK, "a=abc|de b=xyz| c=|c"},
		step{rename("a", "d"), api.OK, "b=xyz| c=|c d=abc|de"},
		step{rename("a", "d"), api.ErrNone, "b=xyz| c=|c d=abc|de"},
		step{rename("d", "b"), api.OK, "b=abc|de c=|c"},
		step{rename("c", "b"), api.OK, "b=|c"},
		step{rename("b", "b"), api.OK, "b=|c"},
		step{add("b", "d"), api.OK, "b=|cd"},
		step{add("a", "new"), api.OK, "a=|new b=|cd"},
	)
}

func TestRemove(t *testing.T) {
	play(t, "P7.1", with(t, add("a", "abc"), sync("a"), add("b", "xy"), add("c", "")),
		step{remove("d"), api.ErrNone, "a=abc| b=|xy c=|"},
		step{remove("a"), api.OK, "b=|xy c=|"},
		step{remove("a"), api.ErrNone, "b=|xy c=|"},
		step{remove("c"), api.OK, "b=|xy"},
		step{remove("b"), api.OK, ""},
		step{remove("b"), api.ErrNone, ""},
	)
}

func TestTruncate(t *testing.T) {
	play(t, "P7.1", with(t, add("a", "abcd"), sync("a"), add("a", "efgh"), add("b", "xy")),
		step{truncate("c", 0), api.ErrNone, "a=abcd|efgh b=|xy"},
		step{truncate("a", -1), api.ErrArg, "a=abcd|efgh b=|xy"},
		step{truncate("a", 9), api.ErrArg, "a=abcd|efgh b=|xy"},
		step{truncate("a", math.MinInt), api.ErrArg, "a=abcd|efgh b=|xy"},
		step{truncate("a", math.MaxInt), api.ErrArg, "a=abcd|efgh b=|xy"},
		step{truncate("a", 1<<32), api.ErrArg, "a=abcd|efgh b=|xy"},
		step{truncate("a", 8), api.OK, "a=abcd|efgh b=|xy"},
		step{truncate("a", 6), api.OK, "a=abcd|ef b=|xy"},
		step{truncate("a", 8), api.ErrArg, "a=abcd|ef b=|xy"},
		step{truncate("a", 5), api.OK, "a=abcd|e b=|xy"},
		step{truncate("a", 4), api.OK, "a=abcd| b=|xy"},
		step{add("a", "XY"), api.OK, "a=abcd|XY b=|xy"},
		step{truncate("a", 3), api.OK, "a=abc| b=|xy"},
		step{add("a", "Z"), api.OK, "a=abc|Z b=|xy"},
		step{sync("a"), api.OK, "a=abcZ| b=|xy"},
		step{truncate("a", 2), api.OK, "a=ab| b=|xy"},
		step{truncate("a", 0), api.OK, "a=| b=|xy"},
		step{truncate("a", 0), api.OK, "a=| b=|xy"},
		step{truncate("a", 1), api.ErrArg, "a=| b=|xy"},
		step{truncate("b", 1), api.OK, "a=| b=|x"},
		step{truncate("b", 0), api.OK, "a=| b=|"},
	)
}

// named is all acts on a name, either place of a Rename among them; the other name is b.
func named(name string) []act {
	return []act{add(name, "x"), sync(name), rename(name, "b"), rename("b", name), remove(name), truncate(name, 0)}
}

func TestNamesThatMayNotBe(t *testing.T) {
	f := with(t, add("b", "b"))
	for _, name := range []string{"", strings.Repeat("n", longName+1), strings.Repeat("\x00", longName+1), strings.Repeat("ä", 26), strings.Repeat("n", 1000)} {
		for _, a := range append(named(name), rename(name, name), rename("none", name), truncate(name, -1)) {
			play(t, "P7.1", f, step{a, api.ErrArg, "b=|b"})
		}
	}
}

func TestNamesThatMayBe(t *testing.T) {
	for _, name := range []string{"n", "\x00", "\xff", "\n", " ", "/", "..", "a/b", "ä", strings.Repeat("n", longName), strings.Repeat("\x00", longName), strings.Repeat("ä", 25)} {
		f := file.New()
		for _, a := range []act{add(name, "abc"), sync(name), rename(name, "b"), rename("b", name), truncate(name, 1)} {
			if e := a.do(f); e != api.OK {
				t.Errorf("P7.1: %s: error %d", a.what, e)
			}
		}
		if got := laid(f); got != name+"=a|" {
			t.Errorf("P7.1: files under %q: %q", name, got)
		}
		if e := f.Remove(name); e != api.OK || laid(f) != "" {
			t.Errorf("P7.1: Remove(%q): error %d, %q", name, e, laid(f))
		}
	}
}

// Names are told apart by all of their bytes, and by nothing else.
func TestNamesAreTheirBytes(t *testing.T) {
	long := strings.Repeat("n", longName-1)
	play(t, "P7.1", with(t, add(long+"a", "1"), add(long+"b", "2"), add("k", "3"), add("K", "4"), add("e\u0301", "5"), add("\u00e9", "6")),
		step{remove(long), api.ErrNone, "K=|4 e\u0301=|5 k=|3 " + long + "a=|1 " + long + "b=|2 \u00e9=|6"},
		step{remove(long + "a"), api.OK, "K=|4 e\u0301=|5 k=|3 " + long + "b=|2 \u00e9=|6"},
		step{remove("k"), api.OK, "K=|4 e\u0301=|5 " + long + "b=|2 \u00e9=|6"},
		step{remove("\u00e9"), api.OK, "K=|4 e\u0301=|5 " + long + "b=|2"},
	)
}

// grown is how a file must lie whose bytes are too many to be shown.
func grown(t *testing.T, f *file.FS, name string, want []byte, safe int) {
	t.Helper()
	b, e := f.Read(name)
	if e != api.OK || !bytes.Equal(b, want) || f.Safe(name) != safe {
		t.Errorf("P7.1: %s: %d bytes, error %d, %d safe; want %d, %d safe", name, len(b), e, f.Safe(name), len(want), safe)
	}
}

func TestAppendToTheLimit(t *testing.T) {
	most := bytes.Repeat([]byte("0123456789abcdef"), bigFile/16)
	more := append(bytes.Clone(most), 'x')
	f := file.New()
	if e := f.Append("a", more); e != api.ErrBig || len(f.Names()) != 0 || f.Safe("a") != -1 {
		t.Errorf("P7.1: a new file of one byte too many: error %d, %q", e, f.Names())
	}
	if e := f.Append("a", most); e != api.OK {
		t.Errorf("P7.1: a new file of 2^24 bytes: error %d", e)
	}
	grown(t, f, "a", most, 0)
	if e := f.Append("a", []byte("x")); e != api.ErrBig {
		t.Errorf("P7.1: one byte behind 2^24: error %d", e)
	}
	if e := f.Append("a", more); e != api.ErrBig {
		t.Errorf("P7.1: as many again, and one, behind 2^24: error %d", e)
	}
	grown(t, f, "a", most, 0)
	if e := f.Append("a", nil); e != api.OK {
		t.Errorf("P7.1: nothing behind 2^24: error %d", e)
	}
	if e := f.Append("b", []byte("x")); e != api.OK || laid(f.Crash(1)) != "a=0| b=|" {
		t.Errorf("P7.1: another file beside one of 2^24: error %d", e)
	}
}

// The limit is asked of what the file would have, safe or not, and not of what it had once.
func TestAppendBelowTheLimit(t *testing.T) {
	most := bytes.Repeat([]byte("0123456789abcdef"), bigFile/16)
	f := file.New()
	f.Append("a", most[:bigFile-3])
	f.Sync("a")
	for i, e := range []api.Errno{f.Append("a", []byte("wxyz")), f.Append("a", []byte("wx")), f.Append("a", []byte("yz")), f.Append("a", []byte("y")), f.Append("a", []byte("z"))} {
		if want := []api.Errno{api.ErrBig, api.OK, api.ErrBig, api.OK, api.ErrBig}[i]; e != want {
			t.Errorf("P7.1: %d: Append close to 2^24: error %d, want %d", i, e, want)
		}
	}
	full := append(bytes.Clone(most[:bigFile-3]), "wxy"...)
	grown(t, f, "a", full, bigFile-3)
	for i, e := range []api.Errno{f.Truncate("a", bigFile+1), f.Truncate("a", bigFile), f.Truncate("a", bigFile-1), f.Append("a", []byte("zz")), f.Append("a", []byte("z"))} {
		if want := []api.Errno{api.ErrArg, api.OK, api.OK, api.ErrBig, api.OK}[i]; e != want {
			t.Errorf("P7.1: %d: Truncate, Append at 2^24: error %d, want %d", i, e, want)
		}
	}
	full[bigFile-1] = 'z'
	grown(t, f, "a", full, bigFile-3)
}

// Where several errors hold, the first one of the chapter's sentences is told: a name that may not be, then a file that is not there, then its number.
func TestWhichErrorIsTold(t *testing.T) {
	big := string(make([]byte, bigFile+1))
	f := with(t, add("a", "abc"))
	for _, s := range []step{
		{add("", big), api.ErrArg, "a=|abc"},
		{add("b", big), api.ErrBig, "a=|abc"},
		{add("a", big[:bigFile-2]), api.ErrBig, "a=|abc"},
		{rename("none", ""), api.ErrArg, "a=|abc"},
		{rename("", "none"), api.ErrArg, "a=|abc"},
		{truncate("", -1), api.ErrArg, "a=|abc"},
		{truncate("none", -1), api.ErrNone, "a=|abc"},
		{truncate("none", 1), api.ErrNone, "a=|abc"},
		{truncate("a", 4), api.ErrArg, "a=|abc"},
	} {
		play(t, "P7.1", f, s)
	}
}
