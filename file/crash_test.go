package file_test

import (
	"bytes"
	"fmt"
	"math"
	"slices"
	"strings"
	"testing"

	"coracle/api"
	"coracle/file"
)

// torn fails, unless files that lie as want says are left of f by a crash with these picks: all of them safe, with power, and f as it was.
func torn(t *testing.T, f *file.FS, want string, picks ...int) {
	t.Helper()
	before, ops := laid(f), f.Ops()
	after := f.Crash(picks...)
	if after == nil || after == f {
		t.Fatalf("P7.2: Crash%v: no other files", picks)
	}
	if got := laid(after); got != want {
		t.Errorf("P7.2: Crash%v:\n got %s\nwant %s", picks, got, want)
	}
	if laid(f) != before || f.Ops() != ops {
		t.Errorf("P7.2: Crash%v changed what crashed: %s, %d Ops; it was %s, %d Ops", picks, laid(f), f.Ops(), before, ops)
	}
	if after.Ops() != 0 {
		t.Errorf("P7.2: Crash%v: %d Ops behind it", picks, after.Ops())
	}
	for i := range 20 {
		if e := after.Append("a", nil); e != api.OK {
			t.Fatalf("P7.2: Crash%v: act %d behind it: error %d", picks, i, e)
		}
	}
}

func TestCrashExamples(t *testing.T) {
	torn(t, with(t, add("a", "abc")), "a=|", 0)
	torn(t, with(t, add("a", "abc"), sync("a")), "a=abc|")
}

func TestCrashOfNothing(t *testing.T) {
	torn(t, file.New(), "")
	torn(t, file.New(), "", 1, 2, 3)
	torn(t, with(t, add("a", "")), "a=|")
	torn(t, with(t, add("a", "x"), remove("a")), "", 1)
}

// One file of which three bytes are not safe: a pick counts to three, then begins anew, on either side of 0.
func TestCrashPicks(t *testing.T) {
	f := with(t, add("a", "abc"), sync("a"), add("a", "def"))
	for pick, want := range map[int]string{
		0: "abc", 1: "abcd", 2: "abcde", 3: "abcdef", 4: "abc", 5: "abcd", 7: "abcdef", 8: "abc", 400: "abc", 403: "abcdef",
		-1: "abcdef", -2: "abcde", -3: "abcd", -4: "abc", -5: "abcdef", -8: "abc", -400: "abc", -401: "abcdef",
		1 << 32: "abc", 1<<32 + 2: "abcde", -1<<32 - 1: "abcdef", 1 << 62: "abc",
		math.MaxInt: "abcdef", math.MaxInt - 1: "abcde", math.MinInt: "abc", math.MinInt + 1: "abcd",
	} {
		torn(t, f, "a="+want+"|", pick)
	}
	torn(t, f, "a=abc|")
}

func TestCrashPicksOfEverySize(t *testing.T) {
	text := "abcdefghijklmnopqrstuvwxyz"
	for safe := range len(text) {
		for loose := range len(text) - safe {
			f := with(t, add("a", text[:safe]), sync("a"), add("a", text[safe:safe+loose]))
			for pick := -2*loose - 3; pick <= 2*loose+3; pick++ {
				// Counted up from the least pick on, which is -2 * (loose + 1) - 1: the one below a round.
				left := (pick + 3*(loose+1)) % (loose + 1)
				torn(t, f, fmt.Sprintf("a=%s|", text[:safe+left]), pick)
			}
		}
	}
}

// several is files in part safe, safe, empty, and not safe, made in another order than that of their names.
func several(t *testing.T) *file.FS {
	t.Helper()
	return with(t,
		add("e", "vwxyz"),
		add("c", ""),
		add("b", "opq"), sync("b"),
		add("a", "abc"), sync("a"), add("a", "de"),
		add("d", "r"), sync("d"), add("d", "stu"),
	)
}

// Only a file of which something is not safe takes a pick, and they take them by their names.
func TestCrashOfSeveral(t *testing.T) {
	f := several(t)
	for _, c := range []struct {
		picks []int
		want  string
	}{
		{nil, "a=abc| b=opq| c=| d=r| e=|"},
		{[]int{0, 0, 0}, "a=abc| b=opq| c=| d=r| e=|"},
		{[]int{1}, "a=abcd| b=opq| c=| d=r| e=|"},
		{[]int{2}, "a=abcde| b=opq| c=| d=r| e=|"},
		{[]int{3}, "a=abc| b=opq| c=| d=r| e=|"},
		{[]int{0, 1}, "a=abc| b=opq| c=| d=rs| e=|"},
		{[]int{1, 2}, "a=abcd| b=opq| c=| d=rst| e=|"},
		{[]int{2, 3, 5}, "a=abcde| b=opq| c=| d=rstu| e=vwxyz|"},
		{[]int{3, 4, 6}, "a=abc| b=opq| c=| d=r| e=|"},
		{[]int{4, 6, 7}, "a=abcd| b=opq| c=| d=rst| e=v|"},
		{[]int{-1, -1, -1}, "a=abcde| b=opq| c=| d=rstu| e=vwxyz|"},
		{[]int{-2, -3, -5}, "a=abcd| b=opq| c=| d=rs| e=v|"},
		{[]int{-3, -4, -6}, "a=abc| b=opq| c=| d=r| e=|"},
		{[]int{2, 3, 4, 1, 1, 1}, "a=abcde| b=opq| c=| d=rstu| e=vwxy|"},
		{[]int{0, 0, 1, 9}, "a=abc| b=opq| c=| d=r| e=v|"},
	} {
		torn(t, f, c.want, c.picks...)
	}
}

// Files go by the bytes of their names, not by their letters.
func TestCrashGoesByBytes(t *testing.T) {
	f := with(t, add("b", "xyz"), add("B", "xyz"), add("\xff", "xyz"), add("ba", "xyz"), add("ä", "xyz"), add("\x00", "xyz"))
	if got, want := f.Names(), []string{"\x00", "B", "b", "ba", "ä", "\xff"}; !slices.Equal(got, want) {
		t.Errorf("P7.2: Names: %q, want %q", got, want)
	}
	torn(t, f, "\x00=x| B=xy| b=xyz| ba=| ä=xyz| \xff=xy|", 1, 2, 3, 4, -1, -2)
}

func TestNames(t *testing.T) {
	f := file.New()
	var want []string
	for i := range 300 {
		name := strings.Repeat(string([]byte{byte(i * 77)}), 1+i/256)
		if e := f.Append(name, nil); e != api.OK {
			t.Fatalf("P7.1: Append(%q): error %d", name, e)
		}
		want = append(want, name)
	}
	slices.SortFunc(want, func(a, b string) int { return bytes.Compare([]byte(a), []byte(b)) })
	if got := f.Names(); !slices.Equal(got, want) {
		t.Errorf("P7.2: Names: %q, want %q", got, want)
	}
}

// What was done to names, and cut off, is so behind each crash, whether or not anything is safe.
func TestNamesAreSafeAtOnce(t *testing.T) {
	torn(t, with(t, add("a", "abc"), rename("a", "b")), "b=a|", 1)
	torn(t, with(t, add("a", "abc"), sync("a"), add("a", "d"), rename("a", "b")), "b=abc|")
	torn(t, with(t, add("a", "abc"), sync("a"), add("b", "xyz"), sync("b"), rename("b", "a")), "a=xyz|")
	torn(t, with(t, add("a", "abc"), sync("a"), add("b", "xyz"), rename("b", "a")), "a=xy|", 2)
	torn(t, with(t, add("a", "abc"), sync("a"), rename("a", "a")), "a=abc|")
	torn(t, with(t, add("a", "abc"), sync("a"), remove("a"), add("b", "")), "b=|")
	torn(t, with(t, add("a", "abc"), sync("a"), remove("a"), add("a", "xy")), "a=|")
	torn(t, with(t, add("a", "abc"), sync("a"), truncate("a", 1)), "a=a|")
	torn(t, with(t, add("a", "abc"), sync("a"), truncate("a", 1), add("a", "xyz")), "a=axy|", 2)
	torn(t, with(t, add("a", "abc"), sync("a"), truncate("a", 1), add("a", "xyz")), "a=a|", 4)
	torn(t, with(t, add("a", "abc"), truncate("a", 2)), "a=ab|", -1)
}

// Wherever the power goes, what is left is that of the acts that were come to.
func TestCrashBehindACut(t *testing.T) {
	acts := []act{add("a", "abc"), sync("a"), add("a", "def"), rename("a", "b"), add("a", "xy"), sync("b"), remove("a"), truncate("b", 2)}
	want := []string{"", "a=abc|", "a=abc|", "a=abcdef|", "b=abcdef|", "a=xy| b=abc|", "a=xy| b=abcdef|", "b=abcdef|", "b=ab|"}
	picks := [][]int{nil, {3}, nil, {3}, {3}, {2, 0}, {2}, nil, nil}
	for n := range len(acts) + 1 {
		f := file.New()
		f.Cut(n)
		for i, a := range acts {
			e := a.do(f)
			if (e == api.OK) != (i < n) || i >= n && e != api.ErrOff {
				t.Errorf("P7.2: Cut(%d): %s: error %d", n, a.what, e)
			}
		}
		torn(t, f, want[n], picks[n]...)
	}
}

// A crash gives power back to others, not to the files that crashed.
func TestCrashOfWhatIsOff(t *testing.T) {
	f := with(t, add("a", "abc"), sync("a"), add("a", "de"))
	f.Cut(1)
	torn(t, f, "a=abcd|", 1)
	f.Append("a", nil)
	if e := f.Sync("a"); e != api.ErrOff {
		t.Errorf("P7.2: Sync behind Cut(1), an act and a crash: error %d", e)
	}
	torn(t, f, "a=abcde|", 2)
	if e := f.Sync("a"); e != api.ErrOff {
		t.Errorf("P7.2: Sync behind a crash of what is off: error %d", e)
	}
}

// A crash behind a crash finds all of it safe: no pick is taken.
func TestCrashTwice(t *testing.T) {
	f := several(t)
	once := f.Crash(1, 2, 3)
	torn(t, once, "a=abcd| b=opq| c=| d=rst| e=vwx|")
	once = f.Crash(1, 2, 3)
	torn(t, once, "a=abcd| b=opq| c=| d=rst| e=vwx|", 5, 5, 5)
	if e := once.Append("d", []byte("!?")); e != api.OK {
		t.Errorf("P7.1: Append behind a crash: error %d", e)
	}
	torn(t, once, "a=abcd| b=opq| c=| d=rst!| e=vwx|", 4, 5)
}

func TestCrashOfBigFiles(t *testing.T) {
	most := bytes.Repeat([]byte("0123456789abcdef"), bigFile/16)
	f := file.New()
	f.Append("a", most[:5])
	f.Sync("a")
	f.Append("a", most[5:])
	grown(t, f.Crash(), "a", most[:5], 5)
	grown(t, f.Crash(-1), "a", most, bigFile)
	grown(t, f.Crash(bigFile-5), "a", most, bigFile)
	grown(t, f.Crash(bigFile-4), "a", most[:5], 5)
	grown(t, f.Crash(bigFile-7), "a", most[:bigFile-2], bigFile-2)
}
