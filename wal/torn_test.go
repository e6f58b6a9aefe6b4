package wal_test

import (
	"fmt"
	"math/rand"
	"slices"
	"strings"
	"testing"

	"coracle/api"
	"coracle/file"
	"coracle/wal"
)

// written is the bytes of a log's file, and where in it each record ends, behind the beginning.
func written(t *testing.T, row []string) (b []byte, ends []int) {
	t.Helper()
	f := file.New()
	l := open(t, f, "log")
	ends = []int{0}
	for _, s := range row {
		add(t, l, s)
		ends = append(ends, l.Bytes())
	}
	b, _ = f.Read("log")
	return b, ends
}

// lying is files in which a log's file has these bytes, safe or not.
func lying(t *testing.T, b []byte, safe bool) *file.FS {
	t.Helper()
	f := file.New()
	e := f.Append("log", b)
	if safe && e == api.OK {
		e = f.Sync("log")
	}
	if e != api.OK {
		t.Fatalf("P7.1: error %d", e)
	}
	return f
}

// mended fails, unless a log opens on these bytes with these records, and goes on behind them.
func mended(t *testing.T, what string, b []byte, want ...string) {
	t.Helper()
	for _, safe := range []bool{true, false} {
		f := lying(t, b, safe)
		l := open(t, f, "log")
		lasts(t, what, f, l, want...)
		add(t, l, "more")
		lasts(t, what+", then Append", f, l, append(slices.Clone(want), "more")...)
	}
}

// tornRow is records short enough for each of their bytes to be tried.
var tornRow = []string{"abc", "", strings.Repeat("0123456789", 26), "de", "de"}

// Of a file that ends at any byte, the records that are whole are there.
func TestTornTail(t *testing.T) {
	b, ends := written(t, tornRow)
	for n := range len(b) + 1 {
		whole := 0
		for whole < len(tornRow) && ends[whole+1] <= n {
			whole++
		}
		mended(t, fmt.Sprintf("torn behind %d bytes", n), b[:n], tornRow[:whole]...)
	}
}

// Each byte is summed: where one is another, reading ends.
func TestSummed(t *testing.T) {
	b, ends := written(t, tornRow)
	for i := range b {
		whole := 0
		for ends[whole+1] <= i {
			whole++
		}
		for _, other := range []byte{b[i] ^ 1, b[i] ^ 0x80, ^b[i]} {
			bad := slices.Clone(b)
			bad[i] = other
			l := open(t, lying(t, bad, true), "log")
			if got := l.Records(); !alike(got, tornRow[:whole]) || l.Bytes() != ends[whole] {
				t.Fatalf("P8.1: byte %d is %d in place of %d: Records: %s; Bytes %d, want %d", i, other, b[i], shown(got), l.Bytes(), ends[whole])
			}
		}
	}
}

// What no log wrote is a torn tail, behind records or alone.
func TestTailsThatAreNone(t *testing.T) {
	b, _ := written(t, []string{"abc", ""})
	one, _ := written(t, []string{"x"})
	r := rand.New(rand.NewSource(8))
	drawn := make([]byte, 200)
	r.Read(drawn)
	drawn[0] = 9
	tails := [][]byte{
		make([]byte, 1), make([]byte, 32), make([]byte, 33), make([]byte, 34), make([]byte, 1000),
		[]byte("\xff"), []byte("\xfd\x01\x00"), []byte("\xff\xff\xff\xff\xff\xff\xff\xff\xff"), []byte(strings.Repeat("\xff", 100)),
		[]byte("\xff\x00\x00\x00\x00\x00\x00\x00\x40" + strings.Repeat("h", 32)),
		[]byte("\xff\xff\xff\xff\xff\xff\xff\xff\x3f" + strings.Repeat("h", 64)),
		[]byte("\xfe\xff\xff\xff\x7f" + strings.Repeat("h", 64)),
		drawn, one[1:], one[:len(one)-1], slices.Concat([]byte{0}, one), slices.Concat(one[:len(one)-1], one),
	}
	for i, tail := range tails {
		mended(t, fmt.Sprintf("tail %d", i), slices.Concat(b, tail), "abc", "")
		mended(t, fmt.Sprintf("tail %d alone", i), tail)
	}
}

// Behind a torn record none is read, whole as it may be.
func TestNothingBehindATear(t *testing.T) {
	b, ends := written(t, []string{"a", "b", "c"})
	mended(t, "a record torn out", slices.Concat(b[:ends[1]], b[ends[1]+1:]), "a")
	mended(t, "a record cut short", slices.Concat(b[:ends[2]-1], b[ends[2]:]), "a")
	mended(t, "a byte between", slices.Concat(b[:ends[1]], []byte("?"), b[ends[1]:]), "a")
}

// A log's bytes are read as what they are, in whichever files they came to lie.
func TestBytesAreRead(t *testing.T) {
	for _, row := range rows() {
		b, _ := written(t, row)
		mended(t, "a log's bytes in other files", b, row...)
	}
}

// What Open has told of is kept, also where it was not safe ahead of that, and the power goes right behind.
func TestWhatIsOpenedIsSafe(t *testing.T) {
	b, _ := written(t, []string{"abc", "de"})
	for cut := range 20 {
		f := lying(t, b, false)
		f.Cut(cut)
		if _, e := wal.Open(f, "log"); e != api.OK {
			continue
		}
		after := f.Crash()
		holds(t, fmt.Sprintf("behind Cut(%d) and Open", cut), after, open(t, after, "log"), "abc", "de")
	}
}
