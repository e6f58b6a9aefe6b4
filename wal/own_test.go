package wal

import (
	"testing"

	"coracle/api"
	"coracle/file"
)

// A record that is longer than one may be is none that a log wrote, though its sum is its own.
func TestTooLongIsTorn(t *testing.T) {
	for size, want := range map[int]int{mostRecord: 2, mostRecord + 1: 1} {
		f := file.New()
		if e := f.Append("log", append(frame([]byte("a")), frame(make([]byte, size))...)); e != api.OK {
			t.Fatalf("P7.1: Append: error %d", e)
		}
		l, e := Open(f, "log")
		if e != api.OK || len(l.Records()) != want {
			t.Errorf("P8.1: Open on a record of %d bytes: error %d, %d Records, want %d", size, e, len(l.Records()), want)
		}
	}
}
