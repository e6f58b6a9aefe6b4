package kv

import (
	"fmt"
	"math/rand"
	"slices"
	"strings"
	"testing"

	"coracle/api"
)

// How many bytes chapter 8 takes as a record, and how many of these are set aside to tell how many pairs it has: a thousand take 3, few take 1.
const (
	wholeRecord = 1 << 20
	countRoom   = 3
)

// packs fails, unless what packed makes is read back as it was, in order, in as many records as are wanted (-1: any), each of which may be, and has no room for the next one's first pair.
func packs(t *testing.T, what string, pairs []Pair, want int) {
	t.Helper()
	var back []Pair
	var sizes []int
	last := 0
	for _, record := range packed(pairs) {
		batch, e := read(record)
		if e != api.OK || len(record) > wholeRecord {
			t.Fatalf("P9.1: %s: a record of %d bytes: error %d", what, len(record), e)
		}
		if n := len(sizes); n > 0 && last < mostPairs && sizes[n-1]+room(batch[0]) <= wholeRecord-countRoom {
			t.Errorf("P9.1: %s: a record of %d bytes has room for a pair of %d", what, sizes[n-1], room(batch[0]))
		}
		sizes, last = append(sizes, len(record)), len(batch)
		back = append(back, batch...)
	}
	if !slices.Equal(back, pairs) {
		t.Errorf("P9.1: %s: %d pairs, read back %d others", what, len(pairs), len(back))
	}
	if want >= 0 && len(sizes) != want {
		t.Errorf("P9.1: %s: %d records, want %d", what, len(sizes), want)
	}
}

// sized is so many pairs, each of a key of so many bytes and a value of so many.
func sized(n, key, value int) []Pair {
	var l []Pair
	for i := range n {
		k := fmt.Sprintf("%04d", i) + strings.Repeat("k", mostKey)
		l = append(l, Pair{Key: k[:key], Value: strings.Repeat("v", value)})
	}
	return l
}

func TestPacked(t *testing.T) {
	packs(t, "none", nil, 0)
	packs(t, "one", sized(1, 4, 0), 1)
	packs(t, "the longest one", sized(1, mostKey, mostValue), 1)
	packs(t, "1000", sized(1000, 4, 1), 1)
	packs(t, "1001", sized(1001, 4, 1), 2)
	packs(t, "2000", sized(2000, 4, 1), 2)
	packs(t, "5001", sized(5001, 4, 0), 6)
	packs(t, "seven long ones", sized(7, mostKey, mostValue), 1)
	packs(t, "eight long ones", sized(8, mostKey, mostValue), 2)
	packs(t, "a hundred long ones", sized(100, mostKey, mostValue), 15)
}

// Where the pairs fill a record to its last byte, one byte more goes into the next.
func TestPackedToTheEdge(t *testing.T) {
	pairs := sized(15, mostKey, 1<<16)
	size := countRoom
	for _, p := range pairs {
		size += room(p)
	}
	last := &pairs[14]
	last.Value = strings.Repeat("w", len(last.Value)+wholeRecord-size)
	packs(t, "to the edge", pairs, 1)
	last.Value += "w"
	packs(t, "one byte beyond the edge", pairs, 2)
}

// What room tells is what write takes.
func TestRoom(t *testing.T) {
	for _, key := range []int{1, 2, 99, 100} {
		for _, value := range []int{0, 1, 252, 253, 1<<16 - 1, 1 << 16, mostValue - 1, mostValue} {
			p := sized(1, key, value)[0]
			if got := len(write([]Pair{p, p})) - len(write([]Pair{p})); got != room(p) {
				t.Errorf("P9.1: a key of %d and a value of %d take %d bytes, room tells %d", key, value, got, room(p))
			}
		}
	}
}

// Lists of pairs drawn in all sizes.
func TestPackedDrawn(t *testing.T) {
	r := rand.New(rand.NewSource(9))
	long := strings.Repeat("v", mostValue)
	for n := range 60 {
		var pairs []Pair
		for i := range r.Intn(60) * r.Intn(60) {
			size := r.Intn(20)
			if r.Intn(1+r.Intn(60)) == 0 {
				size = r.Intn(mostValue)
			}
			pairs = append(pairs, Pair{Key: fmt.Sprintf("%05d", i), Value: long[:size]})
		}
		packs(t, fmt.Sprintf("list %d", n), pairs, -1)
	}
}
