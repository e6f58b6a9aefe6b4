package kv_test

import (
	"slices"
	"strings"
	"testing"
	"unsafe"

	"coracle/api"
	"coracle/file"
	"coracle/kv"
)

// roomy is a batch with spare room behind it, and all of that.
func roomy() (batch, room []kv.Pair) {
	room = []kv.Pair{pair("a", "1"), gone("b"), pair("c", "3"), pair("a", "2"), pair("spare", "room"), pair("more", "room")}
	return room[:4], room
}

// spoil overwrites a list and its spare room.
func spoil(l []kv.Pair) {
	l = l[:cap(l)]
	for i := range l {
		l[i] = kv.Pair{Key: "#", Value: "#", Gone: i%2 == 0}
	}
}

func TestPutLeavesAndKeepsNoList(t *testing.T) {
	f := file.New()
	s := open(t, f, "kv")
	batch, room := roomy()
	_, before := roomy()
	want := after(nil, before[:4])
	told(t, "Put", s.Put(batch), api.OK)
	if !slices.Equal(room, before) {
		t.Errorf("P9.3: Put changed what was handed in: %s", shown(room))
	}
	spoil(batch)
	lasts(t, "what was handed in changed behind Put", f, s, want)
	compact(t, s)
	lasts(t, "what was handed in changed behind Put, then Compact", f, s, want)
}

func TestRefusedPutLeavesAndKeepsNoList(t *testing.T) {
	f := file.New()
	s := open(t, f, "kv")
	put(t, s, pair("old", "1"))
	for _, bad := range []kv.Pair{pair("", "v"), {Key: "k", Value: "v", Gone: true}, pair("k", strings.Repeat("v", longValue+1))} {
		batch, room := roomy()
		batch[2] = bad
		before := slices.Clone(room)
		if e := s.Put(batch); e == api.OK {
			t.Errorf("P9.1: Put(%s): not refused", shown(batch))
		}
		if !slices.Equal(room, before) {
			t.Errorf("P9.3: a Put that is refused changed what was handed in: %s", shown(room))
		}
		spoil(batch)
		lasts(t, "a Put that was refused", f, s, []kv.Pair{pair("old", "1")})
	}
	f.Cut(0)
	batch, room := roomy()
	before := slices.Clone(room)
	told(t, "Put without power", s.Put(batch), api.ErrOff)
	if !slices.Equal(room, before) {
		t.Errorf("P9.3: a Put without power changed what was handed in: %s", shown(room))
	}
	spoil(batch)
	holds(t, "a Put without power", s, []kv.Pair{pair("old", "1")})
}

// over is a text that lies over bytes, so that a test can tell whether it was kept: no text of the language itself ever changes.
func over(b []byte) string {
	return unsafe.String(unsafe.SliceData(b), len(b))
}

func TestPutKeepsNoText(t *testing.T) {
	f := file.New()
	name, keys, values := []byte("kv"), []byte("k1k2k3"), []byte("v1v2v3")
	s, e := kv.Open(f, over(name))
	told(t, "Open", e, api.OK)
	put(t, s, pair(over(keys[:2]), over(values[:2])), pair(over(keys[2:4]), over(values[2:4])), pair("k4", "v4"))
	put(t, s, pair(over(keys[:2]), over(values[4:])), gone(over(keys[4:])))
	put(t, s, pair(over(keys[4:]), "v"), gone(over(keys[4:])))
	s.Get(over(keys[:2]))
	s.Keys(over(keys[:1]))
	for _, b := range [][]byte{name, keys, values} {
		for i := range b {
			b[i] = '#'
		}
	}
	want := []kv.Pair{pair("k1", "v3"), pair("k2", "v2"), pair("k4", "v4")}
	holds(t, "texts handed in changed behind Put", s, want)
	compact(t, s)
	put(t, s, pair("k5", "v5"))
	lasts(t, "texts handed in changed behind Put, then Compact", f, s, append(want, pair("k5", "v5")))
}

func TestAllIsNewMemory(t *testing.T) {
	f := file.New()
	s := open(t, f, "kv")
	want := []kv.Pair{pair("a", "1"), pair("b", "2"), pair("c", "3")}
	put(t, s, want...)
	one, other := s.All(), s.All()
	spoil(one)
	if !slices.Equal(other, want) {
		t.Errorf("P9.3: two answers of All share memory: %s", shown(other))
	}
	lasts(t, "an answer of All changed", f, s, want)
	put(t, s, pair("a", "4"), gone("b"))
	compact(t, s)
	if !slices.Equal(other, want) {
		t.Errorf("P9.3: an answer of All changed behind Put and Compact: %s", shown(other))
	}
	lasts(t, "an answer of All changed, then Put", f, s, []kv.Pair{pair("a", "4"), pair("c", "3")})
}

func TestKeysAreNewMemory(t *testing.T) {
	f := file.New()
	s := open(t, f, "kv")
	put(t, s, pair("a", "1"), pair("ab", "2"), pair("b", "3"))
	for _, prefix := range []string{"", "a"} {
		want := s.Keys(prefix)
		one, other := s.Keys(prefix), s.Keys(prefix)
		one = one[:cap(one)]
		for i := range one {
			one[i] = "#"
		}
		if !slices.Equal(other, want) || !slices.Equal(s.Keys(prefix), want) {
			t.Errorf("P9.3: two answers of Keys(%q) share memory: %q", prefix, other)
		}
		put(t, s, gone("a"))
		if !slices.Equal(other, want) {
			t.Errorf("P9.3: an answer of Keys(%q) changed behind Put: %q", prefix, other)
		}
		put(t, s, pair("a", "1"))
	}
	lasts(t, "answers of Keys changed", f, s, []kv.Pair{pair("a", "1"), pair("ab", "2"), pair("b", "3")})
}

// A store's own pairs may be what is put into it, and into another one.
func TestOwnPairsHandedIn(t *testing.T) {
	f, g := file.New(), file.New()
	s, m := open(t, f, "kv"), open(t, g, "kv")
	want := []kv.Pair{pair("a", "1"), pair("b", "2")}
	put(t, s, want...)
	all := s.All()
	put(t, s, all...)
	put(t, m, all...)
	lasts(t, "own pairs put", f, s, want)
	put(t, s, pair("a", "3"))
	lasts(t, "pairs of another store put", g, m, want)
	spoil(all)
	lasts(t, "pairs of another store put, and changed", g, m, want)
	lasts(t, "own pairs put, and changed", f, s, []kv.Pair{pair("a", "3"), pair("b", "2")})
}

// A crash, and the store that opens behind it, share nothing with the store that went on.
func TestStoresOfACrashAreTheirOwn(t *testing.T) {
	f := file.New()
	s := open(t, f, "kv")
	put(t, s, pair("a", "1"))
	g := f.Crash()
	m := open(t, g, "kv")
	put(t, s, pair("s", "1"))
	put(t, m, pair("m", "1"), gone("a"))
	compact(t, m)
	lasts(t, "the store that went on", f, s, []kv.Pair{pair("a", "1"), pair("s", "1")})
	lasts(t, "the store behind the crash", g, m, []kv.Pair{pair("m", "1")})
}
