package kv_test

import (
	"fmt"
	"slices"
	"sort"
	"strings"
	"testing"

	"coracle/api"
	"coracle/file"
	"coracle/kv"
	"coracle/wal"
)

// How many bytes a key and a value may have, how many pairs a batch, how many bytes a record and a file: the chapters' numbers.
const (
	longKey   = 100
	longValue = 1 << 17
	manyPairs = 1000
	bigRecord = 1 << 20
	bigFile   = 1 << 24
)

// open fails, unless a store of this name opens.
func open(t *testing.T, f *file.FS, name string) *kv.Store {
	t.Helper()
	s, e := kv.Open(f, name)
	if e != api.OK || s == nil || s.Dead() || s.Batches() != 0 {
		t.Fatalf("P9.1: Open(%q): %v, error %d", name, s, e)
	}
	return s
}

// told fails, unless an act told this error.
func told(t *testing.T, what string, e, want api.Errno) {
	t.Helper()
	if e != want {
		t.Errorf("P9.1: %s: error %d, want %d", what, e, want)
	}
}

// pair is a key that has a value.
func pair(key, value string) kv.Pair {
	return kv.Pair{Key: key, Value: value}
}

// gone is a key that goes.
func gone(key string) kv.Pair {
	return kv.Pair{Key: key, Gone: true}
}

// put puts a batch, which must be taken.
func put(t *testing.T, s *kv.Store, batch ...kv.Pair) {
	t.Helper()
	told(t, "Put("+shown(batch)+")", s.Put(batch), api.OK)
}

// compact must be told OK.
func compact(t *testing.T, s *kv.Store) {
	t.Helper()
	told(t, "Compact", s.Compact(), api.OK)
}

// brief is a text to be shown, or how it begins and how long it is.
func brief(s string) string {
	if len(s) > 40 {
		return fmt.Sprintf("%q.. of %d bytes", s[:8], len(s))
	}
	return fmt.Sprintf("%q", s)
}

// shown is pairs in order, the first ones of many.
func shown(pairs []kv.Pair) string {
	var l []string
	for i, p := range pairs {
		if i == 20 {
			l = append(l, fmt.Sprintf(".. %d in all", len(pairs)))
			break
		}
		text := brief(p.Key) + "=" + brief(p.Value)
		if p.Gone {
			text += " gone"
		}
		l = append(l, text)
	}
	return "[" + strings.Join(l, ", ") + "]"
}

// after is what pairs become by batches: told the slow way, by looking through a list.
func after(pairs []kv.Pair, batches ...[]kv.Pair) []kv.Pair {
	l := slices.Clone(pairs)
	for _, p := range slices.Concat(batches...) {
		l = slices.DeleteFunc(l, func(q kv.Pair) bool { return q.Key == p.Key })
		if !p.Gone {
			l = append(l, p)
		}
	}
	sort.Slice(l, func(i, j int) bool { return l[i].Key < l[j].Key })
	return l
}

// beginning is the keys of pairs that begin so.
func beginning(pairs []kv.Pair, prefix string) []string {
	var l []string
	for _, p := range pairs {
		if len(p.Key) >= len(prefix) && p.Key[:len(prefix)] == prefix {
			l = append(l, p.Key)
		}
	}
	return l
}

// holds fails, unless a store has these pairs and no others, whichever way it is asked.
func holds(t *testing.T, what string, s *kv.Store, want []kv.Pair) {
	t.Helper()
	if got := s.All(); !slices.Equal(got, want) {
		t.Fatalf("P9.1: %s: All: %s\nwant %s", what, shown(got), shown(want))
	}
	for _, p := range want {
		if value, ok := s.Get(p.Key); !ok || value != p.Value {
			t.Errorf("P9.1: %s: Get(%s): %s, %t, want %s", what, brief(p.Key), brief(value), ok, brief(p.Value))
		}
	}
	for _, key := range []string{"", "never there", "never there" + strings.Repeat("x", longKey)} {
		if value, ok := s.Get(key); ok || value != "" {
			t.Errorf("P9.1: %s: Get(%s): %s, %t, want none", what, brief(key), brief(value), ok)
		}
	}
	for _, prefix := range []string{"", "a", "b", "ab", "c/", "\x00", "\xff", "never there"} {
		if got, want := s.Keys(prefix), beginning(want, prefix); !slices.Equal(got, want) {
			t.Errorf("P9.1: %s: Keys(%q): %q, want %q", what, prefix, got, want)
		}
	}
}

// lasts fails, unless a store under the name kv has these pairs, and is so when it is opened again, here and behind crashes.
func lasts(t *testing.T, what string, f *file.FS, s *kv.Store, want []kv.Pair) {
	t.Helper()
	holds(t, what, s, want)
	holds(t, what+", opened again", open(t, f, "kv"), want)
	for _, picks := range [][]int{nil, {0, 0}, {1, 1}, {-1, -1}} {
		g := f.Crash(picks...)
		holds(t, fmt.Sprintf("%s, behind Crash%v", what, picks), open(t, g, "kv"), want)
		holds(t, fmt.Sprintf("%s, behind Crash%v, opened twice", what, picks), open(t, g, "kv"), want)
	}
}

// again is lasts for much: it opens the store behind one crash alone.
func again(t *testing.T, what string, f *file.FS, s *kv.Store, want []kv.Pair) {
	t.Helper()
	holds(t, what, s, want)
	holds(t, what+", behind a crash", open(t, f.Crash(), "kv"), want)
}

// someBatches are batches of one and several pairs: keys set anew, set twice, gone, gone and back, and such as never were there.
func someBatches() [][]kv.Pair {
	return [][]kv.Pair{
		{pair("a", "1")},
		{gone("a")},
		{gone("a")},
		{pair("b", "2"), pair("a", "1"), pair("b", "3"), gone("x")},
		{pair("a", "1")},
		{pair("c/1", "x"), gone("c/1"), pair("c/2", "y"), gone("c/3"), pair("c/3", "z"), pair("c/3", "")},
		{pair("ab", ""), gone("ab"), gone("ab"), pair("ab", "ab")},
		{gone("a"), pair("a", "2"), gone("a")},
		{pair("\x00", "\x00"), pair("\xff", "\xff\xfe"), pair("\xff\xff", ""), pair("\x00\x00", "\n"), pair("\x00a", "ä")},
		{pair("a", strings.Repeat("v", 252)), pair("b", strings.Repeat("w", 253)), pair("c", strings.Repeat("u", 1<<16))},
		{pair(strings.Repeat("k", longKey), strings.Repeat("k", longKey))},
		{pair("A", "great"), pair("a ", "room"), pair("a", "small"), pair("Z", ""), pair("_", "")},
		{gone("b"), gone("c"), gone("\xff"), gone("\x00"), gone("ab")},
		{pair("é", "1"), pair("e", "2"), pair("z", "3"), pair("ée", "4"), pair("é\x00", "5")},
	}
}

func TestExample(t *testing.T) {
	f := file.New()
	s := open(t, f, "kv")
	put(t, s, pair("a", "1"))
	lasts(t, "Put a = 1", f, s, []kv.Pair{pair("a", "1")})
	put(t, s, gone("a"))
	lasts(t, "Put a Gone", f, s, nil)
}

func TestNewFiles(t *testing.T) {
	f := file.New()
	s := open(t, f, "kv")
	lasts(t, "new files", f, s, nil)
	if s.Batches() != 0 {
		t.Errorf("P9.1: Batches of a new store: %d", s.Batches())
	}
	compact(t, s)
	lasts(t, "Compact of new files", f, s, nil)
}

func TestPut(t *testing.T) {
	f := file.New()
	s := open(t, f, "kv")
	var want []kv.Pair
	for i, batch := range someBatches() {
		put(t, s, batch...)
		want = after(want, batch)
		lasts(t, fmt.Sprintf("batch %d, %s", i, shown(batch)), f, s, want)
		g := file.New()
		alone := open(t, g, "kv")
		put(t, alone, batch...)
		lasts(t, fmt.Sprintf("batch %d alone", i), g, alone, after(nil, batch))
	}
}

// One batch does what its pairs do one by one.
func TestPairByPair(t *testing.T) {
	all := slices.Concat(someBatches()...)
	f, g := file.New(), file.New()
	s, one := open(t, f, "kv"), open(t, g, "kv")
	put(t, s, all...)
	for _, p := range all {
		put(t, one, p)
	}
	want := after(nil, all)
	lasts(t, "one batch", f, s, want)
	lasts(t, "pair by pair", g, one, want)
	if s.Batches() != 1 || one.Batches() != len(all) {
		t.Errorf("P9.1: Batches of one batch: %d; of %d: %d", s.Batches(), len(all), one.Batches())
	}
}

func TestKeys(t *testing.T) {
	f := file.New()
	s := open(t, f, "kv")
	for _, key := range []string{"c/2", "b", "c/10", "c", "é", "\xff", "c/", "C/1", "c\x00", "ca", "\xc3", "cb/1", "\xff\xff"} {
		put(t, s, pair(key, "v"))
	}
	put(t, s, pair("c/9", "v"), gone("c/9"))
	for prefix, want := range map[string][]string{
		"":                             {"C/1", "b", "c", "c\x00", "c/", "c/10", "c/2", "ca", "cb/1", "\xc3", "é", "\xff", "\xff\xff"},
		"c":                            {"c", "c\x00", "c/", "c/10", "c/2", "ca", "cb/1"},
		"c/":                           {"c/", "c/10", "c/2"},
		"c/1":                          {"c/10"},
		"c/10":                         {"c/10"},
		"c/100":                        nil,
		"c/9":                          nil,
		"C":                            {"C/1"},
		"/":                            nil,
		"1":                            nil,
		"\xc3":                         {"\xc3", "é"},
		"\xff":                         {"\xff", "\xff\xff"},
		"\xff\xff":                     {"\xff\xff"},
		"\x00":                         nil,
		strings.Repeat("c", longKey+1): nil,
	} {
		for _, s := range []*kv.Store{s, open(t, f.Crash(), "kv")} {
			if got := s.Keys(prefix); !slices.Equal(got, want) {
				t.Errorf("P9.1: Keys(%q): %q, want %q", prefix, got, want)
			}
		}
	}
}

// What All tells is in the order of the keys' bytes, however it came, and none of it is Gone.
func TestAll(t *testing.T) {
	var batch, back []kv.Pair
	for i := range 256 {
		batch = append(batch, pair(string([]byte{byte(i * 37)}), fmt.Sprint(i)), pair(string([]byte{byte(i * 91), byte(i)}), ""))
	}
	back = slices.Clone(batch)
	slices.Reverse(back)
	for _, l := range [][]kv.Pair{batch, back} {
		f := file.New()
		s := open(t, f, "kv")
		put(t, s, l...)
		put(t, s, gone("\x01"), gone("\xfe"), gone("none"))
		lasts(t, "All", f, s, after(nil, l, []kv.Pair{gone("\x01"), gone("\xfe")}))
		if len(s.All()) != 510 {
			t.Errorf("P9.1: All: %d pairs, want 510", len(s.All()))
		}
	}
}

// A value may be empty, and is there.
func TestGet(t *testing.T) {
	f := file.New()
	s := open(t, f, "kv")
	put(t, s, pair("empty", ""), pair("full", "value"), pair("gone", "value"))
	put(t, s, gone("gone"))
	for range 2 {
		for key, want := range map[string]struct {
			value string
			there bool
		}{"empty": {"", true}, "full": {"value", true}, "gone": {"", false}, "ful": {"", false}, "full ": {"", false}, "Full": {"", false}, "": {"", false}} {
			if value, there := s.Get(key); value != want.value || there != want.there {
				t.Errorf("P9.1: Get(%q): %q, %t, want %q, %t", key, value, there, want.value, want.there)
			}
		}
		s = open(t, f.Crash(), "kv")
	}
}

// logged is how many records a store's log has, and all that stands in its file.
func logged(t *testing.T, f *file.FS) (int, string) {
	t.Helper()
	g := f.Crash(-1, -1)
	l, e := wal.Open(g, "kv")
	if e != api.OK {
		t.Fatalf("P8.1: Open: error %d", e)
	}
	b, _ := g.Read("kv")
	return len(l.Records()), string(b)
}

func TestCompact(t *testing.T) {
	f := file.New()
	s := open(t, f, "kv")
	var want []kv.Pair
	for i, batch := range someBatches() {
		put(t, s, batch...)
		want = after(want, batch)
		compact(t, s)
		lasts(t, fmt.Sprintf("Compact behind batch %d", i), f, s, want)
		compact(t, s)
		lasts(t, fmt.Sprintf("Compact behind Compact, behind batch %d", i), f, s, want)
	}
	put(t, s, pair("behind", "it"), gone("a"))
	want = after(want, []kv.Pair{pair("behind", "it"), gone("a")})
	lasts(t, "Put behind Compacts", f, s, want)
	for _, p := range want {
		put(t, s, gone(p.Key))
	}
	compact(t, s)
	lasts(t, "Compact of nothing", f, s, nil)
	if n, b := logged(t, f); n != 0 || b != "" {
		t.Errorf("P9.1: Compact of nothing keeps %d records, %d bytes", n, len(b))
	}
}

// Just what All tells is kept: nothing else stands in the files, and how it came is not to be seen.
func TestCompactKeepsNothingElse(t *testing.T) {
	f, g := file.New(), file.New()
	s, other := open(t, f, "kv"), open(t, g, "kv")
	for i := range 300 {
		put(t, s, pair("often", fmt.Sprint("old", i)), pair("left", "old"), pair(fmt.Sprint("lost", i), "old"))
		put(t, s, gone(fmt.Sprint("lost", i)))
	}
	put(t, s, pair("often", "last"), gone("left"), pair("stays", "here"))
	_, before := logged(t, f)
	if !strings.Contains(before, "old") || !strings.Contains(before, "lost") {
		t.Errorf("P9.1: ahead of Compact the files have nothing of what is gone")
	}
	compact(t, s)
	put(t, other, pair("stays", "here"))
	put(t, other, pair("often", "last"))
	compact(t, other)
	want := []kv.Pair{pair("often", "last"), pair("stays", "here")}
	lasts(t, "Compact", f, s, want)
	lasts(t, "Compact of what came in another way", g, other, want)
	_, one := logged(t, f)
	_, two := logged(t, g)
	if one != two {
		t.Errorf("P9.1: Compacts of the same pairs keep %q, and %q", one, two)
	}
	if strings.Contains(one, "old") || strings.Contains(one, "lost") || strings.Contains(one, "left") || !strings.Contains(one, "stays") {
		t.Errorf("P9.1: Compact keeps %q", one)
	}
	for _, name := range f.Names() {
		if name != "kv" {
			t.Errorf("P9.1: Compact leaves the file %q", name)
		}
	}
}

// Whatever a store can have, Compact makes smaller, or leaves as small.
func TestCompactOfMuch(t *testing.T) {
	f := file.New()
	s := open(t, f, "kv")
	var want []kv.Pair
	for i := range 3500 {
		p := pair(fmt.Sprintf("m%04d", i*1373%3500), strings.Repeat("v", i%7))
		put(t, s, p)
		want = append(want, p)
	}
	for i := range 20 {
		p := pair(fmt.Sprintf("n%02d", i*7%20), strings.Repeat(string(rune('a'+i)), longValue-i*i))
		put(t, s, p)
		want = append(want, p)
	}
	want = after(nil, want)
	again(t, "much", f, s, want)
	_, before := logged(t, f)
	compact(t, s)
	again(t, "Compact of much", f, s, want)
	if _, b := logged(t, f); len(b) >= len(before) {
		t.Errorf("P9.1: Compact of %d bytes leaves %d", len(before), len(b))
	}
}

func TestBatches(t *testing.T) {
	f := file.New()
	s := open(t, f, "kv")
	n := 0
	counts := func(what string, more int) {
		t.Helper()
		n += more
		if s.Batches() != n {
			t.Errorf("P9.1: Batches behind %s: %d, want %d", what, s.Batches(), n)
		}
	}
	counts("Open", 0)
	put(t, s, pair("a", "1"))
	counts("Put", 1)
	put(t, s, pair("a", "1"), pair("b", "2"), gone("c"))
	counts("Put of three pairs", 1)
	put(t, s, gone("nothing"))
	counts("Put that makes no difference", 1)
	compact(t, s)
	counts("Compact", 1)
	compact(t, s)
	counts("Compact that makes no difference", 1)
	s.Put(nil)
	s.Put([]kv.Pair{pair("", "")})
	s.Put([]kv.Pair{pair("a", strings.Repeat("v", longValue+1))})
	s.Put(bigBatch())
	counts("Puts that are refused", 0)
	s.Get("a")
	s.Keys("")
	s.All()
	counts("what asks", 0)
	if got := open(t, f, "kv").Batches(); got != 0 {
		t.Errorf("P9.1: Batches, opened again: %d", got)
	}
	f.Cut(1)
	told(t, "Put without power for all of it", s.Put([]kv.Pair{pair("a", "2")}), api.ErrOff)
	told(t, "Compact without power", s.Compact(), api.ErrOff)
	counts("ErrOff", 0)
	if got := open(t, f.Crash(-1), "kv").Batches(); got != 0 {
		t.Errorf("P9.1: Batches behind a crash: %d", got)
	}
}

// bigBatch is a batch that may be, but is too long for a record.
func bigBatch() []kv.Pair {
	var l []kv.Pair
	for i := range bigRecord / longValue {
		l = append(l, pair(fmt.Sprint("big", i), strings.Repeat("v", longValue)))
	}
	return l
}

// A store goes on where another one of the name has ended.
func TestOpenedAgain(t *testing.T) {
	f := file.New()
	var want []kv.Pair
	for i := range 40 {
		s := open(t, f, "kv")
		holds(t, fmt.Sprintf("store %d", i), s, want)
		batch := []kv.Pair{pair(fmt.Sprint("k", i%11), fmt.Sprint(i)), gone(fmt.Sprint("k", i*3%11)), pair("last", fmt.Sprint(i))}
		put(t, s, batch...)
		want = after(want, batch)
		if i%5 == 4 {
			compact(t, s)
		}
		lasts(t, fmt.Sprintf("store %d", i), f, s, want)
		if i%2 == 1 {
			f = f.Crash(i, 3*i)
		}
	}
}
