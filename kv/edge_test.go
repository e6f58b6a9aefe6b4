package kv_test

import (
	"fmt"
	"slices"
	"strings"
	"testing"

	"coracle/api"
	"coracle/file"
	"coracle/kv"
	"coracle/wal"
	"coracle/wire"
)

// numbered is a batch of so many pairs, each of another key.
func numbered(n int) []kv.Pair {
	var l []kv.Pair
	for i := range n {
		l = append(l, pair(fmt.Sprintf("m%04d", i), fmt.Sprint(i)))
	}
	return l
}

// edges are batches at the edges, and what becomes of each in a store that has room.
func edges() []struct {
	what  string
	batch []kv.Pair
	want  api.Errno
} {
	key, value := strings.Repeat("k", longKey), strings.Repeat("v", longValue)
	wide := strings.Repeat("ä", longKey/2)
	many := numbered(manyPairs + 1)
	return []struct {
		what  string
		batch []kv.Pair
		want  api.Errno
	}{
		{"no batch", nil, api.ErrArg},
		{"a batch of none", []kv.Pair{}, api.ErrArg},
		{"a batch of 1", many[:1], api.OK},
		{"a batch of 999", many[:manyPairs-1], api.OK},
		{"a batch of 1000", many[:manyPairs], api.OK},
		{"a batch of 1001", many, api.ErrBig},
		{"a batch of 2000", slices.Concat(many[:manyPairs], many[:manyPairs]), api.ErrBig},
		{"1001 of one key", slices.Repeat(many[:1], manyPairs+1), api.ErrBig},
		{"1001 that are gone", slices.Repeat([]kv.Pair{gone("a")}, manyPairs+1), api.ErrBig},
		{"1000 that are gone", slices.Repeat([]kv.Pair{gone("a")}, manyPairs), api.OK},
		{"a key of 0 bytes", []kv.Pair{pair("", "v")}, api.ErrArg},
		{"a key of 0 bytes that is gone", []kv.Pair{gone("")}, api.ErrArg},
		{"a key of 1 byte", []kv.Pair{pair("k", "v")}, api.OK},
		{"a key of 99 bytes", []kv.Pair{pair(key[1:], "v")}, api.OK},
		{"a key of 100 bytes", []kv.Pair{pair(key, "v")}, api.OK},
		{"a key of 100 bytes that is gone", []kv.Pair{gone(key)}, api.OK},
		{"a key of 101 bytes", []kv.Pair{pair(key+"k", "v")}, api.ErrArg},
		{"a key of 101 bytes that is gone", []kv.Pair{gone(key + "k")}, api.ErrArg},
		{"a key of 50 runes, 100 bytes", []kv.Pair{pair(wide, "v")}, api.OK},
		{"a key of 51 runes, 102 bytes", []kv.Pair{pair(wide+"ä", "v")}, api.ErrArg},
		{"a value of 0 bytes", []kv.Pair{pair("k", "")}, api.OK},
		{"a value of 2^17 - 1 bytes", []kv.Pair{pair("k", value[1:])}, api.OK},
		{"a value of 2^17 bytes", []kv.Pair{pair("k", value)}, api.OK},
		{"a value of 2^17 + 1 bytes", []kv.Pair{pair("k", value+"v")}, api.ErrBig},
		{"a value of 2^17 bytes for a key of 100", []kv.Pair{pair(key, value)}, api.OK},
		{"a value of 2^18 bytes", []kv.Pair{pair("k", value+value)}, api.ErrBig},
		{"seven values of 2^17 bytes", bigBatch()[1:], api.OK},
		{"eight values of 2^17 bytes, too long for a record", bigBatch(), api.ErrBig},
		{"a pair that is gone and has a value", []kv.Pair{{Key: "k", Value: "v", Gone: true}}, api.ErrArg},
		{"a pair that is gone and has a value too long", []kv.Pair{{Key: "k", Value: value + "v", Gone: true}}, api.ErrArg},
		{"a pair that is zero", []kv.Pair{{}}, api.ErrArg},
	}
}

func TestEdges(t *testing.T) {
	for _, edge := range edges() {
		f := file.New()
		s := open(t, f, "kv")
		old := []kv.Pair{pair("a", "old"), pair("m0000", "old")}
		put(t, s, old...)
		acts := f.Ops()
		told(t, edge.what, s.Put(edge.batch), edge.want)
		if edge.want != api.OK {
			if s.Batches() != 1 || f.Ops() != acts || s.Dead() {
				t.Errorf("P9.1: %s, refused: Batches %d, %d acts, dead %t", edge.what, s.Batches(), f.Ops()-acts, s.Dead())
			}
			lasts(t, edge.what, f, s, old)
			continue
		}
		lasts(t, edge.what, f, s, after(old, edge.batch))
		compact(t, s)
		lasts(t, edge.what+", then Compact", f, s, after(old, edge.batch))
	}
}

// Of a batch of which one pair may not be, wherever it stands, nothing is done.
func TestOneMayNotBe(t *testing.T) {
	good := []kv.Pair{pair("a", "new"), gone("b"), pair("c", "new"), gone("none")}
	for _, edge := range edges() {
		if edge.want == api.OK || len(edge.batch) != 1 {
			continue
		}
		f := file.New()
		s := open(t, f, "kv")
		old := []kv.Pair{pair("a", "old"), pair("b", "old")}
		put(t, s, old...)
		for i := range len(good) + 1 {
			told(t, fmt.Sprintf("%s, behind %d others", edge.what, i), s.Put(slices.Insert(slices.Clone(good), i, edge.batch[0])), edge.want)
		}
		lasts(t, edge.what+" among others", f, s, old)
		if s.Batches() != 1 {
			t.Errorf("P9.1: Batches behind refused ones: %d", s.Batches())
		}
		put(t, s, good...)
		lasts(t, "the others alone", f, s, after(old, good))
	}
}

// Where several errors hold, which one is told: ErrArg, ErrBig, and 8's, wherever in the batch the pairs stand.
func TestWhichError(t *testing.T) {
	tooLong := pair("k", strings.Repeat("v", longValue+1))
	noKey, longest, withValue := pair("", "v"), pair(strings.Repeat("k", longKey+1), ""), kv.Pair{Key: "k", Value: "v", Gone: true}
	many := numbered(manyPairs + 1)
	cases := []struct {
		what  string
		batch []kv.Pair
		want  api.Errno
	}{
		{"a value too long, then no key", []kv.Pair{tooLong, noKey}, api.ErrArg},
		{"no key, then a value too long", []kv.Pair{noKey, tooLong}, api.ErrArg},
		{"a value too long, then a key too long", []kv.Pair{tooLong, longest}, api.ErrArg},
		{"a value too long, then gone with a value", []kv.Pair{tooLong, withValue}, api.ErrArg},
		{"1001 pairs of no key", make([]kv.Pair, manyPairs+1), api.ErrArg},
		{"1001 pairs, then no key", append(slices.Clone(many), noKey), api.ErrArg},
		{"1001 pairs, then gone with a value", append(slices.Clone(many), withValue), api.ErrArg},
		{"1001 pairs, then a key too long", append(slices.Clone(many), longest), api.ErrArg},
		{"1001 pairs, and a value too long", append(slices.Clone(many), tooLong), api.ErrBig},
		{"too long for a record, then no key", append(bigBatch(), noKey), api.ErrArg},
		{"too long for a record, and a value too long", append(bigBatch(), tooLong), api.ErrBig},
		{"none", nil, api.ErrArg},
		{"1001 pairs", many, api.ErrBig},
		{"a value too long", []kv.Pair{tooLong}, api.ErrBig},
		{"too long for a record", bigBatch(), api.ErrBig},
	}
	f := file.New()
	s := open(t, f, "kv")
	put(t, s, pair("a", "1"))
	check := func(how string, s *kv.Store) {
		t.Helper()
		for _, c := range cases {
			told(t, c.what+", "+how, s.Put(c.batch), c.want)
		}
	}
	check("with power", s)
	f.Cut(0)
	check("without power", s)
	if s.Dead() {
		t.Errorf("P9.1: dead ahead of any ErrOff")
	}
	told(t, "Put without power", s.Put(many[:1]), api.ErrOff)
	check("dead", s)
	check("nil", nil)
	for _, s := range []*kv.Store{s, nil} {
		told(t, "Put, dead", s.Put(many[:manyPairs]), api.ErrOff)
		told(t, "Compact, dead", s.Compact(), api.ErrOff)
	}
}

// fill puts values of 2^17 bytes under keys of their own till the file takes none any more.
func fill(t *testing.T, s *kv.Store) []kv.Pair {
	t.Helper()
	var want []kv.Pair
	for i := range bigFile / longValue {
		p := pair(fmt.Sprintf("full%03d", i), strings.Repeat("v", longValue))
		e := s.Put([]kv.Pair{p})
		if e == api.ErrBig {
			return want
		}
		told(t, "Put", e, api.OK)
		want = append(want, p)
	}
	t.Fatalf("P9.1: a file of 2^24 bytes takes %d values of 2^17", len(want))
	return nil
}

func TestFullFile(t *testing.T) {
	f := file.New()
	s := open(t, f, "kv")
	want := fill(t, s)
	if len(want) < bigFile/longValue-2 || s.Batches() != len(want) || s.Dead() {
		t.Errorf("P9.1: a full store: %d values, Batches %d, dead %t", len(want), s.Batches(), s.Dead())
	}
	told(t, "Put to a full file", s.Put([]kv.Pair{pair("full000", "new"), pair("x", strings.Repeat("v", longValue))}), api.ErrBig)
	again(t, "a full file", f, s, want)
	compact(t, s)
	again(t, "Compact of a full file", f, s, want)
	batch := []kv.Pair{pair("x", "1"), gone("full003")}
	put(t, s, batch...)
	want = after(want, batch)
	again(t, "a small Put to a full file", f, s, want)
	told(t, "Put to a full file that has lost a value", s.Put([]kv.Pair{pair("y", strings.Repeat("w", longValue))}), api.ErrBig)
	compact(t, s)
	more := pair("y", strings.Repeat("w", longValue))
	put(t, s, more)
	again(t, "Put behind the Compact that made room", f, s, after(want, []kv.Pair{more}))
}

// A key put again and again fills the file, and Compact makes room.
func TestFullOfOneKey(t *testing.T) {
	f := file.New()
	s := open(t, f, "kv")
	for round := range 2 {
		var last kv.Pair
		for i := 0; ; i++ {
			p := pair("one", strings.Repeat(string(rune('a'+i%26)), longValue-i))
			e := s.Put([]kv.Pair{p})
			if e == api.ErrBig {
				break
			}
			told(t, "Put", e, api.OK)
			last = p
		}
		again(t, fmt.Sprintf("full of one key, round %d", round), f, s, []kv.Pair{last})
		compact(t, s)
		again(t, fmt.Sprintf("Compact of one key, round %d", round), f, s, []kv.Pair{last})
	}
}

func TestNames(t *testing.T) {
	for name, want := range map[string]api.Errno{
		"":                       api.ErrArg,
		"a":                      api.OK,
		"\x00":                   api.OK,
		"ä/..\n":                 api.OK,
		strings.Repeat("n", 40):  api.OK,
		strings.Repeat("n", 41):  api.ErrArg,
		strings.Repeat("ä", 20):  api.OK,
		strings.Repeat("ä", 21):  api.ErrArg,
		strings.Repeat("n", 500): api.ErrArg,
	} {
		f := file.New()
		s, e := kv.Open(f, name)
		told(t, "Open("+brief(name)+")", e, want)
		if s2, e := kv.Open(nil, name); s2 != nil || e != api.ErrArg {
			t.Errorf("P9.1: Open(nil, %s): %v, error %d, want %d", brief(name), s2, e, api.ErrArg)
		}
		if want != api.OK {
			if s != nil || len(f.Names()) != 0 {
				t.Errorf("P9.1: Open(%s), refused: %v, files %q", brief(name), s, f.Names())
			}
			continue
		}
		put(t, s, pair("a", "1"))
		compact(t, s)
		put(t, s, pair("b", "2"))
		holds(t, brief(name), open(t, f.Crash(), name), []kv.Pair{pair("a", "1"), pair("b", "2")})
		for _, got := range f.Names() {
			if !strings.HasPrefix(got, name) {
				t.Errorf("P9.1: %q has the file %q, which is not its own", name, got)
			}
		}
	}
}

// laid is files with a log of the name kv that has these records.
func laid(t *testing.T, records ...[]byte) *file.FS {
	t.Helper()
	f := file.New()
	l, e := wal.Open(f, "kv")
	if e != api.OK || l.Reset(records) != api.OK {
		t.Fatalf("P8.1: a log of %d records: error %d", len(records), e)
	}
	return f
}

// record is a batch, each pair by what it says of being gone, its key and its value, as it would stand in the log: also one that may not be.
func record(n int, pairs ...any) []byte {
	var w wire.Writer
	w.Num(n)
	for i := 0; i < len(pairs); i += 3 {
		w.Num(pairs[i].(int))
		w.Text(pairs[i+1].(string))
		w.Text(pairs[i+2].(string))
	}
	return w.Bytes()
}

// many is so many pairs for record.
func many(n int) []any {
	var l []any
	for range n {
		l = append(l, 0, "k", "v")
	}
	return l
}

func TestRecordsOfOthers(t *testing.T) {
	key, value := strings.Repeat("k", longKey), strings.Repeat("v", longValue)
	for what, b := range map[string][]byte{
		"nothing":                       {},
		"a text":                        []byte("somebody else's record"),
		"a number":                      {7},
		"noughts":                       make([]byte, 40),
		"255s":                          []byte(strings.Repeat("\xff", 40)),
		"a batch of none":               record(0),
		"a batch of 1001":               record(1001, many(1001)...),
		"a key of 0 bytes":              record(1, 0, "", "v"),
		"a key of 0 bytes, gone":        record(1, 1, "", ""),
		"a key of 101 bytes":            record(1, 0, key+"k", "v"),
		"a value of 2^17 + 1 bytes":     record(1, 0, "k", value+"v"),
		"gone with a value":             record(1, 1, "k", "v"),
		"neither gone nor there":        record(1, 2, "k", ""),
		"a pair less than told":         record(3, many(2)...),
		"a pair more than told":         record(1, many(2)...),
		"more pairs than can be":        record(1<<40, many(2)...),
		"a bad pair behind a good one":  record(2, 0, "k", "v", 0, "", "v"),
		"a bad pair ahead of a good":    record(2, 0, "", "v", 0, "k", "v"),
		"a number of a longer form":     slices.Concat([]byte{253, 1, 0}, record(1, many(1)...)[1:]),
		"a key longer than the record":  {1, 0, 100, 'k', 0},
		"a value longer than the bytes": {1, 0, 1, 'k', 9, 'v'},
		"a key of 2^62 bytes":           {1, 0, 255, 0, 0, 0, 0, 0, 0, 0, 64, 'k'},
	} {
		good := record(1, 0, "k", "v")
		for _, records := range [][][]byte{{b}, {good, b}, {b, good}, {good, b, good}} {
			f := laid(t, records...)
			for range 2 {
				if s, e := kv.Open(f, "kv"); s != nil || e != api.ErrBad {
					t.Errorf("P9.1: Open on %s, among %d records: %v, error %d, want %d", what, len(records), s, e, api.ErrBad)
				}
			}
			open(t, f, "other")
		}
	}
}

// What the records of others are told apart by: the same forms, but all may be.
func TestRecordsOfItsOwn(t *testing.T) {
	key, value := strings.Repeat("k", longKey), strings.Repeat("v", longValue)
	f := laid(t, record(1, 0, "k", "v"), record(1, 1, "k", ""), record(1, 0, key, value), record(1000, many(1000)...), record(2, 1, "none", "", 0, "empty", ""))
	lasts(t, "records of its own", f, open(t, f, "kv"), []kv.Pair{pair("empty", ""), pair("k", "v"), pair(key, value)})
	holds(t, "a log of no records", open(t, laid(t), "kv"), nil)
}

// A record that is cut, or has more behind it, is none of a store's, wherever it is cut; its tail is no torn one.
func TestRecordsCut(t *testing.T) {
	f := file.New()
	s := open(t, f, "kv")
	put(t, s, pair("key", "value"), gone("other"), pair("empty", ""), pair("last", "end"))
	l, _ := wal.Open(f, "kv")
	b := l.Records()[0]
	for n := range b {
		if s, e := kv.Open(laid(t, b[:n]), "kv"); s != nil || e != api.ErrBad {
			t.Errorf("P9.1: Open on %d of %d bytes: %v, error %d, want %d", n, len(b), s, e, api.ErrBad)
		}
	}
	for _, more := range []string{"\x00", "\x01", "x", string(b)} {
		if s, e := kv.Open(laid(t, append(slices.Clone(b), more...)), "kv"); s != nil || e != api.ErrBad {
			t.Errorf("P9.1: Open on a record and %q: %v, error %d, want %d", more, s, e, api.ErrBad)
		}
	}
	holds(t, "the record whole", open(t, laid(t, b), "kv"), s.All())
}

// Without power nothing opens; that is told ahead of a bad record, and behind a name that may not be.
func TestOpenWithoutPower(t *testing.T) {
	f := file.New()
	put(t, open(t, f, "kv"), pair("a", "1"))
	for _, g := range []*file.FS{f, file.New(), laid(t, []byte("x"))} {
		g.Cut(0)
		for range 2 {
			if s, e := kv.Open(g, "kv"); s != nil || e != api.ErrOff {
				t.Errorf("P9.1: Open without power: %v, error %d, want %d", s, e, api.ErrOff)
			}
		}
		if s, e := kv.Open(g, ""); s != nil || e != api.ErrArg {
			t.Errorf("P9.1: Open of no name without power: %v, error %d, want %d", s, e, api.ErrArg)
		}
	}
	holds(t, "behind Opens without power", open(t, f.Crash(), "kv"), []kv.Pair{pair("a", "1")})
}

func TestNilStore(t *testing.T) {
	var s *kv.Store
	for range 2 {
		told(t, "Put to nil", s.Put([]kv.Pair{pair("a", "b"), gone("c")}), api.ErrOff)
		told(t, "Put of none to nil", s.Put(nil), api.ErrArg)
		told(t, "Put of no key to nil", s.Put([]kv.Pair{pair("", "b")}), api.ErrArg)
		told(t, "Put of too much to nil", s.Put([]kv.Pair{pair("a", strings.Repeat("v", longValue+1))}), api.ErrBig)
		told(t, "Compact of nil", s.Compact(), api.ErrOff)
		value, ok := s.Get("a")
		if value != "" || ok || len(s.Keys("")) != 0 || len(s.Keys("a")) != 0 || len(s.All()) != 0 || s.Batches() != 0 || !s.Dead() {
			t.Errorf("P9.1: nil: Get %q, %t, Keys %q, All %s, Batches %d, Dead %t", value, ok, s.Keys(""), shown(s.All()), s.Batches(), s.Dead())
		}
	}
}

// A store that no Open made is on no files: no call of it panics.
func TestZeroStore(t *testing.T) {
	var s kv.Store
	told(t, "Put to a zero store", s.Put([]kv.Pair{pair("a", "b")}), api.ErrOff)
	told(t, "Compact of a zero store", s.Compact(), api.ErrOff)
	if _, ok := s.Get("a"); ok || len(s.Keys("")) != 0 || len(s.All()) != 0 || s.Batches() != 0 || !s.Dead() {
		t.Errorf("P9.1: a zero store: Keys %q, All %s, Batches %d, Dead %t", s.Keys(""), shown(s.All()), s.Batches(), s.Dead())
	}
}

// Once it was told ErrOff a store is dead, and stays as it was told last.
func TestDead(t *testing.T) {
	acts := map[string]func(s *kv.Store) api.Errno{
		"Put":     func(s *kv.Store) api.Errno { return s.Put([]kv.Pair{pair("a", "2"), gone("b"), pair("c", "3")}) },
		"Compact": func(s *kv.Store) api.Errno { return s.Compact() },
	}
	want := []kv.Pair{pair("a", "1"), pair("b", "")}
	for what, act := range acts {
		for cut := range 5 {
			f := file.New()
			s := open(t, f, "kv")
			put(t, s, want...)
			f.Cut(cut)
			e := act(s)
			if e == api.OK {
				if s.Dead() {
					t.Errorf("P9.1: %s behind Cut(%d): OK, but dead", what, cut)
				}
				continue
			}
			told(t, what+" cut short", e, api.ErrOff)
			f.Cut(1000)
			for range 2 {
				if !s.Dead() || s.Batches() != 1 {
					t.Errorf("P9.1: %s behind Cut(%d): Dead %t, Batches %d", what, cut, s.Dead(), s.Batches())
				}
				holds(t, what+" cut short", s, want)
				told(t, what+", dead", act(s), api.ErrOff)
				told(t, "Put, dead", s.Put([]kv.Pair{pair("z", "z")}), api.ErrOff)
				told(t, "Compact, dead", s.Compact(), api.ErrOff)
			}
		}
	}
}

// Stores of unlike names have nothing in common but the files they are in.
func TestTwoStores(t *testing.T) {
	f := file.New()
	s, m := open(t, f, "one"), open(t, f, "two")
	var one, two []kv.Pair
	check := func(what string) {
		t.Helper()
		holds(t, what+": one", s, one)
		holds(t, what+": two", m, two)
		for _, g := range []*file.FS{f, f.Crash(), f.Crash(-1, -1, -1, -1)} {
			holds(t, what+": one, opened again", open(t, g, "one"), one)
			holds(t, what+": two, opened again", open(t, g, "two"), two)
		}
	}
	check("new")
	one = []kv.Pair{pair("a", "1"), pair("b", "2")}
	put(t, s, one...)
	check("Put to one")
	two = []kv.Pair{pair("a", "3")}
	put(t, m, two...)
	check("Put to two")
	put(t, m, gone("b"))
	compact(t, s)
	check("Compact of one")
	put(t, s, gone("a"))
	one = one[1:]
	compact(t, m)
	check("Compact of two")
	if s.Batches() != 3 || m.Batches() != 3 {
		t.Errorf("P9.1: Batches of two stores: %d, %d", s.Batches(), m.Batches())
	}
	f.Cut(1)
	told(t, "Put cut short", s.Put([]kv.Pair{pair("c", "3")}), api.ErrOff)
	if !s.Dead() || m.Dead() {
		t.Errorf("P9.1: one store was told ErrOff: dead are %t, %t", s.Dead(), m.Dead())
	}
	told(t, "Compact without power", m.Compact(), api.ErrOff)
	holds(t, "one, dead", s, one)
	holds(t, "two, dead", m, two)
	g := f.Crash()
	holds(t, "one, behind the crash", open(t, g, "one"), one)
	holds(t, "two, behind the crash", open(t, g, "two"), two)
}

// Stores of one name in unlike files are two.
func TestTwoFiles(t *testing.T) {
	f, g := file.New(), file.New()
	s, m := open(t, f, "kv"), open(t, g, "kv")
	put(t, s, pair("a", "1"))
	put(t, m, pair("b", "2"))
	f.Cut(0)
	told(t, "Put without power", s.Put([]kv.Pair{pair("c", "3")}), api.ErrOff)
	put(t, m, pair("d", "4"))
	lasts(t, "a store in other files than one that is dead", g, m, []kv.Pair{pair("b", "2"), pair("d", "4")})
	holds(t, "the dead one", s, []kv.Pair{pair("a", "1")})
}
