package point_test

import (
	"math"
	"math/rand"
	"slices"
	"strconv"
	"strings"
	"testing"

	"coracle/api"
	"coracle/point"
	"coracle/sha"
)

// at is an outpoint of a transaction that its first byte tells.
func at(tx byte, n int) api.Outpoint { return api.Outpoint{Tx: api.Hash{tx}, N: n} }

// list is outpoints of one transaction, by their N.
func list(ns ...int) []api.Outpoint {
	var l []api.Outpoint
	for _, n := range ns {
		l = append(l, at(7, n))
	}
	return l
}

// Outpoints in order, neighbours of which part in the first or the last byte of Tx alone, or in N alone.
var rising = []api.Outpoint{
	{N: math.MinInt},
	{N: -1},
	{},
	{N: 1},
	{N: math.MaxInt},
	{Tx: api.Hash{31: 1}, N: -5},
	{Tx: api.Hash{31: 127}},
	{Tx: api.Hash{31: 128}},
	{Tx: api.Hash{31: 255}, N: 0},
	{Tx: api.Hash{30: 1}, N: 0},
	{Tx: api.Hash{1: 1}, N: 9},
	{Tx: api.Hash{1: 1}, N: 10},
	{Tx: api.Hash{0: 1}, N: math.MinInt},
	{Tx: api.Hash{0: 1}, N: -100},
	{Tx: api.Hash{0: 1}, N: 2},
	{Tx: api.Hash{0: 1}, N: 99},
	{Tx: api.Hash{0: 1}, N: 100},
	{Tx: api.Hash{0: 1}, N: 1 << 32},
	{Tx: api.Hash{0: 1}, N: 1<<32 + 1},
	{Tx: api.Hash{0: 1, 31: 1}, N: 0},
	{Tx: api.Hash{0: 2}, N: 0},
	{Tx: api.Hash{0: 127, 31: 255}, N: 0},
	{Tx: api.Hash{0: 128}, N: 0},
	{Tx: api.Hash{0: 255}, N: -1},
	{Tx: api.Hash{0: 255, 31: 255}, N: math.MinInt},
}

// shuffled is l in another row.
func shuffled(l []api.Outpoint, r *rand.Rand) []api.Outpoint {
	l = slices.Clone(l)
	r.Shuffle(len(l), func(i, j int) { l[i], l[j] = l[j], l[i] })
	return l
}

// drawn is up to most of the rising ones, in any row, some of them more than once.
func drawn(r *rand.Rand, most int) []api.Outpoint {
	from := rising[:1+r.Intn(len(rising))]
	var l []api.Outpoint
	for range r.Intn(most + 1) {
		l = append(l, from[r.Intn(len(from))])
	}
	return l
}

// same fails, unless got is want; nil and an empty list are the same.
func same(t *testing.T, what string, got, want []api.Outpoint) {
	t.Helper()
	if !slices.Equal(got, want) {
		t.Errorf("%s:\n got %v\nwant %v", what, got, want)
	}
}

// howOften counts p in l.
func howOften(l []api.Outpoint, p api.Outpoint) int {
	n := 0
	for _, q := range l {
		if q == p {
			n++
		}
	}
	return n
}

// those is the outpoints of a that b has, or has not: the chapter's words, said plainly.
func those(a, b []api.Outpoint, there bool) []api.Outpoint {
	var l []api.Outpoint
	for _, p := range a {
		if (howOften(b, p) > 0) == there {
			l = append(l, p)
		}
	}
	return l
}

func TestLess(t *testing.T) {
	for i, a := range rising {
		for j, b := range rising {
			if point.Less(a, b) != (i < j) {
				t.Errorf("P3.1: Less(%v, %v): %v", a, b, !(i < j))
			}
		}
	}
	if !point.Less(at(1, 2), at(1, 3)) || point.Less(at(1, 3), at(1, 2)) {
		t.Error("P3.1: the chapter's example: two of one Tx go by N")
	}
	if !point.Less(at(1, 99), at(2, 0)) || point.Less(at(2, 0), at(1, 99)) {
		t.Error("P3.1: Less: Tx goes ahead of N")
	}
}

// The bytes of Tx are asked from the first one on, though its text begins with the last one.
func TestLessIsNotByText(t *testing.T) {
	a, b := api.Outpoint{Tx: api.Hash{0: 1, 31: 9}}, api.Outpoint{Tx: api.Hash{0: 2, 31: 3}}
	if !point.Less(a, b) || point.Less(b, a) || point.Text(a) < point.Text(b) {
		t.Error("P3.1: Less: the first byte of Tx goes first")
	}
}

func TestLessLeansOnHashes(t *testing.T) {
	var l []api.Outpoint
	for i := range 40 {
		l = append(l, api.Outpoint{Tx: sha.Sum([]byte{byte(i)}), N: i % 3}, api.Outpoint{Tx: sha.Sum([]byte{byte(i)}), N: -i})
	}
	for _, a := range l {
		for _, b := range l {
			want := sha.Less(a.Tx, b.Tx) || a.Tx == b.Tx && a.N < b.N
			if point.Less(a, b) != want {
				t.Errorf("P3.1: Less(%v, %v): %v", a, b, !want)
			}
		}
	}
}

func TestSort(t *testing.T) {
	same(t, "P3.1: Sort of nil", point.Sort(nil), nil)
	same(t, "P3.1: Sort of nothing", point.Sort([]api.Outpoint{}), nil)
	same(t, "P3.1: Sort of one", point.Sort(list(4)), list(4))
	same(t, "P3.1: Sort of one, many times", point.Sort(list(4, 4, 4, 4)), list(4))
	same(t, "P3.1: Sort of one Tx", point.Sort(list(10, 9, -1, 100, 0, 9)), list(-1, 0, 9, 10, 100))
	same(t, "P3.1: Sort of three Tx",
		point.Sort([]api.Outpoint{at(2, 0), at(3, -1), at(1, 5), at(1, 2), at(2, 0), at(1, 5)}),
		[]api.Outpoint{at(1, 2), at(1, 5), at(2, 0), at(3, -1)})
	same(t, "P3.1: Sort of a row", point.Sort(rising), rising)
}

// Doubles that stand at the list's head, and at its end, go too: the outpoint of noughts among them.
func TestSortDoublesAtTheEnds(t *testing.T) {
	same(t, "P3.1: Sort", point.Sort([]api.Outpoint{{}, {}, at(9, 9), {}, at(9, 9)}), []api.Outpoint{{}, at(9, 9)})
	same(t, "P3.1: Sort", point.Sort([]api.Outpoint{at(9, 9), {}, at(9, 9), {}}), []api.Outpoint{{}, at(9, 9)})
}

func TestSortIsOneRow(t *testing.T) {
	r := rand.New(rand.NewSource(1))
	for i := range 300 {
		n := i%len(rising) + 1
		l := shuffled(rising[:n], r)
		for range r.Intn(2 * n) {
			l = append(l, l[r.Intn(n)])
		}
		same(t, "P3.3: Sort, however it came", point.Sort(shuffled(l, r)), rising[:n])
	}
	backward := slices.Clone(rising)
	slices.Reverse(backward)
	same(t, "P3.3: Sort of a row that came backward", point.Sort(backward), rising)
}

func TestSortAgain(t *testing.T) {
	r := rand.New(rand.NewSource(2))
	for range 300 {
		l := drawn(r, 60)
		once := point.Sort(l)
		for i := 1; i < len(once); i++ {
			if !point.Less(once[i-1], once[i]) {
				t.Errorf("P3.1: Sort(%v): %v and %v are no row", l, once[i-1], once[i])
			}
		}
		for _, p := range rising {
			if (howOften(l, p) > 0) != (howOften(once, p) == 1) || howOften(once, p) > 1 {
				t.Errorf("P3.1: Sort(%v) has %v %d times", l, p, howOften(once, p))
			}
		}
		same(t, "P3.3: Sort of what Sort made", point.Sort(once), once)
	}
}

func TestHas(t *testing.T) {
	if point.Has(nil, api.Outpoint{}) || point.Has([]api.Outpoint{}, at(1, 1)) {
		t.Error("P3.1: nothing has one")
	}
	for i := range rising {
		for j, p := range rising {
			if point.Has(rising[i:i+1], p) != (i == j) {
				t.Errorf("P3.1: Has of one: %v, %v", rising[i], p)
			}
			if point.Has(rising[:i], p) != (j < i) || point.Has(rising[i:], p) != (j >= i) {
				t.Errorf("P3.1: Has of a part of a row, cut at %d: %v", i, p)
			}
		}
	}
	// The list need not be in order, the outpoint may stand at its ends, and more than once.
	l := []api.Outpoint{at(9, 1), at(2, 5), at(7, 0), at(2, 5), at(1, 3)}
	for _, p := range l {
		if !point.Has(l, p) {
			t.Errorf("P3.1: Has of no row: %v", p)
		}
	}
	for _, p := range []api.Outpoint{at(9, 0), at(2, 4), at(2, 6), at(3, 5), at(1, -3), {}, {Tx: api.Hash{9, 31: 1}, N: 1}} {
		if point.Has(l, p) {
			t.Errorf("P3.1: Has of no row: %v is not there", p)
		}
	}
}

func TestMinusAndBoth(t *testing.T) {
	l := []api.Outpoint{at(2, 0), at(1, 5), at(1, 2), at(2, 0), at(1, 5)}
	m := []api.Outpoint{at(3, 0), at(1, 5)}
	same(t, "P3.1: Minus", point.Minus(l, m), []api.Outpoint{at(2, 0), at(1, 2), at(2, 0)})
	same(t, "P3.1: Both", point.Both(l, m), []api.Outpoint{at(1, 5), at(1, 5)})
	same(t, "P3.1: Minus, turned", point.Minus(m, l), []api.Outpoint{at(3, 0)})
	same(t, "P3.1: Both, turned", point.Both(m, l), []api.Outpoint{at(1, 5)})
	for _, none := range [][]api.Outpoint{nil, {}} {
		same(t, "P3.1: Minus nothing", point.Minus(l, none), l)
		same(t, "P3.1: Both with nothing", point.Both(l, none), nil)
		same(t, "P3.1: nothing Minus", point.Minus(none, l), nil)
		same(t, "P3.1: nothing and Both", point.Both(none, l), nil)
		same(t, "P3.1: nothing Minus nothing", point.Minus(none, nil), nil)
		same(t, "P3.1: Both nothing", point.Both(none, nil), nil)
	}
	same(t, "P3.1: Minus itself", point.Minus(l, l), nil)
	same(t, "P3.1: Both with itself", point.Both(l, l), l)
	same(t, "P3.1: one Minus one", point.Minus(list(3), list(3)), nil)
	same(t, "P3.1: one Minus another", point.Minus(list(3), list(4)), list(3))
	same(t, "P3.1: Both of one", point.Both(list(3), list(3)), list(3))
	same(t, "P3.1: Both of one and another", point.Both(list(3), list(4)), nil)
}

// How often b has one is nothing to Minus and Both: one there takes all of a's away, or keeps all of them.
func TestMinusAndBothHowOften(t *testing.T) {
	same(t, "P3.1: Minus of doubles", point.Minus(list(5, 1, 5, 5, 2), list(5)), list(1, 2))
	same(t, "P3.1: Minus of a double in b", point.Minus(list(5, 1, 2), list(5, 5, 9, 5)), list(1, 2))
	same(t, "P3.1: Both of doubles", point.Both(list(5, 1, 5, 5, 2), list(5)), list(5, 5, 5))
	same(t, "P3.1: Both of a double in b", point.Both(list(5, 1, 2), list(5, 5, 9, 5)), list(5))
	same(t, "P3.1: Minus keeps doubles", point.Minus(list(8, 1, 8, 1), list(3)), list(8, 1, 8, 1))
}

func TestMinusAndBothOfMany(t *testing.T) {
	r := rand.New(rand.NewSource(3))
	for range 2000 {
		a, b := drawn(r, 40), drawn(r, 40)
		same(t, "P3.1: Minus", point.Minus(a, b), those(a, b, false))
		same(t, "P3.1: Both", point.Both(a, b), those(a, b, true))
	}
	for _, p := range rising {
		one := []api.Outpoint{p}
		same(t, "P3.1: Minus of a neighbour", point.Minus(rising, one), those(rising, one, false))
		same(t, "P3.1: Both with a neighbour", point.Both(rising, one), one)
		same(t, "P3.1: one Minus a row", point.Minus(one, rising), nil)
		same(t, "P3.1: one Both a row without it", point.Both(one, those(rising, one, false)), nil)
	}
}

func TestAlike(t *testing.T) {
	for _, c := range []struct {
		a, b []api.Outpoint
		want bool
	}{
		{nil, nil, true},
		{nil, []api.Outpoint{}, true},
		{nil, list(0), false},
		{nil, []api.Outpoint{{}}, false},
		{[]api.Outpoint{{}}, []api.Outpoint{{}, {}}, false},
		{list(1), list(1), true},
		{list(1), list(2), false},
		{list(1), list(-1), false},
		{list(1), list(1, 1), false},
		{list(1, 2, 3), list(3, 1, 2), true},
		{list(1, 2, 3), list(3, 1), false},
		{list(1, 1, 2), list(1, 2, 2), false},
		{list(1, 1, 2), list(2, 1, 1), true},
		{list(1, 1, 2, 2), list(2, 1, 1, 1), false},
		{list(1, 2), []api.Outpoint{at(7, 1), at(8, 2)}, false},
		{[]api.Outpoint{at(1, 0), at(2, 0)}, []api.Outpoint{at(2, 0), at(1, 0)}, true},
		{[]api.Outpoint{{Tx: api.Hash{31: 1}}}, []api.Outpoint{{Tx: api.Hash{31: 2}}}, false},
	} {
		if point.Alike(c.a, c.b) != c.want || point.Alike(c.b, c.a) != c.want {
			t.Errorf("P3.1: Alike(%v, %v) is not %v", c.a, c.b, c.want)
		}
	}
}

func TestAlikeOfMany(t *testing.T) {
	r := rand.New(rand.NewSource(4))
	for range 1000 {
		a := drawn(r, 30)
		if !point.Alike(a, a) || !point.Alike(a, shuffled(a, r)) {
			t.Errorf("P3.1: Alike of %v in another row", a)
		}
		if len(a) == 0 {
			continue
		}
		b := shuffled(a, r)
		b[r.Intn(len(b))] = rising[r.Intn(len(rising))]
		want := true
		for _, p := range rising {
			want = want && howOften(a, p) == howOften(b, p)
		}
		if point.Alike(a, b) != want || point.Alike(b, a) != want {
			t.Errorf("P3.1: Alike(%v, %v) is not %v", a, b, want)
		}
		if point.Alike(a, a[1:]) || point.Alike(a[1:], a) || point.Alike(a, append(slices.Clone(a), a[0])) {
			t.Errorf("P3.1: Alike of %v with one fewer, or one more", a)
		}
	}
}

func TestText(t *testing.T) {
	tx := api.Hash{0: 0xab, 1: 0x0c, 31: 0x01}
	digits := "01" + strings.Repeat("00", 29) + "0cab"
	for n, want := range map[int]string{
		-1: "", 0: digits + ":0", 1: digits + ":1", 9: digits + ":9", 10: digits + ":10", 11: digits + ":11", 42: digits + ":42",
		98: digits + ":98", 99: digits + ":99", 100: "", 101: "", -9: "", -99: "", 1 << 32: "", math.MinInt: "", math.MaxInt: "",
	} {
		if got := point.Text(api.Outpoint{Tx: tx, N: n}); got != want {
			t.Errorf("P3.2: Text at N %d: %q, want %q", n, got, want)
		}
	}
	if got := point.Text(api.Outpoint{}); got != strings.Repeat("0", 64)+":0" {
		t.Errorf("P3.2: Text of noughts: %q", got)
	}
}

func TestTextReadBack(t *testing.T) {
	txs := []api.Hash{{}, {0: 1}, {31: 1}, {0: 255, 31: 255}}
	for i := range 20 {
		txs = append(txs, sha.Sum([]byte{byte(i)}))
	}
	for _, tx := range txs {
		for n := range 100 {
			p := api.Outpoint{Tx: tx, N: n}
			s := point.Text(p)
			if s != sha.Text(tx)+":"+strconv.Itoa(n) {
				t.Errorf("P3.2: Text(%v): %q", p, s)
			}
			if q, ok := point.Parse(s); !ok || q != p {
				t.Errorf("P3.2: Parse(%q): %v, %v", s, q, ok)
			}
		}
	}
}

// refused fails, unless Parse reads nothing of s, and tells nothing beside that.
func refused(t *testing.T, s string) {
	t.Helper()
	if p, ok := point.Parse(s); ok || p != (api.Outpoint{}) {
		t.Errorf("P3.2: Parse(%q): %v, %v", s, p, ok)
	}
}

func TestParseWrongN(t *testing.T) {
	tx := sha.Text(sha.Sum([]byte("tx")))
	for _, n := range []string{
		"", "00", "01", "07", "09", "000", "010", "099", "0099", "-0", "-1", "-9", "-99", "+0", "+1", "+99",
		"100", "101", "999", "1000", "256", "4294967296", "9223372036854775807", "9223372036854775808",
		"18446744073709551616", "18446744073709551617", "-9223372036854775808", strings.Repeat("9", 500), strings.Repeat("0", 500),
		" 1", "1 ", "1\n", "\t1", "1\x00", "1_0", "1.0", "1e1", "0x1", "0b1", "0o7", "1a", "a", "f", "A", "x", "٣", "１", "1:", ":1", "1:1", ":", "::",
	} {
		refused(t, tx+":"+n)
	}
}

func TestParseWrongTx(t *testing.T) {
	tx := sha.Text(sha.Sum([]byte("tx")))
	for n := range 130 {
		if n != len(tx) {
			refused(t, (tx + tx + tx)[:n]+":1")
			refused(t, strings.Repeat("0", n)+":1")
		}
	}
	for i := range tx {
		for _, c := range []string{"A", "F", "g", "G", " ", ":", "-", "+", "_", "\x00", "\x80", "/", "`"} {
			refused(t, tx[:i]+c+tx[i+1:]+":1")
		}
	}
	for _, s := range []string{strings.ToUpper(tx), " " + tx, tx + " ", "0x" + tx, "0x" + tx[2:], "-" + tx, tx[:63] + "\n", strings.Repeat("é", 32)} {
		refused(t, s+":1")
	}
}

func TestParseWrongColon(t *testing.T) {
	tx := sha.Text(sha.Sum([]byte("tx")))
	for _, s := range []string{
		"", ":", "::", ":1", ":0", "1", "0", tx, tx + "1", tx + "12", tx + ":", tx + "::", tx + "::1", tx + ":1:", tx + ":1:1", ":" + tx + ":1",
		":" + tx, tx + ";1", tx + ".1", tx + " 1", tx + " :1", tx + ": 1", tx + "：1", "1:" + tx, tx + ":" + tx, tx + ":1" + tx + ":1", tx + ":1\n", "\n" + tx + ":1",
	} {
		refused(t, s)
	}
}

// One byte of a good text turned: what is read is the outpoint of just that text.
func TestParseEveryByte(t *testing.T) {
	good := point.Text(api.Outpoint{Tx: sha.Sum([]byte("tx")), N: 10})
	for i := range good {
		for c := range 256 {
			s := good[:i] + string([]byte{byte(c)}) + good[i+1:]
			figure := c >= '0' && c <= '9'
			want := figure || c >= 'a' && c <= 'f'
			switch i {
			case 64:
				want = c == ':'
			case 65:
				want = figure && c != '0'
			case 66:
				want = figure
			}
			p, ok := point.Parse(s)
			if ok != want {
				t.Errorf("P3.2: Parse with byte %#x at %d: %v", c, i, ok)
			}
			if ok && point.Text(p) != s || !ok && p != (api.Outpoint{}) {
				t.Errorf("P3.2: Parse with byte %#x at %d: %v", c, i, p)
			}
		}
	}
}

// What has no text is not the outpoint of the empty one.
func TestParseOfNoText(t *testing.T) {
	for _, n := range []int{-1, 100, math.MinInt, math.MaxInt} {
		refused(t, point.Text(api.Outpoint{N: n}))
	}
}

// roomy is l in a longer array: its spare room is filled, so that a trace in it is seen.
func roomy(l []api.Outpoint) (whole, part []api.Outpoint) {
	whole = slices.Clone(l)
	for i := range 8 {
		whole = append(whole, at(200, 1000+i))
	}
	return whole, whole[:len(l)]
}

// lists is each call that answers a list, by its name.
func lists() map[string]func(a, b []api.Outpoint) []api.Outpoint {
	return map[string]func(a, b []api.Outpoint) []api.Outpoint{
		"Sort":  func(a, _ []api.Outpoint) []api.Outpoint { return point.Sort(a) },
		"Minus": point.Minus,
		"Both":  point.Both,
	}
}

// spoil turns all of l, its spare room too.
func spoil(l []api.Outpoint) {
	l = l[:cap(l)]
	for i := range l {
		l[i] = at(201, -1)
	}
}

// pairs is lists to be handed in: none, one, rows, what is out of order, doubles.
func pairs() [][2][]api.Outpoint {
	r := rand.New(rand.NewSource(5))
	l := [][2][]api.Outpoint{
		{nil, nil}, {list(1), nil}, {nil, list(1)}, {list(1), list(1)}, {list(1), list(2)},
		{rising, rising}, {rising, rising[:9]}, {list(3, 2, 1), list(2, 1)}, {list(5, 5, 1, 5), list(9, 9, 5)},
	}
	for range 200 {
		l = append(l, [2][]api.Outpoint{drawn(r, 40), drawn(r, 40)})
	}
	return l
}

func TestWhatIsHandedInStays(t *testing.T) {
	for _, c := range pairs() {
		wholeA, a := roomy(c[0])
		wholeB, b := roomy(c[1])
		beforeA, beforeB := slices.Clone(wholeA), slices.Clone(wholeB)
		stays := func(what string) {
			t.Helper()
			if !slices.Equal(wholeA, beforeA) || !slices.Equal(wholeB, beforeB) {
				t.Fatalf("P3.3: %s changed what was handed in: %v, %v", what, c[0], c[1])
			}
		}
		for name, call := range lists() {
			got := call(a, b)
			stays(name)
			spoil(got)
			stays("what " + name + " answered")
		}
		point.Alike(a, b)
		stays("Alike")
		point.Has(a, at(1, 2))
		stays("Has")
	}
}

func TestWhatIsAnsweredStays(t *testing.T) {
	for _, c := range pairs() {
		for name, call := range lists() {
			wholeA, a := roomy(c[0])
			wholeB, b := roomy(c[1])
			got, again := call(a, b), call(a, b)
			want := slices.Clone(got)
			same(t, "P3.3: "+name+", again", again, want)
			spoil(again)
			same(t, "P3.3: "+name+" once another answer is changed", got, want)
			spoil(wholeA)
			spoil(wholeB)
			same(t, "P3.3: "+name+" once what was handed in is changed", got, want)
			// Nothing was kept of the lists as they were.
			same(t, "P3.3: "+name+" of the lists as they are now", call(a, b), call(slices.Clone(a), slices.Clone(b)))
		}
	}
}

// One list handed in twice, and lists that lie in one another.
func TestListsThatShare(t *testing.T) {
	l := shuffled(append(slices.Clone(rising), rising[:5]...), rand.New(rand.NewSource(6)))
	before := slices.Clone(l)
	same(t, "P3.3: Minus of its own part", point.Minus(l, l[:7]), those(before, before[:7], false))
	same(t, "P3.3: Both of its own part", point.Both(l[3:], l[:7]), those(before[3:], before[:7], true))
	if !point.Alike(l, l) || point.Alike(l, l[1:]) {
		t.Error("P3.3: Alike of a list and its own part")
	}
	same(t, "P3.3: what was handed in", l, before)
}

// Lists so long that a search through all of one for each of the other would not end in time.
func TestLongLists(t *testing.T) {
	const size = 200000
	var l, even []api.Outpoint
	for i := range size {
		p := api.Outpoint{Tx: api.Hash{byte(i), byte(i >> 8)}, N: i}
		l = append(l, p)
		if i%2 == 0 {
			even = append(even, p)
		}
	}
	mixed := shuffled(l, rand.New(rand.NewSource(7)))
	row := point.Sort(append(mixed, mixed...))
	if len(row) != size {
		t.Errorf("P3.1: Sort of a long list: %d", len(row))
	}
	for i := 1; i < len(row); i++ {
		if !point.Less(row[i-1], row[i]) {
			t.Fatalf("P3.1: Sort of a long list: %v and %v are no row", row[i-1], row[i])
		}
	}
	same(t, "P3.1: Both of long lists", point.Both(l, even), even)
	if odd := point.Minus(l, even); len(odd) != size/2 || odd[0] != l[1] || odd[len(odd)-1] != l[size-1] {
		t.Errorf("P3.1: Minus of long lists: %d", len(odd))
	}
	if !point.Alike(l, mixed) || point.Alike(l[1:], mixed[1:]) {
		t.Error("P3.1: Alike of long lists")
	}
}
