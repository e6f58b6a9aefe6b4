package tx_test

import (
	"bytes"
	"crypto/sha256"
	"encoding/binary"
	"math"
	"math/rand"
	"slices"
	"strings"
	"testing"

	"coracle/api"
	"coracle/tx"
)

// The greatest numbers that chapter 5 names.
const (
	topMoney = api.MaxMoney
	topKey   = 1 << 30
	topTime  = 65535
	topLock  = 1000000
)

// Numbers that fit nowhere, some of which would if they were cut to fewer bits.
var nowhere = []int{math.MinInt, math.MinInt + 1, -1 << 32, -1<<32 + 1, -65536, -2, -1, 1<<32 + 1, 1 << 62, math.MaxInt - 1, math.MaxInt}

// sample has every kind of witness and of script, and no two fields of a number in common.
func sample() api.Tx {
	return api.Tx{
		Ins: []api.In{
			{Prev: api.Outpoint{Tx: api.Hash{0: 1, 31: 2}, N: 3}, Seq: 4, Wit: api.Witness{Kind: api.Sig, Key: 5}},
			{Prev: api.Outpoint{Tx: api.Hash{0: 6}, N: 7}, Seq: 300, Wit: api.Witness{Kind: api.SigPre, Key: 70000, Pre: "p\x00\xffe"}},
			{Prev: api.Outpoint{Tx: api.Hash{31: 8}, N: 99}, Seq: 0, Wit: api.Witness{Kind: api.Revoke, Key: topKey}},
			{Prev: api.Outpoint{Tx: api.Hash{0: 6}, N: 0}, Seq: topTime, Wit: api.Witness{Kind: api.Nobody}},
		},
		Outs: []api.Out{
			{Value: 9, Script: api.Script{Kind: api.Wallet, Key: 10}},
			{Value: 0, Script: api.Script{Kind: api.ToLocal, Key: 11, Rev: 12, Delay: 144}},
			{Value: 1 << 40, Script: api.Script{Kind: api.ToRemote, Key: 13}},
			{Value: api.Dust, Script: api.Script{Kind: api.Anchor, Key: 14}},
			{Value: 70000, Script: api.Script{Kind: api.Offered, Key: 15, Other: 16, Rev: 17, Expiry: 500000, Hash: api.Hash{0: 18, 31: 19}}},
			{Value: 253, Script: api.Script{Kind: api.Received, Key: 253, Other: topKey, Rev: 20, Delay: topTime, Expiry: topLock, Hash: api.Hash{15: 21}}},
		},
		Lock: 22,
	}
}

// plain has one In with a signature, and one Out.
func plain() api.Tx {
	return api.Tx{
		Ins:  []api.In{{Prev: api.Outpoint{Tx: api.Hash{1}}, Wit: api.Witness{Kind: api.Sig, Key: 2}}},
		Outs: []api.Out{{Value: 3, Script: api.Script{Kind: api.Wallet, Key: 4}}},
	}
}

// sized has so many Ins, with unlike Prevs, and so many Outs.
func sized(ins, outs int) api.Tx {
	var t api.Tx
	for i := range ins {
		t.Ins = append(t.Ins, nthIn(i))
	}
	for i := range outs {
		t.Outs = append(t.Outs, api.Out{Value: i, Script: api.Script{Kind: api.Wallet, Key: i}})
	}
	return t
}

// nthIn is an In with a Prev of its own: neighbours part in N alone, or in the last bytes of Tx alone.
func nthIn(i int) api.In {
	return api.In{Prev: api.Outpoint{Tx: api.Hash{29: byte(i / 65536), 30: byte(i / 256), 31: byte(i / 2)}, N: i % 2}, Wit: api.Witness{Kind: api.Sig, Key: i}}
}

// drawn is some transaction that may be.
func drawn(r *rand.Rand) api.Tx {
	pick := func(l ...int) int { return l[r.Intn(len(l))] }
	number := func(most int) int {
		return min(most, pick(0, 1, 252, 253, 254, 65535, 65536, 1<<20, most-1, most, r.Intn(most+1)))
	}
	t := sized(1+pick(0, 0, 1, 2, r.Intn(100)), pick(0, 1, 2, 3, r.Intn(101)))
	r.Shuffle(len(t.Ins), func(i, j int) { t.Ins[i], t.Ins[j] = t.Ins[j], t.Ins[i] })
	for i := range t.Ins {
		w := api.Witness{Kind: 1 + r.Intn(4), Key: number(topKey)}
		if w.Kind == api.SigPre {
			pre := make([]byte, pick(1, 2, 32, 63, 64))
			r.Read(pre)
			w.Pre = string(pre)
		}
		t.Ins[i].Seq, t.Ins[i].Wit = number(topTime), w
		t.Ins[i].Prev.Tx[0] = byte(r.Intn(256))
	}
	for i := range t.Outs {
		s := api.Script{Kind: 1 + r.Intn(6), Key: number(topKey), Other: number(topKey), Rev: number(topKey), Delay: number(topTime), Expiry: number(topLock)}
		r.Read(s.Hash[:])
		t.Outs[i] = api.Out{Value: number(topMoney / 100), Script: s}
	}
	t.Lock = number(topLock)
	return t
}

// many is transactions that may be.
func many(n int) []api.Tx {
	r := rand.New(rand.NewSource(5))
	l := []api.Tx{plain(), sample(), sized(1, 0), sized(100, 100), sized(100, 0), sized(1, 100)}
	for range n {
		l = append(l, drawn(r))
	}
	return l
}

// whole is t with memory of its own.
func whole(t api.Tx) api.Tx {
	t.Ins, t.Outs = slices.Clone(t.Ins), slices.Clone(t.Outs)
	return t
}

// turned is t once f has changed it, t itself left as it is.
func turned(t api.Tx, f func(t *api.Tx)) api.Tx {
	t = whole(t)
	f(&t)
	return t
}

// alike is Same, said another way.
func alike(a, b api.Tx) bool {
	if len(a.Ins) != len(b.Ins) || len(a.Outs) != len(b.Outs) || a.Lock != b.Lock {
		return false
	}
	for i := range a.Ins {
		if a.Ins[i] != b.Ins[i] {
			return false
		}
	}
	for i := range a.Outs {
		if a.Outs[i] != b.Outs[i] {
			return false
		}
	}
	return true
}

// piece is one form of a transaction's bytes: a number, or bytes as they stand.
type piece struct {
	n     int
	raw   []byte
	isNum bool
	count bool // the number says how many of something follow
}

// numbers is a piece for each.
func numbers(l ...int) []piece {
	var p []piece
	for _, n := range l {
		p = append(p, piece{n: n, isNum: true})
	}
	return p
}

// pieces is the chapter's Encode, said another way: what stands ahead of the witnesses, and these.
func pieces(t api.Tx) (body, wits []piece) {
	body = append(body, piece{n: len(t.Ins), isNum: true, count: true})
	for _, in := range t.Ins {
		body = append(body, piece{raw: in.Prev.Tx[:]})
		body = append(body, numbers(in.Prev.N, in.Seq)...)
		wits = append(wits, numbers(in.Wit.Kind, in.Wit.Key)...)
		wits = append(wits, piece{n: len(in.Wit.Pre), isNum: true, count: true}, piece{raw: []byte(in.Wit.Pre)})
	}
	body = append(body, piece{n: len(t.Outs), isNum: true, count: true})
	for _, out := range t.Outs {
		s := out.Script
		body = append(body, numbers(out.Value, s.Kind, s.Key, s.Other, s.Rev, s.Delay, s.Expiry)...)
		body = append(body, piece{raw: s.Hash[:]})
	}
	return append(body, numbers(t.Lock)...), wits
}

// allPieces is both parts.
func allPieces(t api.Tx) []piece {
	body, wits := pieces(t)
	return append(body, wits...)
}

// form is chapter 1's form of n, in width bytes; the least width that takes it is the right one.
func form(n uint64, width int) []byte {
	switch width {
	case 1:
		return []byte{byte(n)}
	case 3:
		return binary.LittleEndian.AppendUint16([]byte{253}, uint16(n))
	case 5:
		return binary.LittleEndian.AppendUint32([]byte{254}, uint32(n))
	}
	return binary.LittleEndian.AppendUint64([]byte{255}, n)
}

// width is how many bytes n's right form has.
func width(n int) int {
	switch {
	case n < 253:
		return 1
	case n < 1<<16:
		return 3
	case n < 1<<32:
		return 5
	}
	return 9
}

// written is the bytes of pieces.
func written(l []piece) []byte {
	var b []byte
	for _, p := range l {
		if p.isNum {
			b = append(b, form(uint64(p.n), width(p.n))...)
		} else {
			b = append(b, p.raw...)
		}
	}
	return b
}

// writtenWith is the bytes of pieces, with other ones for the k-th.
func writtenWith(l []piece, k int, other []byte) []byte {
	return slices.Concat(written(l[:k]), other, written(l[k+1:]))
}

// idOf is the chapter's ID, of a transaction that may be.
func idOf(t api.Tx) api.Hash {
	body, _ := pieces(t)
	once := sha256.Sum256(written(body))
	return sha256.Sum256(once[:])
}

func TestEncodeByHand(t *testing.T) {
	x := plain()
	x.Ins[0].Prev.N, x.Ins[0].Seq, x.Lock = 9, 65535, 70000
	x.Ins[0].Wit = api.Witness{Kind: api.SigPre, Key: 253, Pre: "abc"}
	x.Outs[0] = api.Out{Value: topMoney, Script: api.Script{Kind: api.Received, Key: 1, Other: 2, Rev: 3, Delay: 4, Expiry: 5, Hash: api.Hash{31: 6}}}
	zeros := make([]byte, 31)
	want := slices.Concat(
		[]byte{1, 1}, zeros, []byte{9, 253, 255, 255},
		[]byte{1, 255, 0x00, 0x40, 0x07, 0x5a, 0xf0, 0x75, 0x07, 0x00, 6, 1, 2, 3, 4, 5}, zeros, []byte{6},
		[]byte{254, 0x70, 0x11, 0x01, 0x00},
		[]byte{2, 253, 253, 0, 3, 'a', 'b', 'c'})
	if b, e := tx.Encode(x); e != api.OK || !bytes.Equal(b, want) {
		t.Errorf("P5.2: Encode:\n got %v, error %d\nwant %v", b, e, want)
	}
}

func TestEncodeAndDecode(t *testing.T) {
	for _, x := range many(500) {
		if e := tx.Check(x); e != api.OK {
			t.Fatalf("P5.1: Check(%#v) = %d", x, e)
		}
		b, e := tx.Encode(x)
		if want := written(allPieces(x)); e != api.OK || !bytes.Equal(b, want) {
			t.Fatalf("P5.2: Encode(%#v):\n got %v, error %d\nwant %v", x, b, e, want)
		}
		y, e := tx.Decode(b)
		if e != api.OK || !alike(x, y) || !tx.Same(x, y) {
			t.Fatalf("P5.2: Decode(Encode(%#v)) is %#v, error %d", x, y, e)
		}
	}
}

// refused fails, unless Decode tells ErrBad, and nothing beside it.
func refused(t *testing.T, what string, b []byte) {
	t.Helper()
	if x, e := tx.Decode(b); e != api.ErrBad || len(x.Ins) > 0 || len(x.Outs) > 0 || x.Lock != 0 {
		t.Errorf("P5.2: Decode of %s: %#v, error %d\n%v", what, x, e, b)
	}
}

func TestDecodeOfCutBytes(t *testing.T) {
	refused(t, "nil", nil)
	for _, x := range many(30) {
		b := written(allPieces(x))
		// What is cut off lies in the spare room still: it is no part of what is handed in.
		for k := range b {
			refused(t, "cut bytes", b[:k])
		}
	}
}

func TestDecodeOfMoreBytes(t *testing.T) {
	for _, x := range many(30) {
		b := written(allPieces(x))
		for c := range 256 {
			refused(t, "a byte more", append(slices.Clone(b), byte(c)))
		}
		refused(t, "two of them", append(slices.Clone(b), b...))
		refused(t, "a byte ahead", append([]byte{0}, b...))
	}
}

func TestDecodeOfLongForms(t *testing.T) {
	for _, x := range many(30) {
		l := allPieces(x)
		for k, p := range l {
			if !p.isNum {
				continue
			}
			for _, w := range []int{3, 5, 9} {
				if w > width(p.n) {
					refused(t, "a long form", writtenWith(l, k, form(uint64(p.n), w)))
				}
			}
			// A number beyond 2^62 has no form; cut to an int, or to 62 bits, it would be the right one.
			for _, beyond := range []uint64{1 << 63, 1<<62 + 1, math.MaxUint64} {
				refused(t, "a number without a form", writtenWith(l, k, form(beyond|uint64(p.n), 9)))
			}
		}
	}
}

func TestDecodeOfWrongCounts(t *testing.T) {
	for _, x := range []api.Tx{plain(), sample(), sized(1, 0), sized(2, 2), sized(100, 100), sized(99, 1), sized(1, 99)} {
		l := allPieces(x)
		for k, p := range l {
			if !p.count {
				continue
			}
			for _, n := range []int{0, p.n - 1, p.n + 1, p.n + 2, 65, 99, 100, 101, 252, 253, 65535, 65536, 1<<31 - 1, 1 << 31, 1<<32 - 1, 1 << 32, 1<<62 - 1, 1 << 62} {
				if n >= 0 && n != p.n {
					refused(t, "a wrong count", writtenWith(l, k, form(uint64(n), width(n))))
				}
			}
		}
	}
}

// A count that nothing follows, however great: no room is made for what can't come.
func TestDecodeOfCountsAlone(t *testing.T) {
	for _, n := range []int{0, 1, 100, 101, 65536, 1 << 32, 1 << 62} {
		count := form(uint64(n), width(n))
		refused(t, "a count alone", count)
		refused(t, "a count alone of Outs", slices.Concat([]byte{1}, make([]byte, 34), count))
		refused(t, "a count alone of a Pre", slices.Concat([]byte{1}, make([]byte, 34), []byte{0, 0, 2, 0}, count))
	}
}

// One byte of good bytes turned: what is read is the transaction of just these bytes, or nothing.
func TestDecodeOfEveryByte(t *testing.T) {
	for _, x := range []api.Tx{plain(), sample(), sized(3, 2)} {
		good := written(allPieces(x))
		for i := range good {
			for c := range 256 {
				b := slices.Clone(good)
				b[i] = byte(c)
				y, e := tx.Decode(b)
				switch {
				case e == api.OK:
					if again, e := tx.Encode(y); e != api.OK || !bytes.Equal(again, b) || alike(x, y) != (good[i] == byte(c)) {
						t.Fatalf("P5.2: Decode with byte %d at %d: %#v", c, i, y)
					}
				case good[i] == byte(c):
					t.Fatalf("P5.2: Decode of good bytes: error %d", e)
				default:
					refused(t, "a byte turned", b)
				}
			}
		}
	}
}

func TestDecodeOfAnyBytes(t *testing.T) {
	r := rand.New(rand.NewSource(6))
	for range 50000 {
		b := make([]byte, r.Intn(200))
		for i := range b {
			b[i] = []byte{0, 1, 1, 2, 4, 100, 253, 254, 255, byte(r.Intn(256))}[r.Intn(10)]
		}
		if x, e := tx.Decode(b); e == api.OK && !bytes.Equal(written(allPieces(x)), b) {
			t.Fatalf("P5.2: Decode(%v) is %#v", b, x)
		} else if e != api.OK {
			refused(t, "any bytes", b)
		}
	}
}

func TestID(t *testing.T) {
	for _, x := range many(300) {
		if tx.ID(x) != idOf(x) {
			t.Fatalf("P5.2: ID(%#v) is %v, want %v", x, tx.ID(x), idOf(x))
		}
	}
}

// fields is what can be turned in a transaction so that it still may be: beside the witnesses, and the witnesses.
func fields() (beside, wits map[string]func(t *api.Tx)) {
	beside = map[string]func(t *api.Tx){
		"Tx's first byte":   func(t *api.Tx) { t.Ins[1].Prev.Tx[0] ^= 128 },
		"Tx's last byte":    func(t *api.Tx) { t.Ins[1].Prev.Tx[31] ^= 1 },
		"N":                 func(t *api.Tx) { t.Ins[1].Prev.N++ },
		"Seq":               func(t *api.Tx) { t.Ins[2].Seq++ },
		"Value":             func(t *api.Tx) { t.Outs[0].Value++ },
		"the last Value":    func(t *api.Tx) { t.Outs[5].Value++ },
		"Kind":              func(t *api.Tx) { t.Outs[4].Script.Kind = api.Received },
		"Key":               func(t *api.Tx) { t.Outs[4].Script.Key++ },
		"Other":             func(t *api.Tx) { t.Outs[4].Script.Other++ },
		"Rev":               func(t *api.Tx) { t.Outs[4].Script.Rev++ },
		"Delay":             func(t *api.Tx) { t.Outs[4].Script.Delay++ },
		"Expiry":            func(t *api.Tx) { t.Outs[4].Script.Expiry++ },
		"Hash's first byte": func(t *api.Tx) { t.Outs[4].Script.Hash[0]++ },
		"Hash's last byte":  func(t *api.Tx) { t.Outs[4].Script.Hash[31]++ },
		"Lock":              func(t *api.Tx) { t.Lock++ },
		"an In fewer":       func(t *api.Tx) { t.Ins = t.Ins[:3] },
		"an In more":        func(t *api.Tx) { t.Ins = append(t.Ins, nthIn(2)) },
		"an Out fewer":      func(t *api.Tx) { t.Outs = t.Outs[:5] },
		"an Out more":       func(t *api.Tx) { t.Outs = append(t.Outs, t.Outs[5]) },
		"the row of Ins":    func(t *api.Tx) { t.Ins[0], t.Ins[1] = t.Ins[1], t.Ins[0] },
		"the row of Outs":   func(t *api.Tx) { t.Outs[0], t.Outs[1] = t.Outs[1], t.Outs[0] },
	}
	wits = map[string]func(t *api.Tx){
		"a witness' Kind":       func(t *api.Tx) { t.Ins[0].Wit.Kind = api.Nobody },
		"the last Kind":         func(t *api.Tx) { t.Ins[3].Wit.Kind = api.Sig },
		"a witness' Key":        func(t *api.Tx) { t.Ins[0].Wit.Key++ },
		"a Pre":                 func(t *api.Tx) { t.Ins[1].Wit.Pre = "q" },
		"a Pre's last byte":     func(t *api.Tx) { t.Ins[1].Wit.Pre = "p\x00\xfff" },
		"a witness of another":  func(t *api.Tx) { t.Ins[0].Wit, t.Ins[1].Wit = t.Ins[1].Wit, t.Ins[0].Wit },
		"a witness all another": func(t *api.Tx) { t.Ins[2].Wit = api.Witness{Kind: api.SigPre, Key: 1, Pre: strings.Repeat("x", 64)} },
	}
	return beside, wits
}

func TestIDHangsOnAllBesideWitnesses(t *testing.T) {
	x := sample()
	beside, wits := fields()
	seen := map[api.Hash]string{tx.ID(x): "nothing"}
	for what, f := range beside {
		id := tx.ID(turned(x, f))
		if other, there := seen[id]; there || id == (api.Hash{}) {
			t.Errorf("P5.3: ID with %s turned is as with %s turned: %v", what, other, id)
		}
		seen[id] = what
	}
	for what, f := range wits {
		y := turned(x, f)
		if tx.ID(y) != tx.ID(x) {
			t.Errorf("P5.3: ID hangs on %s", what)
		}
		a, e1 := tx.Encode(x)
		b, e2 := tx.Encode(y)
		if e1 != api.OK || e2 != api.OK || bytes.Equal(a, b) {
			t.Errorf("P5.2: Encode does not write %s", what)
		}
	}
}

func TestWit(t *testing.T) {
	for kind, want := range map[int]int{api.Sig: 74, api.SigPre: 107, api.Revoke: 76, api.Nobody: 1, 0: 0, 5: 0, 6: 0} {
		if got := tx.Wit(kind); got != want {
			t.Errorf("P5.2: Wit(%d) = %d, want %d", kind, got, want)
		}
	}
	for _, kind := range nowhere {
		if got := tx.Wit(kind); got != 0 {
			t.Errorf("P5.2: Wit(%d) = %d, want 0", kind, got)
		}
	}
}

func TestWeight(t *testing.T) {
	withKind := func(ins, outs, kind int) api.Tx {
		x := sized(ins, outs)
		for i := range x.Ins {
			x.Ins[i].Wit.Kind = kind
		}
		return x
	}
	for _, c := range []struct {
		what string
		x    api.Tx
		want int
	}{
		{"the chapter's example", plain(), 4*85 + 74},
		{"nothing", api.Tx{}, 40},
		{"each kind", sample(), 4*(10+4*41+6*34) + 74 + 107 + 76 + 1},
		{"one In", withKind(1, 0, api.SigPre), 4*51 + 107},
		{"one Out", withKind(0, 1, api.Sig), 4 * 44},
		{"two Ins", withKind(2, 1, api.Revoke), 4*(10+82+34) + 152},
		{"two Outs", withKind(1, 2, api.Nobody), 4*(10+41+68) + 1},
		{"the greatest", withKind(100, 100, api.SigPre), 4*(10+4100+3400) + 10700},
		{"one that may not be", withKind(101, 101, api.Sig), 4*(10+4141+3434) + 7474},
		{"kinds that are none", withKind(2, 0, 5), 4 * 92},
		{"kinds below", withKind(2, 0, -1), 4 * 92},
	} {
		if got := tx.Weight(c.x); got != c.want {
			t.Errorf("P5.2: Weight of %s: %d, want %d", c.what, got, c.want)
		}
	}
	x := plain()
	x.Ins[0].Seq, x.Ins[0].Wit.Key, x.Outs[0].Value, x.Lock = topTime, topKey, topMoney, topLock
	if tx.Weight(x) != 414 {
		t.Errorf("P5.2: Weight hangs on numbers: %d", tx.Weight(x))
	}
}

func TestSpends(t *testing.T) {
	x := sample()
	for i, in := range x.Ins {
		if got := tx.Spends(x, in.Prev); got != i {
			t.Errorf("P5.2: Spends of In %d: %d", i, got)
		}
	}
	for _, p := range []api.Outpoint{{}, {Tx: api.Hash{0: 6}, N: 1}, {Tx: api.Hash{0: 1, 31: 3}, N: 3}, {Tx: api.Hash{0: 2, 31: 2}, N: 3}, {Tx: api.Hash{31: 8}, N: -1}} {
		if got := tx.Spends(x, p); got != -1 {
			t.Errorf("P5.2: Spends(%v): %d", p, got)
		}
	}
	if tx.Spends(api.Tx{}, api.Outpoint{}) != -1 || tx.Spends(sized(0, 3), api.Outpoint{}) != -1 {
		t.Error("P5.2: Spends of no Ins")
	}
	big := sized(100, 0)
	if tx.Spends(big, big.Ins[0].Prev) != 0 || tx.Spends(big, big.Ins[99].Prev) != 99 || tx.Spends(big, nthIn(100).Prev) != -1 {
		t.Error("P5.2: Spends of many Ins")
	}
	odd := api.Tx{Ins: []api.In{{Prev: api.Outpoint{N: -5}}, {Prev: api.Outpoint{N: 1 << 40}}, {Prev: api.Outpoint{N: -5}}}}
	if tx.Spends(odd, api.Outpoint{N: 1 << 40}) != 1 || tx.Spends(odd, api.Outpoint{N: -5}) != 0 {
		t.Error("P5.2: Spends of one that may not be")
	}
}

func TestConflict(t *testing.T) {
	ins := func(places ...int) api.Tx {
		x := plain()
		x.Ins = nil
		for _, i := range places {
			x.Ins = append(x.Ins, nthIn(i))
		}
		return x
	}
	other := ins(3)
	other.Ins[0].Seq, other.Ins[0].Wit, other.Outs, other.Lock = 9, api.Witness{Kind: api.Nobody}, nil, 8
	nearly := ins(3)
	nearly.Ins[0].Prev.Tx[0] = 1
	for _, c := range []struct {
		what string
		a, b api.Tx
		want bool
	}{
		{"one of one Prev", ins(1), ins(1), true},
		{"unlike ones", ins(1), ins(2), false},
		{"neighbours by N", ins(2), ins(3), false},
		{"neighbours by Tx", ins(1), ins(3), false},
		{"neighbours by Tx's first byte", ins(3), nearly, false},
		{"all else unlike", ins(3), other, true},
		{"the first and the last", ins(1, 2, 3), ins(4, 5, 1), true},
		{"the one in the middle", ins(1, 2, 3), ins(4, 2, 5), true},
		{"none of several", ins(1, 2, 3), ins(4, 5, 6, 7), false},
		{"all of several", ins(1, 2, 3), ins(3, 2, 1), true},
		{"doubles of its own", ins(1, 1), ins(2, 2), false},
		{"nothing", api.Tx{}, api.Tx{}, false},
		{"nothing with one", api.Tx{}, ins(1), false},
		{"no Ins, the same Outs", sized(0, 2), sized(0, 2), false},
		{"many", sized(100, 0), ins(99), true},
		{"one beyond many", sized(100, 0), ins(100), false},
	} {
		if tx.Conflict(c.a, c.b) != c.want || tx.Conflict(c.b, c.a) != c.want {
			t.Errorf("P5.2: Conflict of %s is not %v", c.what, c.want)
		}
	}
}

// So many Ins that a search through all of one for each of the other would not end in time.
func TestConflictOfVeryMany(t *testing.T) {
	const size = 200000
	all := sized(2*size, 0)
	a, b := api.Tx{Ins: all.Ins[:size]}, api.Tx{Ins: all.Ins[size:]}
	if tx.Conflict(a, b) {
		t.Error("P5.2: Conflict of very many unlike Ins")
	}
	if !tx.Conflict(a, api.Tx{Ins: all.Ins[size-1:]}) {
		t.Error("P5.2: Conflict of very many Ins, one of them alike")
	}
}

func TestSame(t *testing.T) {
	x := sample()
	if !tx.Same(x, sample()) || !tx.Same(x, x) {
		t.Error("P5.2: Same of alike ones")
	}
	beside, wits := fields()
	for _, l := range []map[string]func(t *api.Tx){beside, wits} {
		for what, f := range l {
			y := turned(x, f)
			if tx.Same(x, y) || tx.Same(y, x) {
				t.Errorf("P5.2: Same though %s is turned", what)
			}
			if !tx.Same(y, turned(x, f)) {
				t.Errorf("P5.2: Same of alike ones, %s turned", what)
			}
		}
	}
	if !tx.Same(api.Tx{}, api.Tx{Ins: []api.In{}, Outs: []api.Out{}}) || !tx.Same(sized(1, 0), api.Tx{Ins: sized(1, 0).Ins, Outs: []api.Out{}}) {
		t.Error("P5.2: Same: nil and an empty list mean the same")
	}
	if tx.Same(api.Tx{}, api.Tx{Ins: make([]api.In, 1)}) || tx.Same(api.Tx{}, api.Tx{Outs: make([]api.Out, 1)}) || tx.Same(api.Tx{}, api.Tx{Lock: -1}) {
		t.Error("P5.2: Same of noughts")
	}
	odd := api.Tx{Ins: []api.In{{Seq: -1}}, Outs: []api.Out{{Value: math.MaxInt}}, Lock: math.MinInt}
	if !tx.Same(odd, whole(odd)) {
		t.Error("P5.2: Same of alike ones that may not be")
	}
}

// roomy is t in longer arrays: their spare room is filled, so that a trace in it is seen.
func roomy(t api.Tx) (all, part api.Tx) {
	all = whole(t)
	for i := range 5 {
		all.Ins = append(all.Ins, nthIn(1000+i))
		all.Outs = append(all.Outs, api.Out{Value: -7 - i})
	}
	part = api.Tx{Ins: all.Ins[:len(t.Ins)], Outs: all.Outs[:len(t.Outs)], Lock: t.Lock}
	return all, part
}

// spoil overwrites bytes and their spare room.
func spoil(b []byte) {
	b = b[:cap(b)]
	for i := range b {
		b[i] = 0xaa
	}
}

// spoilTx overwrites a transaction's lists and their spare room.
func spoilTx(t api.Tx) {
	ins, outs := t.Ins[:cap(t.Ins)], t.Outs[:cap(t.Outs)]
	for i := range ins {
		ins[i] = api.In{Seq: -1, Wit: api.Witness{Pre: "spoilt"}}
	}
	for i := range outs {
		outs[i] = api.Out{Value: -1}
	}
}

// unsorted has its Prevs in falling order, so that sorting what is handed in would be seen.
func unsorted() api.Tx {
	x := sized(20, 5)
	slices.Reverse(x.Ins)
	return x
}

func TestWhatIsHandedInStays(t *testing.T) {
	for _, x := range append(many(20), unsorted(), sized(101, 1), turned(sample(), func(t *api.Tx) { t.Ins[3] = t.Ins[0] }), api.Tx{}) {
		all, part := roomy(x)
		before := whole(all)
		for what, call := range map[string]func(){
			"Check":    func() { tx.Check(part) },
			"Encode":   func() { b, _ := tx.Encode(part); spoil(b) },
			"ID":       func() { tx.ID(part) },
			"Weight":   func() { tx.Weight(part) },
			"Spends":   func() { tx.Spends(part, nthIn(0).Prev) },
			"Conflict": func() { tx.Conflict(part, part) },
			"Same":     func() { tx.Same(part, part) },
		} {
			call()
			if !alike(all, before) {
				t.Fatalf("P5.3: %s changed what was handed in: %#v", what, x)
			}
		}
	}
}

func TestDecodeLeavesBytes(t *testing.T) {
	for _, x := range many(20) {
		b := written(allPieces(x))
		room := slices.Concat(b, []byte{1, 2, 3, 4})
		before := slices.Clone(room)
		y, _ := tx.Decode(room[:len(b)])
		tx.Decode(room[:len(b)-1])
		spoilTx(y)
		if !bytes.Equal(room, before) {
			t.Fatalf("P5.3: Decode changed what was handed in: %v", b)
		}
	}
}

func TestWhatIsAnsweredStays(t *testing.T) {
	for _, x := range many(20) {
		want := written(allPieces(x))
		all, part := roomy(x)
		b, _ := tx.Encode(part)
		again, _ := tx.Encode(part)
		spoil(again)
		spoilTx(all)
		if !bytes.Equal(b, want) {
			t.Fatalf("P5.3: what Encode answered hangs on another answer, or on what was handed in: %#v", x)
		}
		y, _ := tx.Decode(b)
		other, _ := tx.Decode(b)
		spoilTx(other)
		spoil(b)
		if !alike(x, y) {
			t.Fatalf("P5.3: what Decode answered hangs on another answer, or on the bytes: %#v", x)
		}
	}
}

func TestClone(t *testing.T) {
	for _, x := range append(many(20), api.Tx{}, sized(101, 101)) {
		all, part := roomy(x)
		before := whole(all)
		y := tx.Clone(part)
		if !alike(x, y) {
			t.Fatalf("Clone(%#v) is %#v", x, y)
		}
		spoilTx(y)
		if !alike(all, before) {
			t.Fatalf("a clone shares memory with what it was made of: %#v", x)
		}
	}
}

// What was handed in once and changed since is asked anew: nothing of it was kept.
func TestNothingIsKept(t *testing.T) {
	x := sample()
	first, firstID := whole(x), tx.ID(x)
	x.Ins[0].Prev.N++
	if tx.ID(x) == firstID || tx.ID(x) != idOf(x) || tx.Same(x, first) {
		t.Error("P5.3: ID or Same of what was changed")
	}
	x.Ins[0].Seq = -1
	if tx.Check(x) != api.ErrArg || tx.ID(x) != (api.Hash{}) {
		t.Error("P5.3: Check or ID of what was changed so that it may not be")
	}
	if tx.Check(first) != api.OK || tx.ID(first) != firstID {
		t.Error("P5.3: Check or ID of what it was")
	}
}
