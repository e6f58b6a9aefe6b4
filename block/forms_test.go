package block_test

import (
	"bytes"
	"math"
	"math/rand"
	"slices"
	"testing"

	"coracle/api"
	"coracle/block"
	"coracle/tx"
	"coracle/wire"
)

// piece is one form of a block's bytes: a number, or bytes as they stand.
type piece struct {
	n     int
	raw   []byte
	isNum bool
	count bool // the number says how many of something follow
}

// txBytes is chapter 5's Encode of any transaction, whether or not it may be; numbers without a form are left out.
func txBytes(t api.Tx) []byte {
	var w wire.Writer
	w.Num(len(t.Ins))
	for _, in := range t.Ins {
		w.Point(in.Prev)
		w.Num(in.Seq)
	}
	w.Num(len(t.Outs))
	for _, out := range t.Outs {
		w.Num(out.Value)
		w.Script(out.Script)
	}
	w.Num(t.Lock)
	for _, in := range t.Ins {
		w.Num(in.Wit.Kind, in.Wit.Key)
		w.Text(in.Wit.Pre)
	}
	return w.Bytes()
}

// pieces is the chapter's Encode, said another way.
func pieces(b api.Block) []piece {
	l := []piece{
		{raw: slices.Concat(b.Head.Prev[:], b.Head.Root[:])},
		{n: b.Head.Work, isNum: true},
		{n: b.Head.Nonce, isNum: true},
		{n: len(b.Txs), isNum: true, count: true},
	}
	for _, t := range b.Txs {
		one := txBytes(t)
		l = append(l, piece{n: len(one), isNum: true, count: true}, piece{raw: one})
	}
	return l
}

// written is the bytes of pieces. A number below 0 is written as no number is, so that such bytes are none of a block.
func written(l []piece) []byte {
	var b []byte
	for _, p := range l {
		switch {
		case p.isNum && p.n < 0:
			b = append(b, form(uint64(p.n), 9)...)
		case p.isNum:
			b = append(b, right(p.n)...)
		default:
			b = append(b, p.raw...)
		}
	}
	return b
}

// writtenWith is the bytes of pieces, with other ones for the k-th.
func writtenWith(l []piece, k int, other []byte) []byte {
	return slices.Concat(written(l[:k]), other, written(l[k+1:]))
}

// refused fails, unless Decode tells ErrBad, and nothing beside it.
func refused(t *testing.T, what string, b []byte) {
	t.Helper()
	if x, e := block.Decode(b); e != api.ErrBad || !alike(x, api.Block{}) {
		t.Errorf("P6.2: Decode of %s: %v, error %d\n%v", what, x, e, b)
	}
}

func TestEncodeByHand(t *testing.T) {
	x, y := nth(1), spending(300, outside(2, 0), outside(3, 1), outside(4, 0), outside(5, 99))
	first, _ := tx.Encode(x)
	second, _ := tx.Encode(y)
	root := pair(tx.ID(x), tx.ID(y))
	b := api.Block{Head: api.Header{Prev: api.Hash{0: 1, 31: 2}, Root: root, Work: 253, Nonce: top}, Txs: []api.Tx{x, y}}
	// A Text's length in one byte, and one in three.
	if len(first) != 198 || len(second) != 288 {
		t.Fatalf("the transactions have %d and %d bytes", len(first), len(second))
	}
	want := slices.Concat(
		[]byte{1}, make([]byte, 30), []byte{2}, root[:],
		[]byte{253, 253, 0}, []byte{255, 0, 0, 0, 0, 0, 1, 0, 0}, []byte{2},
		[]byte{198}, first, []byte{253, 32, 1}, second)
	if p, e := block.Encode(b); e != api.OK || !bytes.Equal(p, want) {
		t.Errorf("P6.2: Encode:\n got %v, error %d\nwant %v", p, e, want)
	}
	none := api.Block{Head: api.Header{Work: 1}}
	if p, e := block.Encode(none); e != api.OK || !bytes.Equal(p, append(make([]byte, 64), 1, 0, 0)) {
		t.Errorf("P6.2: Encode of no Txs: %v, error %d", p, e)
	}
}

func TestEncodeAndDecode(t *testing.T) {
	for _, b := range many(300) {
		if e := block.Check(b); e != api.OK {
			t.Fatalf("P6.2: Check of %v with %d Txs: %d", b.Head, len(b.Txs), e)
		}
		p, e := block.Encode(b)
		if want := written(pieces(b)); e != api.OK || !bytes.Equal(p, want) {
			t.Fatalf("P6.2: Encode of %v with %d Txs:\n got %v, error %d\nwant %v", b.Head, len(b.Txs), p, e, want)
		}
		x, e := block.Decode(p)
		if e != api.OK || !alike(x, b) || !block.Same(x, b) {
			t.Fatalf("P6.2: Decode(Encode) of %v with %d Txs: %v, error %d", b.Head, len(b.Txs), x, e)
		}
	}
}

// small is blocks of few bytes, of which each place can be tried.
func small() []api.Block {
	return []api.Block{of(nil), of(free(1)), of(free(2)), of(linked(3)), of(linked(5))}
}

func TestDecodeOfCutBytes(t *testing.T) {
	refused(t, "nil", nil)
	for _, b := range small() {
		p := written(pieces(b))
		// What is cut off lies in the spare room still: it is no part of what is handed in.
		for k := range p {
			refused(t, "cut bytes", p[:k])
			refused(t, "bytes cut at their head", p[k+1:])
		}
	}
}

func TestDecodeOfMoreBytes(t *testing.T) {
	for _, b := range many(5) {
		p := written(pieces(b))
		for c := range 256 {
			refused(t, "a byte more", append(slices.Clone(p), byte(c)))
		}
		refused(t, "two of them", slices.Concat(p, p))
		refused(t, "a byte ahead", slices.Concat([]byte{0}, p))
		refused(t, "a Tx more than were told", slices.Concat(p, right(len(txBytes(nth(500)))), txBytes(nth(500))))
	}
}

func TestDecodeOfLongForms(t *testing.T) {
	for _, b := range append(many(10), small()...) {
		l := pieces(b)
		for k, p := range l {
			if !p.isNum {
				continue
			}
			for _, w := range []int{3, 5, 9} {
				if w > width(p.n) {
					refused(t, "a long form", writtenWith(l, k, form(uint64(p.n), w)))
				}
			}
			// A number beyond 2^62 has no form; cut to an int, or to 62 bits, it would be the right one.
			for _, beyond := range []uint64{1 << 63, 1<<62 + 1, math.MaxUint64} {
				refused(t, "a number without a form", writtenWith(l, k, form(beyond|uint64(p.n), 9)))
			}
		}
	}
}

func TestDecodeOfWrongCounts(t *testing.T) {
	for _, b := range append(small(), of(free(99)), of(free(100))) {
		l := pieces(b)
		for k, p := range l {
			if !p.count {
				continue
			}
			for _, n := range []int{0, p.n - 1, p.n + 1, p.n + 2, 99, 100, 101, 252, 253, 65535, 65536, 1<<31 - 1, 1 << 31, 1<<32 - 1, 1 << 32, 1<<62 - 1, 1 << 62} {
				if n >= 0 && n != p.n {
					refused(t, "a wrong count", writtenWith(l, k, right(n)))
				}
			}
		}
	}
}

// A count that nothing follows, however great: no room is made for what can't come.
func TestDecodeOfCountsAlone(t *testing.T) {
	head := headBytes(of(nil).Head)
	for _, n := range []int{1, 100, 101, 65536, 1 << 32, 1 << 62} {
		refused(t, "a count alone of Txs", slices.Concat(head, right(n)))
		refused(t, "a Text's length alone", slices.Concat(head, right(1), right(n)))
		refused(t, "a Text that is longer than what follows", slices.Concat(head, right(1), right(n), make([]byte, 50)))
	}
}

// texts is wrong Texts for a transaction's bytes.
func texts(t api.Tx) map[string][]byte {
	good := txBytes(t)
	long := slices.Concat([]byte{253, byte(len(t.Ins)), 0}, good[1:])
	kind := slices.Clone(good)
	kind[len(kind)-3] = 5 // the last witness' Kind: Key and Pre's length behind it have a byte each
	return map[string][]byte{
		"empty":                    {},
		"a byte less":              good[:len(good)-1],
		"a byte more":              append(slices.Clone(good), 0),
		"two of them":              slices.Concat(good, good),
		"a long form":              long,
		"a Kind that may not be":   kind,
		"noughts":                  make([]byte, len(good)),
		"a Text around it":         slices.Concat(right(len(good)), good),
		"cut behind the first Num": good[:1],
	}
}

// The Texts have their right lengths, but what they hold is no transaction.
func TestDecodeOfWrongTexts(t *testing.T) {
	for _, n := range []int{1, 2, 3, 7} {
		b := of(free(n))
		for _, place := range []int{0, n / 2, n - 1} {
			for what, text := range texts(b.Txs[place]) {
				l := pieces(b)
				l[4+2*place].n, l[5+2*place].raw = len(text), text
				refused(t, "a Text: "+what, written(l))
				// Nor is it taken with the Root that it would have.
				zeroed := slices.Replace(slices.Clone(b.Txs), place, place+1, api.Tx{})
				root := rootOf(zeroed)
				l[0].raw = slices.Concat(b.Head.Prev[:], root[:])
				refused(t, "a Text, with a zero ID in Root: "+what, written(l))
			}
		}
	}
}

// One byte of good bytes turned: what is read is the block of just these bytes, or nothing.
func TestDecodeOfEveryByte(t *testing.T) {
	for _, b := range []api.Block{of(nil), of(free(1)), of(linked(3))} {
		good := written(pieces(b))
		for i := range good {
			for _, c := range []byte{0, 1, 2, 3, 4, 5, 6, 7, 31, 32, 33, 99, 100, 101, 127, 128, 251, 252, 253, 254, 255, good[i] - 1, good[i], good[i] + 1} {
				p := slices.Clone(good)
				p[i] = c
				x, e := block.Decode(p)
				switch {
				case e == api.OK:
					if !bytes.Equal(written(pieces(x)), p) || alike(x, b) != (good[i] == c) {
						t.Fatalf("P6.2: Decode with byte %d at %d: %v", c, i, x)
					}
				case good[i] == c || e != api.ErrBad || !alike(x, api.Block{}):
					t.Fatalf("P6.2: Decode with byte %d at %d: %v, error %d", c, i, x, e)
				}
			}
		}
	}
}

// What a turned byte may be: Prev, Work, Nonce and witnesses are not summed in Root, all else is.
func TestDecodeOfTurnedBytes(t *testing.T) {
	b := of(linked(3))
	good := written(pieces(b))
	turn := func(i int, c byte) api.Errno {
		p := slices.Clone(good)
		p[i] = c
		_, e := block.Decode(p)
		return e
	}
	last := len(good) - 2 // the last witness' Key
	for i := range 32 {
		if turn(i, 99) != api.OK || turn(32+i, good[32+i]^1) != api.ErrBad {
			t.Errorf("P6.2: Decode with byte %d of Prev, or of Root, turned", i)
		}
	}
	if turn(64, 252) != api.OK || turn(64, 0) != api.ErrBad || turn(65, 0) != api.OK || turn(last, 77) != api.OK {
		t.Error("P6.2: Decode with Work, Nonce or a witness turned")
	}
}

func TestDecodeOfAnyBytes(t *testing.T) {
	r := rand.New(rand.NewSource(7))
	for range 30000 {
		p := make([]byte, r.Intn(300))
		for i := range p {
			p[i] = []byte{0, 0, 1, 1, 2, 100, 253, 254, 255, byte(r.Intn(256))}[r.Intn(10)]
		}
		// A Root of noughts and no Txs: some of them may be.
		if len(p) > 64 && r.Intn(2) == 0 {
			clear(p[32:64])
			p = p[:min(len(p), 64+r.Intn(20))]
		}
		if x, e := block.Decode(p); e == api.OK && !bytes.Equal(written(pieces(x)), p) {
			t.Fatalf("P6.2: Decode(%v) is %v", p, x)
		} else if e != api.OK {
			refused(t, "any bytes", p)
		}
	}
}
