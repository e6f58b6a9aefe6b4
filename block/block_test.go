package block_test

import (
	"crypto/sha256"
	"encoding/binary"
	"math"
	"math/bits"
	"math/rand"
	"slices"
	"strconv"
	"testing"

	"coracle/api"
	"coracle/block"
	"coracle/tx"
)

// The greatest Work and Nonce that chapter 6 names.
const top = 1 << 40

// Numbers that are neither a Work nor a Nonce, some of which would be if they were cut to fewer bits.
var nowhere = []int{math.MinInt, math.MinInt + 1, -top, -1 << 32, -1<<32 + 1, -2, -1, top + 1, top + 2, 2 * top, 1<<62 - 1, 1 << 62, 1<<62 + 1, math.MaxInt - 1, math.MaxInt}

// outside is an output of a transaction that is in no block.
func outside(i, n int) api.Outpoint {
	return api.Outpoint{Tx: api.Hash{0: 200, 30: byte(i / 256), 31: byte(i)}, N: n}
}

// spending is a transaction of that number, with three outputs.
func spending(number int, prevs ...api.Outpoint) api.Tx {
	t := api.Tx{Lock: number}
	for i, p := range prevs {
		t.Ins = append(t.Ins, api.In{Prev: p, Seq: i, Wit: api.Witness{Kind: api.Sig, Key: number}})
	}
	for i := range 3 {
		t.Outs = append(t.Outs, api.Out{Value: 252 + i, Script: api.Script{Kind: api.Wallet, Key: number}})
	}
	return t
}

// nth is a transaction that has nothing to do with one of another number.
func nth(i int) api.Tx { return spending(i, outside(i, 0), outside(i, 1)) }

// free is transactions that have nothing to do with each other.
func free(n int) []api.Tx {
	l := []api.Tx{}
	for i := range n {
		l = append(l, nth(i))
	}
	return l
}

// output is an output of t, whether or not t has it.
func output(t api.Tx, n int) api.Outpoint { return api.Outpoint{Tx: tx.ID(t), N: n} }

// linked is transactions each of which spends an output of the one ahead of it, and one of the one ahead of that.
func linked(n int) []api.Tx {
	l := free(min(n, 2))
	for i := len(l); i < n; i++ {
		l = append(l, spending(i, output(l[i-1], 0), output(l[i-2], 1)))
	}
	return l
}

// whole is l with memory of its own.
func whole(l []api.Tx) []api.Tx {
	l = slices.Clone(l)
	for i := range l {
		l[i].Ins, l[i].Outs = slices.Clone(l[i].Ins), slices.Clone(l[i].Outs)
	}
	return l
}

// turned is b once f has changed it, b itself left as it is.
func turned(b api.Block, f func(b *api.Block)) api.Block {
	b.Txs = whole(b.Txs)
	f(&b)
	return b
}

// double is a double sum, said another way.
func double(b []byte) api.Hash {
	once := sha256.Sum256(b)
	return sha256.Sum256(once[:])
}

// pair is the double sum of two.
func pair(a, b api.Hash) api.Hash { return double(slices.Concat(a[:], b[:])) }

// idsOf is the transactions' IDs.
func idsOf(l []api.Tx) []api.Hash {
	var ids []api.Hash
	for _, t := range l {
		ids = append(ids, tx.ID(t))
	}
	return ids
}

// rootOf is the chapter's Root, said from the top down.
func rootOf(l []api.Tx) api.Hash {
	if len(l) == 0 {
		return api.Hash{}
	}
	return node(idsOf(l), bits.Len(uint(len(l)-1)), 0)
}

// node is the hash at a place of a level; the IDs stand at level 0.
func node(ids []api.Hash, level, place int) api.Hash {
	if level == 0 {
		return ids[place]
	}
	below := 1 + (len(ids)-1)>>(level-1)
	left, right := 2*place, 2*place+1
	if right == below {
		right = left
	}
	return pair(node(ids, level-1, left), node(ids, level-1, right))
}

// of is the block of l, made by hand.
func of(l []api.Tx) api.Block {
	head := api.Header{Prev: api.Hash{0: 7, 31: 8}, Root: rootOf(l), Work: 3, Nonce: 4}
	return api.Block{Head: head, Txs: whole(l)}
}

// form is chapter 1's form of n, in width bytes; the least width that takes it is the right one.
func form(n uint64, width int) []byte {
	switch width {
	case 1:
		return []byte{byte(n)}
	case 3:
		return binary.LittleEndian.AppendUint16([]byte{253}, uint16(n))
	case 5:
		return binary.LittleEndian.AppendUint32([]byte{254}, uint32(n))
	}
	return binary.LittleEndian.AppendUint64([]byte{255}, n)
}

// width is how many bytes n's right form has.
func width(n int) int {
	switch {
	case n < 253:
		return 1
	case n < 1<<16:
		return 3
	case n < 1<<32:
		return 5
	}
	return 9
}

// right is n's right form.
func right(n int) []byte { return form(uint64(n), width(n)) }

// headBytes is what a header's ID is of.
func headBytes(h api.Header) []byte {
	return slices.Concat(h.Prev[:], h.Root[:], right(h.Work), right(h.Nonce))
}

func TestID(t *testing.T) {
	fits := []int{0, 1, 2, 252, 253, 254, 255, 65535, 65536, 1<<32 - 1, 1 << 32, top - 1, top, top + 1, 1<<62 - 1, 1 << 62}
	for _, work := range fits {
		for _, nonce := range fits {
			h := api.Header{Prev: api.Hash{0: 1, 31: 2}, Root: api.Hash{0: 3, 31: 4}, Work: work, Nonce: nonce}
			if block.ID(h) != double(headBytes(h)) {
				t.Errorf("P6.1: ID(%v) is %v", h, block.ID(h))
			}
		}
	}
}

func TestIDByHand(t *testing.T) {
	b := make([]byte, 64, 80)
	b[0], b[31], b[32], b[63] = 1, 2, 3, 4
	b = append(b, 253, 44, 1, 254, 0, 0, 1, 0)
	h := api.Header{Prev: api.Hash{0: 1, 31: 2}, Root: api.Hash{0: 3, 31: 4}, Work: 300, Nonce: 65536}
	if block.ID(h) != double(b) {
		t.Errorf("P6.1: ID(%v) is %v", h, block.ID(h))
	}
}

func TestIDOfWhatDoesNotFit(t *testing.T) {
	for _, n := range []int{math.MinInt, -1 << 32, -300, -1, 1<<62 + 1, 1<<62 + 2, math.MaxInt - 1, math.MaxInt} {
		for _, fit := range []int{0, 1, 1 << 62, n} {
			if id := block.ID(api.Header{Prev: api.Hash{1}, Work: n, Nonce: fit}); id != (api.Hash{}) {
				t.Errorf("P6.1: ID with Work %d: %v", n, id)
			}
			if id := block.ID(api.Header{Prev: api.Hash{1}, Work: fit, Nonce: n}); id != (api.Hash{}) {
				t.Errorf("P6.1: ID with Nonce %d: %v", n, id)
			}
		}
	}
}

func TestIDHangsOnAll(t *testing.T) {
	h := of(free(2)).Head
	seen := map[api.Hash]int{block.ID(h): 1}
	count := 1
	turn := func(f func(h *api.Header)) {
		other := h
		f(&other)
		seen[block.ID(other)]++
		count++
	}
	for i := range 32 {
		turn(func(h *api.Header) { h.Prev[i] ^= 128 })
		turn(func(h *api.Header) { h.Root[i] ^= 1 })
	}
	turn(func(h *api.Header) { h.Work++ })
	turn(func(h *api.Header) { h.Nonce++ })
	turn(func(h *api.Header) { h.Work, h.Nonce = h.Nonce, h.Work })
	turn(func(h *api.Header) { h.Prev, h.Root = h.Root, h.Prev })
	if len(seen) != count {
		t.Errorf("P6.1: %d unlike headers have %d IDs", count, len(seen))
	}
}

func TestRootByHand(t *testing.T) {
	l := free(7)
	var i [7]api.Hash
	copy(i[:], idsOf(l))
	ab, cd, ef := pair(i[0], i[1]), pair(i[2], i[3]), pair(i[4], i[5])
	for n, want := range []api.Hash{
		{},
		i[0],
		ab,
		pair(ab, pair(i[2], i[2])),
		pair(ab, cd),
		pair(pair(ab, cd), pair(pair(i[4], i[4]), pair(i[4], i[4]))),
		pair(pair(ab, cd), pair(ef, ef)),
		pair(pair(ab, cd), pair(ef, pair(i[6], i[6]))),
	} {
		if got := block.Root(l[:n]); got != want {
			t.Errorf("P6.1: Root of %d transactions: %v, want %v", n, got, want)
		}
		if rootOf(l[:n]) != want {
			t.Errorf("the test's own root of %d transactions is wrong", n)
		}
	}
	if block.Root(nil) != (api.Hash{}) || block.Root([]api.Tx{}) != (api.Hash{}) {
		t.Error("P6.1: Root of no transactions is not zero")
	}
}

// A block of more than 100 may not be, but their Root is there.
func TestRootOfMany(t *testing.T) {
	l := free(300)
	for n := range l {
		if got, want := block.Root(l[:n]), rootOf(l[:n]); got != want {
			t.Errorf("P6.1: Root of %d transactions: %v, want %v", n, got, want)
		}
	}
}

// Neighbours that are alike are two all the same.
func TestRootOfAlikeOnes(t *testing.T) {
	for _, part := range [][]api.Tx{free(1), free(2), free(3), make([]api.Tx, 1)} {
		for times := 2; times <= 9; times++ {
			l := slices.Repeat(part, times)
			if got, want := block.Root(l), rootOf(l); got != want {
				t.Errorf("P6.1: Root of %d transactions, %d times: %v, want %v", len(part), times, got, want)
			}
		}
	}
	if a := tx.ID(nth(1)); block.Root([]api.Tx{nth(1), nth(1)}) != pair(a, a) {
		t.Error("P6.1: Root of one transaction twice")
	}
}

func TestRootHangsOnOrder(t *testing.T) {
	for n := 2; n <= 9; n++ {
		l := free(n)
		for i := 1; i < n; i++ {
			other := slices.Clone(l)
			other[0], other[i] = l[i], l[0]
			if block.Root(other) == block.Root(l) || block.Root(other) != rootOf(other) {
				t.Errorf("P6.1: Root of %d transactions, the first and %d swapped", n, i)
			}
		}
	}
}

// One that may not be has the ID zero, and counts with it.
func TestRootOfWhatMayNotBe(t *testing.T) {
	zero := api.Hash{}
	l := []api.Tx{nth(1), {}, nth(3)}
	if block.Root(l[1:2]) != zero {
		t.Error("P6.1: Root of one that may not be")
	}
	if got := block.Root(l); got != pair(pair(tx.ID(l[0]), zero), pair(tx.ID(l[2]), tx.ID(l[2]))) {
		t.Errorf("P6.1: Root with one that may not be: %v", got)
	}
	if block.Root(make([]api.Tx, 2)) != pair(zero, zero) {
		t.Error("P6.1: Root of two that may not be")
	}
}

func TestRootHangsNotOnWitnesses(t *testing.T) {
	l := free(5)
	want := block.Root(l)
	l[4].Ins[1].Wit = api.Witness{Kind: api.SigPre, Key: 9, Pre: "p"}
	if block.Root(l) != want {
		t.Error("P6.1: Root hangs on more than the IDs")
	}
}

// drawn is some block that may be: transactions spend what is outside, and what those ahead of them have made.
func drawn(r *rand.Rand) api.Block {
	pick := func(l ...int) int { return l[r.Intn(len(l))] }
	number := func(least int) int {
		return pick(least, least+1, 252, 253, 65535, 65536, 1<<32-1, 1<<32, top-1, top, least+r.Intn(top))
	}
	var l []api.Tx
	var made []api.Outpoint
	for i := range pick(0, 1, 2, 3, 4, 5, 7, 20, 100) {
		t := nth(i)
		for len(made) > 0 && r.Intn(2) == 0 {
			k := r.Intn(len(made))
			t.Ins = append(t.Ins, api.In{Prev: made[k], Wit: api.Witness{Kind: api.SigPre, Pre: strconv.Itoa(i)}})
			made = slices.Delete(made, k, k+1)
		}
		l = append(l, t)
		made = append(made, output(t, 0), output(t, 2))
	}
	b := of(l)
	r.Read(b.Head.Prev[:])
	b.Head.Work, b.Head.Nonce = number(1), number(0)
	return b
}

// many is blocks that may be.
func many(n int) []api.Block {
	r := rand.New(rand.NewSource(6))
	l := []api.Block{of(nil), of(free(1)), of(free(2)), of(free(7)), of(free(100)), of(linked(2)), of(linked(7)), of(linked(100))}
	for range n {
		l = append(l, drawn(r))
	}
	return l
}

// alike is Same, said another way.
func alike(a, b api.Block) bool {
	return a.Head == b.Head && slices.EqualFunc(a.Txs, b.Txs, func(x, y api.Tx) bool {
		return x.Lock == y.Lock && slices.Equal(x.Ins, y.Ins) && slices.Equal(x.Outs, y.Outs)
	})
}

func TestMake(t *testing.T) {
	for _, b := range many(200) {
		h := b.Head
		x, e := block.Make(h.Prev, h.Work, h.Nonce, b.Txs)
		if e != api.OK || !alike(x, b) {
			t.Fatalf("P6.2: Make of %d Txs: %v, error %d, want %v", len(b.Txs), x.Head, e, h)
		}
		if e := block.Check(x); e != api.OK {
			t.Fatalf("P6.2: Make made what Check refuses: %d", e)
		}
	}
	if x, e := block.Make(api.Hash{}, 1, 0, nil); e != api.OK || !alike(x, api.Block{Head: api.Header{Work: 1}}) {
		t.Errorf("P6.2: Make of nothing: %v, error %d", x, e)
	}
}

// fields is what can be turned in a block of at least two transactions.
func fields() map[string]func(b *api.Block) {
	return map[string]func(b *api.Block){
		"Prev's first byte": func(b *api.Block) { b.Head.Prev[0]++ },
		"Prev's last byte":  func(b *api.Block) { b.Head.Prev[31]++ },
		"Root's first byte": func(b *api.Block) { b.Head.Root[0]++ },
		"Root's last byte":  func(b *api.Block) { b.Head.Root[31]++ },
		"Work":              func(b *api.Block) { b.Head.Work++ },
		"Nonce":             func(b *api.Block) { b.Head.Nonce-- },
		"a Tx fewer":        func(b *api.Block) { b.Txs = b.Txs[:len(b.Txs)-1] },
		"a Tx more":         func(b *api.Block) { b.Txs = append(b.Txs, nth(1000)) },
		"no Txs":            func(b *api.Block) { b.Txs = nil },
		"the row of Txs":    func(b *api.Block) { b.Txs[0], b.Txs[1] = b.Txs[1], b.Txs[0] },
		"the first Tx":      func(b *api.Block) { b.Txs[0].Lock++ },
		"an In":             func(b *api.Block) { b.Txs[1].Ins[0].Seq++ },
		"an Out":            func(b *api.Block) { b.Txs[1].Outs[2].Value++ },
		"a witness":         func(b *api.Block) { b.Txs[len(b.Txs)-1].Ins[1].Wit.Key++ },
		"an Out fewer":      func(b *api.Block) { b.Txs[0].Outs = b.Txs[0].Outs[:2] },
	}
}

func TestSame(t *testing.T) {
	for _, b := range []api.Block{of(free(2)), of(linked(5)), of(free(100))} {
		if !block.Same(b, b) || !block.Same(b, turned(b, func(b *api.Block) {})) {
			t.Error("P6.2: Same of alike ones")
		}
		for what, f := range fields() {
			x := turned(b, f)
			if block.Same(b, x) || block.Same(x, b) {
				t.Errorf("P6.2: Same though %s is turned", what)
			}
			if !block.Same(x, turned(b, f)) {
				t.Errorf("P6.2: Same of alike ones, %s turned", what)
			}
		}
	}
}

func TestSameOfNothing(t *testing.T) {
	if !block.Same(api.Block{}, api.Block{Txs: []api.Tx{}}) {
		t.Error("P6.2: Same: nil and an empty list mean the same")
	}
	if !block.Same(api.Block{Txs: make([]api.Tx, 1)}, api.Block{Txs: []api.Tx{{Ins: []api.In{}, Outs: []api.Out{}}}}) {
		t.Error("P6.2: Same: nil and an empty list within a Tx mean the same")
	}
	if block.Same(api.Block{}, api.Block{Txs: make([]api.Tx, 1)}) || block.Same(api.Block{Txs: make([]api.Tx, 1)}, api.Block{Txs: make([]api.Tx, 2)}) {
		t.Error("P6.2: Same of unlike many Txs that are zero")
	}
	odd := api.Block{Head: api.Header{Work: math.MinInt, Nonce: math.MaxInt}, Txs: []api.Tx{{Lock: -1, Ins: []api.In{{Seq: -1}}}}}
	if !block.Same(odd, turned(odd, func(b *api.Block) {})) {
		t.Error("P6.2: Same of alike ones that may not be")
	}
}
