package block_test

import (
	"bytes"
	"slices"
	"testing"

	"coracle/api"
	"coracle/block"
)

// roomy is l in longer arrays, down to its transactions: their spare room is filled, so that a trace in it is seen.
func roomy(l []api.Tx) (all, part []api.Tx) {
	all = append(whole(l), nth(900), api.Tx{Lock: -9})
	part = all[:len(l)]
	for i := range all {
		ins, outs := len(all[i].Ins), len(all[i].Outs)
		all[i].Ins = append(all[i].Ins, api.In{Seq: -1}, api.In{Seq: -2})[:ins]
		all[i].Outs = append(all[i].Outs, api.Out{Value: -1}, api.Out{Value: -2})[:outs]
	}
	return all, part
}

// stretched is a copy of l with the spare room of its transactions in sight.
func stretched(l []api.Tx) []api.Tx {
	s := slices.Clone(l)
	for i := range s {
		s[i].Ins, s[i].Outs = s[i].Ins[:cap(s[i].Ins)], s[i].Outs[:cap(s[i].Outs)]
	}
	return whole(s)
}

// spoil overwrites bytes and their spare room.
func spoil(b []byte) {
	b = b[:cap(b)]
	for i := range b {
		b[i] = 0xaa
	}
}

// spoilTxs overwrites all lists and their spare room.
func spoilTxs(l []api.Tx) {
	l = l[:cap(l)]
	for i := range l {
		ins, outs := l[i].Ins[:cap(l[i].Ins)], l[i].Outs[:cap(l[i].Outs)]
		for j := range ins {
			ins[j] = api.In{Seq: -7, Wit: api.Witness{Pre: "spoilt"}}
		}
		for j := range outs {
			outs[j] = api.Out{Value: -7}
		}
		l[i] = api.Tx{Lock: -7}
	}
}

// ordinary is blocks that may be, and some that may not.
func ordinary() []api.Block {
	l := append(many(20), api.Block{}, of(free(101)), of(make([]api.Tx, 3)), of(append(free(2), nth(0))))
	return append(l, turned(of(free(3)), func(b *api.Block) { b.Head.Root = api.Hash{1} }))
}

func TestWhatIsHandedInStays(t *testing.T) {
	for _, b := range ordinary() {
		all, part := roomy(b.Txs)
		before := stretched(all)
		h := b.Head
		b.Txs = part
		for what, call := range map[string]func(){
			"Root":   func() { block.Root(part) },
			"Check":  func() { block.Check(b) },
			"Encode": func() { p, _ := block.Encode(b); spoil(p) },
			"Make":   func() { x, _ := block.Make(h.Prev, h.Work, h.Nonce, part); spoilTxs(x.Txs) },
			"Same":   func() { block.Same(b, b) },
		} {
			call()
			if !alike(api.Block{Txs: stretched(all)}, api.Block{Txs: before}) {
				t.Fatalf("P6.3: %s changed what was handed in: %v", what, h)
			}
		}
	}
}

func TestDecodeLeavesBytes(t *testing.T) {
	for _, b := range many(20) {
		p := written(pieces(b))
		room := slices.Concat(p, []byte{1, 2, 3, 4})
		before := slices.Clone(room)
		x, _ := block.Decode(room[:len(p)])
		block.Decode(room[:len(p)-1])
		spoilTxs(x.Txs)
		if !bytes.Equal(room, before) {
			t.Fatalf("P6.3: Decode changed what was handed in: %v", b.Head)
		}
	}
}

func TestWhatIsAnsweredStays(t *testing.T) {
	for _, b := range many(20) {
		h, want := b.Head, turned(b, func(b *api.Block) {})
		made, _ := block.Make(h.Prev, h.Work, h.Nonce, b.Txs)
		other, _ := block.Make(h.Prev, h.Work, h.Nonce, b.Txs)
		p, _ := block.Encode(b)
		again, _ := block.Encode(b)
		spoil(again)
		spoilTxs(other.Txs)
		spoilTxs(b.Txs)
		if !alike(made, want) {
			t.Fatalf("P6.3: what Make answered hangs on another answer, or on what was handed in: %v", h)
		}
		if !bytes.Equal(p, written(pieces(want))) {
			t.Fatalf("P6.3: what Encode answered hangs on another answer, or on what was handed in: %v", h)
		}
		x, _ := block.Decode(p)
		y, _ := block.Decode(p)
		spoilTxs(y.Txs)
		spoil(p)
		if !alike(x, want) {
			t.Fatalf("P6.3: what Decode answered hangs on another answer, or on the bytes: %v", h)
		}
	}
}

// lone fails, unless each list of b can be spoilt without a trace in the others.
func lone(t *testing.T, what string, b, want api.Block) {
	t.Helper()
	for i := range b.Txs {
		spoilTxs(b.Txs[i : i+1 : i+1])
		for j := i + 1; j < len(b.Txs); j++ {
			if !alike(api.Block{Txs: b.Txs[j : j+1]}, api.Block{Txs: want.Txs[j : j+1]}) {
				t.Fatalf("P6.3: two lists of what %s answered share memory", what)
			}
		}
	}
}

// Lists that share memory where they are handed in share none in the answer, nor do those that were read from one run of bytes.
func TestEachListIsItsOwn(t *testing.T) {
	outs := nth(1).Outs
	var ins []api.In
	for i := range 6 {
		ins = append(ins, api.In{Prev: outside(i, 3), Wit: api.Witness{Kind: api.Nobody}})
	}
	l := []api.Tx{{Ins: ins[:2], Outs: outs}, {Ins: ins[2:4], Outs: outs}, {Ins: ins[4:], Outs: outs[:1]}}
	want := of(l)
	made, e := block.Make(want.Head.Prev, want.Head.Work, want.Head.Nonce, l)
	if e != api.OK || !alike(made, want) {
		t.Fatalf("P6.3: Make of Txs that share lists: error %d", e)
	}
	read, _ := block.Decode(written(pieces(want)))
	lone(t, "Make", made, want)
	lone(t, "Decode", read, want)
	if !alike(api.Block{Txs: l}, api.Block{Txs: want.Txs}) {
		t.Error("P6.3: what Make answered shares lists with what was handed in")
	}
}

// What was handed in once and changed since is asked anew: nothing of it was kept.
func TestNothingIsKept(t *testing.T) {
	b := of(free(3))
	first := turned(b, func(b *api.Block) {})
	block.Check(b)
	root, id := block.Root(b.Txs), block.ID(b.Head)
	b.Txs[1].Lock, b.Head.Nonce = 555, 6
	if block.Root(b.Txs) == root || block.Root(b.Txs) != rootOf(b.Txs) || block.ID(b.Head) == id || block.Check(b) != api.ErrBad || block.Same(b, first) {
		t.Error("P6.3: Root, ID, Check or Same of what was changed")
	}
	if block.Root(first.Txs) != root || block.ID(first.Head) != id || block.Check(first) != api.OK {
		t.Error("P6.3: Root, ID or Check of what it was")
	}
}
