package block_test

import (
	"slices"
	"strconv"
	"testing"

	"coracle/api"
	"coracle/block"
	"coracle/tx"
)

// told fails, unless Check tells want, and Encode, Decode and Make go by it.
func told(t *testing.T, what string, b api.Block, want api.Errno) {
	t.Helper()
	if e := block.Check(b); e != want {
		t.Errorf("P6.2: Check of %s: %d, want %d", what, e, want)
	}
	p, e := block.Encode(b)
	if e != want || (e == api.OK) != (len(p) > 0) {
		t.Errorf("P6.2: Encode of %s: %v, error %d, want error %d", what, p, e, want)
	}
	if want != api.OK {
		refused(t, what, written(pieces(b)))
	}
	// Make is asked for a block with the Root that is theirs.
	if want == api.ErrBad {
		want = api.OK
	}
	x, e := block.Make(b.Head.Prev, b.Head.Work, b.Head.Nonce, b.Txs)
	b.Head.Root = rootOf(b.Txs)
	if e != api.OK {
		b = api.Block{}
	}
	if e != want || !alike(x, b) {
		t.Errorf("P6.2: Make of %s: %v, error %d, want error %d", what, x, e, want)
	}
}

func TestCheckLimitsAreTheChapters(t *testing.T) {
	if api.MaxTxs != 100 || top != 1099511627776 {
		t.Error("P6.2: the limits are not those of the chapter")
	}
}

func TestCheckNumbers(t *testing.T) {
	for _, l := range [][]api.Tx{nil, free(1), linked(5)} {
		with := func(work, nonce int) api.Block {
			return turned(of(l), func(b *api.Block) { b.Head.Work, b.Head.Nonce = work, nonce })
		}
		for _, n := range []int{1, 2, 252, 253, 65536, 1<<32 - 1, 1 << 32, 1<<32 + 1, top - 1, top} {
			told(t, "Work "+strconv.Itoa(n), with(n, 5), api.OK)
			told(t, "Nonce "+strconv.Itoa(n), with(5, n), api.OK)
			told(t, "both "+strconv.Itoa(n), with(n, n), api.OK)
		}
		told(t, "Nonce 0", with(1, 0), api.OK)
		told(t, "Work 0", with(0, 1), api.ErrArg)
		for _, n := range nowhere {
			told(t, "Work "+strconv.Itoa(n), with(n, 5), api.ErrArg)
			told(t, "Nonce "+strconv.Itoa(n), with(5, n), api.ErrArg)
			told(t, "both "+strconv.Itoa(n), with(n, n), api.ErrArg)
		}
	}
	told(t, "nothing", api.Block{}, api.ErrArg)
}

func TestCheckHowMany(t *testing.T) {
	for _, n := range []int{0, 1, 2, 3, 99, 100} {
		told(t, strconv.Itoa(n)+" Txs", of(free(n)), api.OK)
		told(t, strconv.Itoa(n)+" Txs in a row", of(linked(n)), api.OK)
	}
	for _, n := range []int{101, 102, 200, 256, 300} {
		told(t, strconv.Itoa(n)+" Txs", of(free(n)), api.ErrBig)
		told(t, strconv.Itoa(n)+" Txs in a row", of(linked(n)), api.ErrBig)
		told(t, strconv.Itoa(n)+" Txs that may not be", of(make([]api.Tx, n)), api.ErrBig)
	}
}

// refusals is transactions that chapter 5's Check refuses, with what it tells.
func refusals() map[string]api.Tx {
	with := func(f func(x *api.Tx)) api.Tx {
		x := nth(5000)
		f(&x)
		return x
	}
	return map[string]api.Tx{
		"zero":        {},
		"no Ins":      with(func(x *api.Tx) { x.Ins = nil }),
		"Lock":        with(func(x *api.Tx) { x.Lock = api.MaxHeight + 1 }),
		"Seq":         with(func(x *api.Tx) { x.Ins[1].Seq = 65536 }),
		"a witness":   with(func(x *api.Tx) { x.Ins[0].Wit.Kind = 5 }),
		"a Script":    with(func(x *api.Tx) { x.Outs[2].Script.Kind = 7 }),
		"two Prevs":   with(func(x *api.Tx) { x.Ins[1].Prev = x.Ins[0].Prev }),
		"a sum":       with(func(x *api.Tx) { x.Outs[0].Value = api.MaxMoney }),
		"below 0":     with(func(x *api.Tx) { x.Outs[0].Value = -1 }),
		"beyond":      with(func(x *api.Tx) { x.Outs[2].Value = api.MaxMoney + 1 }),
		"many Ins":    with(func(x *api.Tx) { x.Ins = slices.Repeat(x.Ins[:1], 101) }),
		"many Outs":   with(func(x *api.Tx) { x.Outs = slices.Repeat(x.Outs[:1], 101) }),
		"very many":   with(func(x *api.Tx) { x.Outs = slices.Repeat(x.Outs[:1], 1000) }),
		"a Pre":       with(func(x *api.Tx) { x.Ins[0].Wit.Pre = "p" }),
		"N":           with(func(x *api.Tx) { x.Ins[0].Prev.N = 100 }),
		"N and a sum": with(func(x *api.Tx) { x.Ins[0].Prev.N, x.Outs[0].Value = -1, -1 }),
	}
}

func TestCheckEachTx(t *testing.T) {
	seen := map[api.Errno]int{}
	for what, bad := range refusals() {
		want := tx.Check(bad)
		seen[want]++
		for _, n := range []int{1, 2, 3, 7, 100} {
			for _, place := range []int{0, n / 2, n - 1} {
				told(t, "one refused for "+what, of(slices.Replace(free(n), place, place+1, bad)), want)
			}
		}
	}
	if len(seen) != 3 || seen[api.ErrArg] == 0 || seen[api.ErrBig] == 0 || seen[api.ErrOver] == 0 {
		t.Errorf("the test has refusals of %v alone", seen)
	}
}

// Of several that are refused, the first one's error is told.
func TestCheckTxsInOrder(t *testing.T) {
	bads := refusals()
	for firstName, first := range bads {
		for secondName, second := range bads {
			what := firstName + " ahead of " + secondName
			want := tx.Check(first)
			told(t, what, of([]api.Tx{first, second}), want)
			told(t, what, of([]api.Tx{nth(0), first, nth(1), second, nth(2)}), want)
		}
	}
}

// places is two places of a list of n, the first one first.
func places(n int) [][2]int {
	l := [][2]int{{0, 1}}
	if n > 2 {
		l = append(l, [][2]int{{0, n - 1}, {n - 2, n - 1}, {0, n / 2}, {n / 2, n - 1}}...)
	}
	return l
}

func TestCheckTwoOfOneID(t *testing.T) {
	for _, n := range []int{2, 4, 7, 100} {
		for _, p := range places(n) {
			b := of(slices.Replace(free(n), p[1], p[1]+1, nth(p[0])))
			told(t, "two alike", b, api.ErrArg)
			told(t, "two of one ID with unlike witnesses", turned(b, func(b *api.Block) {
				b.Txs[p[1]].Ins[0].Wit = api.Witness{Kind: api.SigPre, Key: 77, Pre: "p"}
			}), api.ErrArg)
		}
		told(t, "all alike", of(slices.Repeat(free(1), n)), api.ErrArg)
	}
	// Of odd ones, but for one alone, the last one once more has the same Root.
	for _, n := range []int{1, 3, 5, 7} {
		b := of(free(n))
		b.Txs = append(b.Txs, nth(n-1))
		if n != 1 && rootOf(b.Txs) != b.Head.Root {
			t.Errorf("the test's own Root of %d is not that of the last one twice", n)
		}
		told(t, "the last one twice, with the Root of once", b, api.ErrArg)
	}
}

func TestCheckConflicts(t *testing.T) {
	for _, n := range []int{2, 3, 7, 100} {
		for _, p := range places(n) {
			with := func(in, prev int) api.Block {
				l := free(n)
				l[p[1]].Ins[in].Prev = l[p[0]].Ins[prev].Prev
				return of(l)
			}
			for in := range 2 {
				for prev := range 2 {
					told(t, "two that conflict", with(in, prev), api.ErrArg)
				}
			}
			near := with(1, 0)
			near.Txs[p[1]].Ins[1].Prev.N = 2
			told(t, "two that spend neighbours", of(near.Txs), api.OK)
			near.Txs[p[1]].Ins[1].Prev.N, near.Txs[p[1]].Ins[1].Prev.Tx[1] = 0, 1
			told(t, "two that spend one N of two", of(near.Txs), api.OK)
		}
	}
}

// Two that spend one output of an earlier one conflict as well.
func TestCheckConflictsWithin(t *testing.T) {
	a := nth(0)
	told(t, "one output spent twice", of([]api.Tx{a, spending(1, output(a, 0)), spending(2, output(a, 0))}), api.ErrArg)
	told(t, "two outputs spent", of([]api.Tx{a, spending(1, output(a, 0)), spending(2, output(a, 1))}), api.OK)
	told(t, "two outputs spent by one", of([]api.Tx{a, spending(1, output(a, 2), output(a, 0))}), api.OK)
}

// So many Ins that a search through all for each of them would be seen.
func TestCheckOfTheGreatest(t *testing.T) {
	var l []api.Tx
	for i := range 100 {
		var prevs []api.Outpoint
		for n := range 100 {
			prevs = append(prevs, outside(i, n))
		}
		l = append(l, spending(i, prevs...))
	}
	told(t, "100 Txs with 100 Ins", of(l), api.OK)
	l[99].Ins[99].Prev = l[0].Ins[0].Prev
	told(t, "100 Txs with 100 Ins, one twice", of(l), api.ErrArg)
	l[99].Ins[99].Prev = output(l[98], 0)
	told(t, "100 Txs with 100 Ins, one of an earlier one", of(l), api.OK)
	l[0].Ins[99].Prev = output(l[99], 0)
	told(t, "100 Txs with 100 Ins, one of a later one", of(l), api.ErrArg)
}

func TestCheckSpendsLater(t *testing.T) {
	for _, n := range []int{2, 3, 7, 100} {
		for _, p := range places(n) {
			for _, out := range []int{0, 1, 2, 3, 99} { // the last two are outputs that a Tx of three has not
				for in := range 2 {
					l := free(n)
					l[p[0]].Ins[in].Prev = output(l[p[1]], out)
					told(t, "one that spends an output of a later one", of(l), api.ErrArg)
					l[p[0]], l[p[1]] = l[p[1]], l[p[0]]
					told(t, "one that spends an output of an earlier one", of(l), api.OK)
				}
			}
		}
		l := linked(n)
		slices.Reverse(l)
		if n > 2 {
			told(t, "a row that is turned round", of(l), api.ErrArg)
		}
	}
	// Who is not in the block is neither earlier nor later.
	far := nth(9)
	told(t, "one that spends an output of another block's", of([]api.Tx{spending(1, output(far, 0)), nth(2)}), api.OK)
	told(t, "one that spends an output of noughts", of([]api.Tx{spending(1, api.Outpoint{}), nth(2)}), api.OK)
}

func TestCheckRoot(t *testing.T) {
	for _, n := range []int{0, 1, 2, 3, 5, 7, 100} {
		b := of(free(n))
		with := func(root api.Hash) api.Block { return turned(b, func(b *api.Block) { b.Head.Root = root }) }
		for i := range 32 {
			other := b.Head.Root
			other[i] ^= 1 << (i % 8)
			told(t, "a Root with a bit turned", with(other), api.ErrBad)
		}
		if n == 0 {
			told(t, "a Root of another block", with(rootOf(free(1))), api.ErrBad)
			continue
		}
		told(t, "a Root of noughts", with(api.Hash{}), api.ErrBad)
		told(t, "a Root of one fewer", with(rootOf(free(n-1))), api.ErrBad)
		told(t, "a Root of one more", with(rootOf(free(n+1))), api.ErrBad)
		told(t, "the block's ID as Root", with(block.ID(b.Head)), api.ErrBad)
		told(t, "a Tx turned", turned(b, func(b *api.Block) { b.Txs[n-1].Lock = 9999 }), api.ErrBad)
		if n > 1 {
			told(t, "Txs in another order", turned(b, func(b *api.Block) { slices.Reverse(b.Txs) }), api.ErrBad)
			told(t, "the first ID as Root", with(tx.ID(b.Txs[0])), api.ErrBad)
		}
		told(t, "a witness turned", turned(b, func(b *api.Block) { b.Txs[n-1].Ins[0].Wit.Key = 9999 }), api.OK)
	}
}

// fault is something that Check refuses.
type fault struct {
	what string
	want api.Errno
	do   func(b *api.Block)
}

// faults is what may be wrong in a block of five, a list for each part of P6.2's sentence, in its order; Root stands last.
func faults() [][]fault {
	return [][]fault{
		{
			{"Work", api.ErrArg, func(b *api.Block) { b.Head.Work = 0 }},
			{"Nonce", api.ErrArg, func(b *api.Block) { b.Head.Nonce = top + 1 }},
		},
		{
			{"101 Txs", api.ErrBig, func(b *api.Block) {
				for i := len(b.Txs); i < 101; i++ {
					b.Txs = append(b.Txs, nth(i))
				}
			}},
		},
		{
			{"a Tx that runs over", api.ErrOver, func(b *api.Block) { b.Txs[2].Outs[0].Value = -1 }},
			{"a Tx that is too big", api.ErrBig, func(b *api.Block) { b.Txs[4].Outs = make([]api.Out, 101) }},
			{"a Tx without Ins", api.ErrArg, func(b *api.Block) { b.Txs[4].Ins = nil }},
		},
		{
			{"two of one ID", api.ErrArg, func(b *api.Block) { b.Txs[1] = whole(b.Txs[:1])[0] }},
			{"two that conflict", api.ErrArg, func(b *api.Block) { b.Txs[3].Ins[1].Prev = b.Txs[0].Ins[0].Prev }},
			{"an output of a later one", api.ErrArg, func(b *api.Block) { b.Txs[0].Ins[0].Prev = output(b.Txs[3], 0) }},
		},
		{
			{"Root", api.ErrBad, func(b *api.Block) { b.Head.Root[0]++ }},
		},
	}
}

// Where several hold, the one is told that P6.2's sentence names first: all ways to take at most one fault of each part.
func TestCheckOrder(t *testing.T) {
	var take func(parts [][]fault, taken []fault)
	take = func(parts [][]fault, taken []fault) {
		if len(parts) > 0 {
			take(parts[1:], taken)
			for _, f := range parts[0] {
				take(parts[1:], append(slices.Clone(taken), f))
			}
			return
		}
		b, what, want := of(free(5)), "a block", api.OK
		for _, f := range taken {
			what += ", " + f.what
			f.do(&b)
			if f.want != api.ErrBad {
				b.Head.Root = rootOf(b.Txs)
			}
			if want == api.OK {
				want = f.want
			}
		}
		told(t, what, b, want)
	}
	take(faults(), nil)
}
