package tx_test

import (
	"math"
	"strconv"
	"strings"
	"testing"

	"coracle/api"
	"coracle/tx"
)

// told fails, unless Check tells want, and Encode, ID and Decode go by it.
func told(t *testing.T, what string, x api.Tx, want api.Errno) {
	t.Helper()
	if e := tx.Check(x); e != want {
		t.Errorf("P5.1: Check of %s: %d, want %d", what, e, want)
	}
	b, e := tx.Encode(x)
	if e != want || (e == api.OK) != (len(b) > 0) {
		t.Errorf("P5.2: Encode of %s: %v, error %d, want error %d", what, b, e, want)
	}
	if (tx.ID(x) != api.Hash{}) != (want == api.OK) {
		t.Errorf("P5.2: ID of %s: %v", what, tx.ID(x))
	}
	if want != api.OK && hasForms(x) {
		refused(t, what, written(allPieces(x)))
	}
}

// hasForms tells whether all numbers of x could be written, whether or not x may be.
func hasForms(x api.Tx) bool {
	for _, p := range allPieces(x) {
		if p.n < 0 || p.n > 1<<62 {
			return false
		}
	}
	return true
}

// number is one number of a transaction, and its least and its greatest.
type number struct {
	what        string
	at          func(x *api.Tx) *int
	least, most int
}

// numberOf is all numbers of x with both bounds, but for the Values.
func numberOf(x api.Tx) []number {
	l := []number{{"Lock", func(x *api.Tx) *int { return &x.Lock }, 0, topLock}}
	for i := range x.Ins {
		l = append(l,
			number{"N", func(x *api.Tx) *int { return &x.Ins[i].Prev.N }, 0, 99},
			number{"Seq", func(x *api.Tx) *int { return &x.Ins[i].Seq }, 0, topTime},
			number{"a witness' Key", func(x *api.Tx) *int { return &x.Ins[i].Wit.Key }, 0, topKey})
	}
	for i := range x.Outs {
		l = append(l,
			number{"Kind", func(x *api.Tx) *int { return &x.Outs[i].Script.Kind }, 1, 6},
			number{"Key", func(x *api.Tx) *int { return &x.Outs[i].Script.Key }, 0, topKey},
			number{"Other", func(x *api.Tx) *int { return &x.Outs[i].Script.Other }, 0, topKey},
			number{"Rev", func(x *api.Tx) *int { return &x.Outs[i].Script.Rev }, 0, topKey},
			number{"Delay", func(x *api.Tx) *int { return &x.Outs[i].Script.Delay }, 0, topTime},
			number{"Expiry", func(x *api.Tx) *int { return &x.Outs[i].Script.Expiry }, 0, topLock})
	}
	return l
}

// Every number of a transaction with every kind, at its ends and beyond them: those that its Kind does not ask for too.
func TestCheckNumbers(t *testing.T) {
	x := sample()
	x.Ins[3].Prev.Tx[1] = 1 // the Prevs part in Tx, whatever N is
	told(t, "all kinds", x, api.OK)
	for _, n := range numberOf(x) {
		set := func(v int) api.Tx { return turned(x, func(x *api.Tx) { *n.at(x) = v }) }
		for _, v := range []int{n.least, n.least + 1, (n.least + n.most) / 2, n.most - 1, n.most} {
			told(t, n.what+" of "+strconv.Itoa(v), set(v), api.OK)
		}
		for _, v := range append([]int{n.least - 1, n.most + 1, n.most + 2}, nowhere...) {
			told(t, n.what+" of "+strconv.Itoa(v), set(v), api.ErrArg)
		}
	}
}

func TestCheckLimitsAreTheChapters(t *testing.T) {
	if api.MaxIns != 100 || api.MaxOuts != 100 || api.MaxHeight != topLock || api.MaxMoney != 21*100000000000000 {
		t.Error("P5.1: the limits are not those of the chapter")
	}
}

func TestCheckHowMany(t *testing.T) {
	for _, ins := range []int{0, 1, 2, 99, 100, 101, 102, 500} {
		for _, outs := range []int{0, 1, 2, 99, 100, 101, 102, 500} {
			want := api.OK
			switch {
			case ins > 100 || outs > 100:
				want = api.ErrBig
			case ins == 0:
				want = api.ErrArg
			}
			told(t, strconv.Itoa(ins)+" Ins, "+strconv.Itoa(outs)+" Outs", sized(ins, outs), want)
		}
	}
	told(t, "nothing", api.Tx{}, api.ErrArg)
	told(t, "empty lists", api.Tx{Ins: []api.In{}, Outs: []api.Out{}}, api.ErrArg)
}

func TestCheckWitnessKinds(t *testing.T) {
	for place := range sample().Ins {
		set := func(w api.Witness) api.Tx { return turned(sample(), func(x *api.Tx) { x.Ins[place].Wit = w }) }
		for kind := 1; kind <= 4; kind++ {
			for _, size := range []int{0, 1, 2, 63, 64, 65, 66, 100, 256, 320, 65537} {
				want := api.ErrArg
				if kind == api.SigPre && size >= 1 && size <= 64 || kind != api.SigPre && size == 0 {
					want = api.OK
				}
				what := "a Pre of " + strconv.Itoa(size) + " bytes with Kind " + strconv.Itoa(kind)
				told(t, what, set(api.Witness{Kind: kind, Key: 1, Pre: strings.Repeat("\xff", size)}), want)
			}
		}
		for _, kind := range append([]int{0, 5, 6, 252, 253, 257, 258}, nowhere...) {
			told(t, "a witness of Kind "+strconv.Itoa(kind), set(api.Witness{Kind: kind}), api.ErrArg)
			told(t, "a witness with a Pre of Kind "+strconv.Itoa(kind), set(api.Witness{Kind: kind, Pre: "p"}), api.ErrArg)
		}
	}
	// 64 is counted in bytes, not in letters.
	wide := plain()
	wide.Ins[0].Wit = api.Witness{Kind: api.SigPre, Pre: strings.Repeat("é", 32)}
	told(t, "a Pre of 64 bytes in 32 letters", wide, api.OK)
	wide.Ins[0].Wit.Pre += "e"
	told(t, "a Pre of 65 bytes in 33 letters", wide, api.ErrArg)
}

func TestCheckDoublePrevs(t *testing.T) {
	for _, size := range []int{2, 3, 50, 100} {
		for _, pair := range [][2]int{{0, 1}, {0, size - 1}, {size - 2, size - 1}, {size / 2, size - 1}, {0, size / 2}} {
			from, to := pair[0], pair[1]
			if from == to {
				continue
			}
			x := turned(sized(size, 1), func(x *api.Tx) { x.Ins[to].Prev = x.Ins[from].Prev })
			told(t, "two of one Prev", x, api.ErrArg)
			x.Ins[to].Seq, x.Ins[to].Wit = 77, api.Witness{Kind: api.Revoke, Key: 9}
			told(t, "two of one Prev, unlike in all else", x, api.ErrArg)
			x.Ins[to].Prev.Tx[0] = 200
			told(t, "two of one N, unlike in Tx", x, api.OK)
			x.Ins[to].Prev.Tx, x.Ins[to].Prev.N = x.Ins[from].Prev.Tx, 50
			told(t, "two of one Tx, unlike in N", x, api.OK)
		}
	}
	zero := plain()
	zero.Ins[0].Prev = api.Outpoint{}
	told(t, "a Prev of noughts", zero, api.OK)
	told(t, "two Prevs of noughts", turned(zero, func(x *api.Tx) { x.Ins = append(x.Ins, x.Ins[0]) }), api.ErrArg)
	told(t, "three of one Prev", turned(zero, func(x *api.Tx) { x.Ins = append(x.Ins, x.Ins[0], x.Ins[0]) }), api.ErrArg)
}

func TestCheckValues(t *testing.T) {
	for _, c := range []struct {
		values []int
		want   api.Errno
	}{
		{nil, api.OK},
		{[]int{0}, api.OK},
		{[]int{0, 0}, api.OK},
		{[]int{topMoney}, api.OK},
		{[]int{topMoney + 1}, api.ErrOver},
		{[]int{topMoney, 0}, api.OK},
		{[]int{0, topMoney}, api.OK},
		{[]int{topMoney, 1}, api.ErrOver},
		{[]int{1, topMoney}, api.ErrOver},
		{[]int{topMoney - 1, 1}, api.OK},
		{[]int{topMoney - 3, 1, 0, 2}, api.OK},
		{[]int{topMoney - 3, 1, 0, 3}, api.ErrOver},
		{[]int{topMoney, topMoney}, api.ErrOver},
		{[]int{-1}, api.ErrOver},
		{[]int{5, -1}, api.ErrOver},
		{[]int{-1, 5}, api.ErrOver},
		{[]int{topMoney, 1, -1}, api.ErrOver},
		{[]int{topMoney + 1, -1}, api.ErrOver},
		{[]int{1 << 62, 1 << 62, 1 << 62, 1 << 62}, api.ErrOver},
		{[]int{math.MinInt, math.MinInt}, api.ErrOver},
		{[]int{math.MaxInt, math.MaxInt, 2}, api.ErrOver},
		{[]int{math.MinInt}, api.ErrOver},
		{[]int{math.MaxInt}, api.ErrOver},
	} {
		x := sized(2, len(c.values))
		for i, v := range c.values {
			x.Outs[i].Value = v
		}
		told(t, "Values", x, c.want)
	}
	hundred := sized(1, 100)
	for i := range hundred.Outs {
		hundred.Outs[i].Value = topMoney / 100
	}
	told(t, "a hundred Values that are just MaxMoney", hundred, api.OK)
	hundred.Outs[99].Value++
	told(t, "a hundred Values that are one more", hundred, api.ErrOver)
}

// Where several hold, the one is told that P5.1's sentence names first.
func TestCheckOrder(t *testing.T) {
	args := map[string]func(x *api.Tx){
		"no Ins":         func(x *api.Tx) { x.Ins = nil },
		"N":              func(x *api.Tx) { x.Ins[0].Prev.N = 100 },
		"the last N":     func(x *api.Tx) { x.Ins[3].Prev.N = -1 },
		"Seq":            func(x *api.Tx) { x.Ins[1].Seq = 65536 },
		"Kind":           func(x *api.Tx) { x.Ins[2].Wit.Kind = 5 },
		"Key":            func(x *api.Tx) { x.Ins[3].Wit.Key = -1 },
		"a long Pre":     func(x *api.Tx) { x.Ins[1].Wit.Pre = strings.Repeat("p", 65) },
		"no Pre":         func(x *api.Tx) { x.Ins[1].Wit.Pre = "" },
		"some Pre":       func(x *api.Tx) { x.Ins[0].Wit.Pre = "p" },
		"two of a Prev":  func(x *api.Tx) { x.Ins[3].Prev = x.Ins[0].Prev },
		"a Script":       func(x *api.Tx) { x.Outs[0].Script.Kind = 0 },
		"another Script": func(x *api.Tx) { x.Outs[3].Script.Expiry = topLock + 1 },
		"the last one":   func(x *api.Tx) { x.Outs[5].Script = api.Script{} },
		"Lock":           func(x *api.Tx) { x.Lock = topLock + 1 },
		"Lock below 0":   func(x *api.Tx) { x.Lock = -1 },
	}
	overs := map[string]func(x *api.Tx){
		"a Value below 0":     func(x *api.Tx) { x.Outs[0].Value = -1 },
		"a Value beyond":      func(x *api.Tx) { x.Outs[5].Value = topMoney + 1 },
		"Values that are too": func(x *api.Tx) { x.Outs[1].Value = topMoney },
	}
	bigs := map[string]func(x *api.Tx){
		"Ins": func(x *api.Tx) {
			for len(x.Ins) < 101 {
				x.Ins = append(x.Ins, nthIn(len(x.Ins)))
			}
		},
		"Outs": func(x *api.Tx) {
			for len(x.Outs) < 101 {
				x.Outs = append(x.Outs, api.Out{Script: api.Script{Kind: api.Wallet}})
			}
		},
	}
	for overName, over := range overs {
		bad := turned(sample(), over)
		told(t, overName, bad, api.ErrOver)
		for argName, arg := range args {
			told(t, argName, turned(sample(), arg), api.ErrArg)
			both := turned(bad, arg)
			told(t, argName+" and "+overName, both, api.ErrArg)
			for bigName, big := range bigs {
				told(t, "too many "+bigName, turned(sample(), big), api.ErrBig)
				told(t, "too many "+bigName+" and "+overName, turned(bad, big), api.ErrBig)
				told(t, "too many "+bigName+", "+argName+" and "+overName, turned(both, big), api.ErrBig)
			}
		}
	}
}
