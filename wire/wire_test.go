package wire_test

import (
	"bytes"
	"math"
	"testing"

	"coracle/api"
	"coracle/wire"
)

var (
	hash   = api.Hash{0: 1, 1: 2, 31: 9}
	spot   = api.Outpoint{Tx: hash, N: 300}
	locked = api.Script{Kind: 5, Key: 1 << 30, Other: 253, Rev: 3, Delay: 65535, Expiry: 65536, Hash: hash}
)

// all is one of each form, written one behind the other.
func all() []byte {
	var w wire.Writer
	w.Num(7, 253)
	w.Text("a\x00\xff")
	w.Text("")
	w.Hash(hash)
	w.Point(spot)
	w.Script(locked)
	w.Num(4)
	return w.Bytes()
}

// nums is numbers, written one behind the other.
func nums(l ...int) []byte {
	var w wire.Writer
	w.Num(l...)
	return w.Bytes()
}

// join is pieces behind each other.
func join(l ...[]byte) []byte { return bytes.Join(l, nil) }

func TestForms(t *testing.T) { // chapter 1, Words
	want := join(
		[]byte{7, 253, 253, 0},
		[]byte{3, 'a', 0, 255},
		[]byte{0},
		hash[:],
		hash[:], []byte{253, 44, 1},
		[]byte{5, 254, 0, 0, 0, 64, 253, 253, 0, 3, 253, 255, 255, 254, 0, 0, 1, 0}, hash[:],
		[]byte{4},
	)
	if got := all(); !bytes.Equal(got, want) {
		t.Errorf("the forms are\n%v, want\n%v", got, want)
	}
	if got := nums(); len(got) != 0 {
		t.Errorf("no numbers: %v", got)
	}
	if got := nums(1, -1, math.MaxInt, 2); !bytes.Equal(got, []byte{1, 2}) {
		t.Errorf("numbers without a form: %v", got)
	}
}

func TestFormsReadBack(t *testing.T) {
	r := wire.Read(all())
	if n, m := r.Num(), r.Num(); n != 7 || m != 253 {
		t.Errorf("Num: %d, %d", n, m)
	}
	if s, none := r.Text(), r.Text(); s != "a\x00\xff" || none != "" {
		t.Errorf("Text: %q, %q", s, none)
	}
	if h := r.Hash(); h != hash {
		t.Errorf("Hash: %v", h)
	}
	if p := r.Point(); p != spot {
		t.Errorf("Point: %v", p)
	}
	if s := r.Script(); s != locked {
		t.Errorf("Script: %v", s)
	}
	if r.Done() {
		t.Error("Done, though a number is left")
	}
	if n := r.Count(4); n != 4 || !r.Done() {
		t.Errorf("Count: %d", n)
	}
}

// reads is each of the forms, read once: whether it was zero.
func reads(r *wire.Reader) map[string]bool {
	return map[string]bool{
		"Num":    r.Num() == 0,
		"Count":  r.Count(9) == 0,
		"Text":   r.Text() == "",
		"Hash":   r.Hash() == api.Hash{},
		"Point":  r.Point() == api.Outpoint{},
		"Script": r.Script() == api.Script{},
	}
}

func TestNothingBehindWhatIsNotThere(t *testing.T) {
	many := bytes.Repeat([]byte{1}, 500)
	for _, fault := range []struct {
		what string
		b    []byte
		read func(r *wire.Reader)
	}{
		{"nothing", nil, func(r *wire.Reader) { r.Num() }},
		{"a long form", join([]byte{253, 1, 0}, many), func(r *wire.Reader) { r.Num() }},
		{"a count too great", join([]byte{10}, many), func(r *wire.Reader) { r.Count(9) }},
		{"a text that is cut", join([]byte{253, 0, 2}, many), func(r *wire.Reader) { r.Text() }},
		{"a text beyond all", join([]byte{255, 0, 0, 0, 0, 0, 0, 0, 64}, many), func(r *wire.Reader) { r.Text() }},
		{"a text without length", []byte{254, 1}, func(r *wire.Reader) { r.Text() }},
		{"a hash that is cut", many[:31], func(r *wire.Reader) { r.Hash() }},
	} {
		r := wire.Read(fault.b)
		fault.read(r)
		if r.Done() {
			t.Errorf("%s: Done", fault.what)
		}
		for form, zero := range reads(r) {
			if !zero {
				t.Errorf("%s: %s is not zero behind it", fault.what, form)
			}
		}
		if r.Done() {
			t.Errorf("%s: Done behind more", fault.what)
		}
	}
}

func TestCount(t *testing.T) {
	for _, n := range []int{0, 1, 99, 100, 252, 253, 1 << 40} {
		for _, most := range []int{0, 1, 100, 252, 253, 1 << 40} {
			r := wire.Read(nums(n))
			got := r.Count(most)
			if n <= most && (got != n || !r.Done()) || n > most && (got != 0 || r.Done()) {
				t.Errorf("Count(%d) of %d: %d, %v", most, n, got, r.Done())
			}
		}
	}
}

func TestCutAtEachPlace(t *testing.T) {
	b := all()
	for k := range b {
		r := wire.Read(b[:k])
		r.Num()
		r.Num()
		r.Text()
		r.Text()
		r.Hash()
		r.Point()
		r.Script()
		if r.Num(); r.Done() {
			t.Errorf("cut at %d: Done", k)
		}
	}
}

func TestReaderKeepsNothingOfTheBytes(t *testing.T) {
	b := all()
	before := bytes.Clone(b)
	r := wire.Read(b)
	r.Num()
	r.Num()
	if !bytes.Equal(b, before) {
		t.Error("reading changed the bytes")
	}
	clear(b)
	if s := r.Text(); s != "a\x00\xff" {
		t.Error("what is read hangs on the bytes that were handed in")
	}
}

func TestBytesAreNewMemory(t *testing.T) {
	var w wire.Writer
	w.Num(1, 2)
	first := w.Bytes()
	w.Num(3)
	second := w.Bytes()
	clear(second[:cap(second)])
	if !bytes.Equal(first, []byte{1, 2}) || !bytes.Equal(w.Bytes(), []byte{1, 2, 3}) {
		t.Errorf("Bytes: %v, then %v", first, w.Bytes())
	}
}
