package num_test

import (
	"bytes"
	"encoding/binary"
	"math"
	"testing"

	"coracle/api"
	"coracle/num"
)

// The edges that the chapter names, with their forms written out.
var forms = []struct {
	n    int
	form []byte
}{
	{0, []byte{0}},
	{1, []byte{1}},
	{200, []byte{200}},
	{252, []byte{252}},
	{253, []byte{253, 253, 0}},
	{254, []byte{253, 254, 0}},
	{255, []byte{253, 255, 0}},
	{256, []byte{253, 0, 1}},
	{0x1234, []byte{253, 0x34, 0x12}},
	{1<<16 - 1, []byte{253, 255, 255}},
	{1 << 16, []byte{254, 0, 0, 1, 0}},
	{0x12345678, []byte{254, 0x78, 0x56, 0x34, 0x12}},
	{1 << 31, []byte{254, 0, 0, 0, 128}},
	{1<<32 - 1, []byte{254, 255, 255, 255, 255}},
	{1 << 32, []byte{255, 0, 0, 0, 0, 1, 0, 0, 0}},
	{0x123456789abcdef0, []byte{255, 0xf0, 0xde, 0xbc, 0x9a, 0x78, 0x56, 0x34, 0x12}},
	{1<<62 - 1, []byte{255, 255, 255, 255, 255, 255, 255, 255, 63}},
	{1 << 62, []byte{255, 0, 0, 0, 0, 0, 0, 0, 64}},
}

// Numbers that have no form.
var formless = []int{-1, -2, -252, -253, -1 << 16, -1 << 32, -1 << 62, math.MinInt, math.MinInt + 1, 1<<62 + 1, 1<<62 + 252, math.MaxInt - 1, math.MaxInt}

// many is numbers that have forms: all small ones, and those around each power of two.
func many() []int {
	var l []int
	for n := range 70000 {
		l = append(l, n)
	}
	for k := 17; k <= 62; k++ {
		for d := -3; d <= 3; d++ {
			if n := 1<<k + d; n <= 1<<62 {
				l = append(l, n)
			}
		}
	}
	x := uint64(1)
	for range 20000 {
		x = x*6364136223846793005 + 1442695040888963407
		l = append(l, int(x>>(2+x%60)))
	}
	return l
}

// formOf is the chapter's P1.1 said another way.
func formOf(n int) []byte {
	switch {
	case n < 0 || n > 1<<62:
		return nil
	case n < 253:
		return []byte{byte(n)}
	case n < 1<<16:
		return binary.LittleEndian.AppendUint16([]byte{253}, uint16(n))
	case n < 1<<32:
		return binary.LittleEndian.AppendUint32([]byte{254}, uint32(n))
	}
	return binary.LittleEndian.AppendUint64([]byte{255}, uint64(n))
}

// refused fails, unless Get refuses b with nothing beside the error.
func refused(t *testing.T, b []byte) {
	t.Helper()
	if n, used, e := num.Get(b); n != 0 || used != 0 || e != api.ErrBad {
		t.Errorf("Get(%v) = %d, %d, %d, want 0, 0, ErrBad", b, n, used, e)
	}
}

// reads fails, unless Get finds n in the first used bytes of b.
func reads(t *testing.T, b []byte, n, used int) {
	t.Helper()
	if n1, used1, e := num.Get(b); n1 != n || used1 != used || e != api.OK {
		t.Errorf("Get(%v) = %d, %d, %d, want %d, %d, OK", b, n1, used1, e, n, used)
	}
}

func TestPutAtEdges(t *testing.T) { // P1.1
	for _, f := range forms {
		if b := num.Put(f.n); !bytes.Equal(b, f.form) {
			t.Errorf("Put(%d) = %v, want %v", f.n, b, f.form)
		}
		if s := num.Size(f.n); s != len(f.form) {
			t.Errorf("Size(%d) = %d, want %d", f.n, s, len(f.form))
		}
	}
}

func TestPutOfMany(t *testing.T) { // P1.1
	for _, n := range many() {
		if b, want := num.Put(n), formOf(n); !bytes.Equal(b, want) || num.Size(n) != len(want) {
			t.Fatalf("Put(%d) = %v, Size %d, want %v", n, b, num.Size(n), want)
		}
	}
}

func TestPutOfNone(t *testing.T) { // P1.1
	for _, n := range formless {
		if b := num.Put(n); len(b) != 0 {
			t.Errorf("Put(%d) = %v, want none", n, b)
		}
		if s := num.Size(n); s != 0 {
			t.Errorf("Size(%d) = %d, want 0", n, s)
		}
	}
}

func TestGetAtEdges(t *testing.T) { // P1.2
	for _, f := range forms {
		reads(t, f.form, f.n, len(f.form))
	}
}

func TestGetOfNothing(t *testing.T) { // P1.2
	refused(t, nil)
	refused(t, []byte{})
}

func TestGetOfCutForms(t *testing.T) { // P1.2
	for _, f := range forms {
		for k := range f.form {
			refused(t, f.form[:k])
			// What lies in the spare room is no part of what was handed in.
			refused(t, append(make([]byte, 0, 16), f.form...)[:k])
		}
	}
}

func TestGetOfLongForms(t *testing.T) { // P1.2
	for n := range 1 << 16 {
		b := binary.LittleEndian.AppendUint16([]byte{253}, uint16(n))
		if n < 253 {
			refused(t, b)
		} else {
			reads(t, b, n, 3)
		}
		refused(t, binary.LittleEndian.AppendUint32([]byte{254}, uint32(n)))
		refused(t, binary.LittleEndian.AppendUint64([]byte{255}, uint64(n)))
	}
	for _, n := range []uint64{1 << 16, 1<<16 + 1, 1 << 31, 1<<32 - 2, 1<<32 - 1} {
		reads(t, binary.LittleEndian.AppendUint32([]byte{254}, uint32(n)), int(n), 5)
		refused(t, binary.LittleEndian.AppendUint64([]byte{255}, n))
	}
}

func TestGetBeyondTheGreatest(t *testing.T) { // P1.2
	for _, n := range []uint64{1<<62 + 1, 1<<62 + 252, 1<<63 - 1, 1 << 63, 1<<63 + 7, 1<<63 + 1<<32, 3 << 62, 1<<64 - 1<<32, 1<<64 - 1} {
		b := binary.LittleEndian.AppendUint64([]byte{255}, n)
		refused(t, b)
		refused(t, append(b, 0, 0))
	}
}

// TestGetOnlyOfForms asks of bytes of all kinds: Get reads them just if they begin with a Put.
func TestGetOnlyOfForms(t *testing.T) { // P1.2
	x := uint64(7)
	for i := range 200000 {
		b := make([]byte, i%12)
		for k := range b {
			x = x*6364136223846793005 + 1442695040888963407
			b[k] = []byte{0, 0, 0, 64, 63, 128, 253, 255, byte(x >> 40)}[x>>33%9]
		}
		if len(b) > 0 {
			b[0] = byte(250 + i%6)
		}
		n, used, e := num.Get(b)
		switch {
		case e == api.OK:
			if used == 0 || !bytes.HasPrefix(b, formOf(n)) || len(formOf(n)) != used {
				t.Fatalf("Get(%v) = %d, %d", b, n, used)
			}
		case e != api.ErrBad || n != 0 || used != 0 || begins(b):
			t.Fatalf("Get(%v) = %d, %d, %d", b, n, used, e)
		}
	}
}

// begins tells whether b begins with the form of some number.
func begins(b []byte) bool {
	var room [8]byte
	if len(b) == 0 {
		return false
	}
	for width, first := range map[int]byte{2: 253, 4: 254, 8: 255} {
		if b[0] == first && len(b) > width {
			copy(room[:width], b[1:])
			form := formOf(int(binary.LittleEndian.Uint64(room[:])))
			return len(form) == width+1 && bytes.HasPrefix(b, form)
		}
	}
	return b[0] < 253
}

func TestGetOfPutAndAnything(t *testing.T) { // P1.3
	tails := [][]byte{nil, {0}, {255}, {9, 9}, {253, 0, 0}, {255, 255, 255, 255, 255, 255, 255, 255, 255}}
	for _, n := range many() {
		for _, tail := range tails {
			form := num.Put(n)
			b := append(append([]byte{}, form...), tail...)
			if n1, used, e := num.Get(b); n1 != n || used != len(form) || e != api.OK {
				t.Fatalf("Get(%v) = %d, %d, %d, want %d", b, n1, used, e, n)
			}
		}
	}
}

func TestPutIsNewMemory(t *testing.T) { // P1.3
	for _, f := range forms {
		a := num.Put(f.n)
		spoil(a)
		if b := num.Put(f.n); !bytes.Equal(b, f.form) {
			t.Errorf("Put(%d) = %v once an earlier answer was changed", f.n, b)
		}
	}
	a, b := num.Put(300), num.Put(300)
	spoil(a)
	if !bytes.Equal(b, []byte{253, 44, 1}) {
		t.Errorf("two answers share memory: %v", b)
	}
}

// spoil overwrites a list and its spare room.
func spoil(b []byte) {
	b = b[:cap(b)]
	for i := range b {
		b[i] = 0xaa
	}
}

func TestGetLeavesWhatItIsGiven(t *testing.T) { // DOC.md, rule 3
	for _, f := range forms {
		room := append(append([]byte{}, f.form...), 1, 2, 3, 4, 5, 6, 7, 8)
		before := append([]byte{}, room...)
		for k := range room {
			num.Get(room[:k])
		}
		if !bytes.Equal(room, before) {
			t.Errorf("Get changed %v to %v", before, room)
		}
	}
}
