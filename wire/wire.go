// Package wire is the forms that chapter 1's words name, written one behind the other and read back: for the layers that keep things as bytes.
package wire

import (
	"bytes"

	"coracle/api"
	"coracle/num"
)

// Writer gathers forms. A new one has none.
type Writer struct {
	written []byte
}

// Bytes is all that was written, one form behind the other.
func (w *Writer) Bytes() []byte {
	return bytes.Clone(w.written)
}

// Num writes numbers. One that has no form is left out: who writes asks ahead.
func (w *Writer) Num(l ...int) {
	for _, n := range l {
		w.written = append(w.written, num.Put(n)...)
	}
}

// Text writes how many bytes s has, and these.
func (w *Writer) Text(s string) {
	w.Num(len(s))
	w.written = append(w.written, s...)
}

// Hash writes h's bytes, the first one first.
func (w *Writer) Hash(h api.Hash) {
	w.written = append(w.written, h[:]...)
}

// Point writes an outpoint.
func (w *Writer) Point(p api.Outpoint) {
	w.Hash(p.Tx)
	w.Num(p.N)
}

// Script writes a script.
func (w *Writer) Script(s api.Script) {
	w.Num(s.Kind, s.Key, s.Other, s.Rev, s.Delay, s.Expiry)
	w.Hash(s.Hash)
}

// Reader takes forms from the head of bytes. Once one is not there, nothing is: all that is read from then on is zero, so that who reads asks once, at the end.
type Reader struct {
	rest []byte
	bad  bool
}

// Read begins to read b.
func Read(b []byte) *Reader {
	return &Reader{rest: bytes.Clone(b)}
}

// Done tells whether all that was read was there, and nothing is left.
func (r *Reader) Done() bool {
	return !r.bad && len(r.rest) == 0
}

// Num reads a number.
func (r *Reader) Num() int {
	n, used, e := num.Get(r.rest)
	if e != api.OK {
		goto none
	}
	r.rest = r.rest[used:]
	return n
none:
	r.fail()
	return 0
}

// Count reads how many of something follow, most at most: so that no list is made for more than may be.
func (r *Reader) Count(most int) int {
	n := r.Num()
	if n > most {
		goto none
	}
	return n
none:
	r.fail()
	return 0
}

// Text reads a text.
func (r *Reader) Text() string {
	return string(r.take(r.Num()))
}

// Hash reads a hash.
func (r *Reader) Hash() api.Hash {
	var h api.Hash
	copy(h[:], r.take(len(h)))
	return h
}

// Point reads an outpoint.
func (r *Reader) Point() api.Outpoint {
	return api.Outpoint{Tx: r.Hash(), N: r.Num()}
}

// Script reads a script.
func (r *Reader) Script() api.Script {
	return api.Script{
		Kind:   r.Num(),
		Key:    r.Num(),
		Other:  r.Num(),
		Rev:    r.Num(),
		Delay:  r.Num(),
		Expiry: r.Num(),
		Hash:   r.Hash(),
	}
}

// take is the next n bytes, where they lie.
func (r *Reader) take(n int) []byte {
	var part []byte
	if n > len(r.rest) {
		goto none
	}
	part, r.rest = r.rest[:n], r.rest[n:]
	return part
none:
	r.fail()
	return nil
}

// fail leaves nothing to be read.
func (r *Reader) fail() {
	r.rest, r.bad = nil, true
}
