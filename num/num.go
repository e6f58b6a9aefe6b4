// Package num is sizes in bytes: see DOC.md, chapter 1.
package num

import (
	"coracle/api"
)

// The greatest number that has a form.
const most = 1 << 62

// First bytes that say how many more stand behind them; a smaller one is the number itself.
const (
	lead2 = 253
	lead4 = 254
	lead8 = 255
)

// Put writes n's form, the least byte first; nothing of a number that has none.
func Put(n int) []byte {
	var b []byte
	size := Size(n)
	if size == 0 {
		goto none
	}
	b = make([]byte, size)
	if size == 1 {
		b[0] = byte(n)
		return b
	}
	b[0] = lead(size)
	for i := 1; i < size; i++ {
		b[i] = byte(n)
		n >>= 8
	}
none:
	return b
}

// Get reads the number whose form b begins with, and tells how many bytes that form has.
func Get(b []byte) (n, used int, e api.Errno) {
	var value uint64
	if len(b) == 0 {
		goto none
	}
	used = span(b[0])
	if len(b) < used {
		goto none
	}
	value = read(b[:used])
	if value > most {
		goto none
	}
	// A number has one form: one that a shorter form holds is not read from a longer one.
	if Size(int(value)) != used {
		goto none
	}
	return int(value), used, api.OK
none:
	return 0, 0, api.ErrBad
}

// Size is how many bytes n's form has; 0 of a number that has none.
func Size(n int) int {
	size := 0
	if n < 0 || n > most {
		goto none
	}
	switch {
	case n < lead2:
		size = 1
	case n < 1<<16:
		size = 3
	case n < 1<<32:
		size = 5
	default:
		size = 9
	}
none:
	return size
}

// lead is the first byte of a form of size bytes, of more than one.
func lead(size int) byte {
	switch size {
	case 3:
		return lead2
	case 5:
		return lead4
	}
	return lead8
}

// span is how many bytes a form has that begins with first.
func span(first byte) int {
	switch first {
	case lead2:
		return 3
	case lead4:
		return 5
	case lead8:
		return 9
	}
	return 1
}

// read is what a whole form says; unsigned, for eight bytes may say more than an int holds.
func read(form []byte) uint64 {
	if len(form) == 1 {
		return uint64(form[0])
	}
	var value uint64
	for i := len(form) - 1; i > 0; i-- {
		value = value<<8 | uint64(form[i])
	}
	return value
}
