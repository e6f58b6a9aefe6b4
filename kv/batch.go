package kv

import (
	"coracle/api"
	"coracle/num"
	"coracle/wire"
)

// How many bytes a key and a value may have, how many pairs a batch, and how many bytes a record of chapter 8.
const (
	mostKey    = 100
	mostValue  = 1 << 17
	mostPairs  = 1000
	mostRecord = 1 << 20
)

// ask tells whether a batch may be put: each pair's ErrArg is told ahead of any ErrBig.
func ask(batch []Pair) api.Errno {
	e := api.ErrArg
	if len(batch) == 0 {
		goto end
	}
	for _, p := range batch {
		if len(p.Key) == 0 || len(p.Key) > mostKey {
			goto end
		}
		if p.Gone && p.Value != "" {
			goto end
		}
	}
	e = api.ErrBig
	if len(batch) > mostPairs {
		goto end
	}
	for _, p := range batch {
		if len(p.Value) > mostValue {
			goto end
		}
	}
	e = api.OK
end:
	return e
}

// write is a batch as a record: Num of how many pairs, then of each Num 1 if it is gone, else 0, Text Key, Text Value.
func write(batch []Pair) []byte {
	var w wire.Writer
	w.Num(len(batch))
	for _, p := range batch {
		gone := 0
		if p.Gone {
			gone = 1
		}
		w.Num(gone)
		w.Text(p.Key)
		w.Text(p.Value)
	}
	return w.Bytes()
}

// read is the batch that a record is; ErrBad of a record that no batch has which may be put.
func read(record []byte) ([]Pair, api.Errno) {
	var batch []Pair
	r := wire.Read(record)
	for range r.Count(mostPairs) {
		gone := r.Count(1)
		batch = append(batch, Pair{Key: r.Text(), Value: r.Text(), Gone: gone == 1})
	}
	if !r.Done() || ask(batch) != api.OK {
		goto bad
	}
	return batch, api.OK
bad:
	return nil, api.ErrBad
}

// packed is pairs as the records of batches, each with as many of the next ones as it can have.
func packed(pairs []Pair) [][]byte {
	var records [][]byte
	for len(pairs) > 0 {
		n := fitting(pairs)
		records = append(records, write(pairs[:n]))
		pairs = pairs[n:]
	}
	return records
}

// fitting is how many of the first pairs go into one record: one at least, for the longest one does.
func fitting(pairs []Pair) int {
	pairs = pairs[:min(len(pairs), mostPairs)]
	size := num.Size(mostPairs)
	n := 0
	for n < len(pairs) {
		size += room(pairs[n])
		if size > mostRecord {
			goto end
		}
		n++
	}
end:
	return n
}

// room is how many bytes a pair takes in a record.
func room(p Pair) int {
	const mark = 1 // that tells whether the pair is gone
	return mark + num.Size(len(p.Key)) + len(p.Key) + num.Size(len(p.Value)) + len(p.Value)
}
