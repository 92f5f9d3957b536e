// Package ikey: keys, entries, their order, weights, batches: see doc/01-ikey.md.
package ikey

import (
	"cmp"

	"scree/api"
)

// Check tells what is wrong with a key.
func Check(key string) api.Errno {
	switch {
	case len(key) == 0:
		return api.ErrKeyEmpty
	case len(key) > api.MaxKey:
		return api.ErrKeyLong
	}
	return api.OK
}

// CheckBatch tells what is wrong with a batch.
func CheckBatch(l []api.Write) api.Errno {
	if len(l) > api.MaxOps {
		return api.ErrOps
	}
	for _, w := range l {
		if err := checkWrite(w); err != api.OK {
			return err
		}
	}
	return api.OK
}

func checkWrite(w api.Write) api.Errno {
	if err := Check(w.Key); err != api.OK {
		return err
	}
	if len(value(w.Del, w.Val)) > api.MaxValue {
		return api.ErrValueLong
	}
	return api.OK
}

// value is the one place that says that the Val of a delete counts as empty.
func value(del bool, val string) string {
	if del {
		return ""
	}
	return val
}

// Compare tells the order of two entries: -1, 0 or 1.
func Compare(a, b api.Entry) int {
	if order := cmp.Compare(a.Key, b.Key); order != 0 {
		return order
	}
	// The other way round: the newer one comes first, so that a search meets it ahead of what it hides.
	return cmp.Compare(b.Seq, a.Seq)
}

// Weight tells an entry's weight.
func Weight(e api.Entry) int {
	return 2*len(e.Key) + len(value(e.Del, e.Val)) + api.EntryCharge
}

// BatchWeight tells a batch's weight.
func BatchWeight(l []api.Write) int {
	sum := 0
	for _, w := range l {
		// What an entry weighs doesn't hang on its number: any will do.
		sum += Weight(entry(0, w))
	}
	return sum
}

// Entries tells a batch's entries, numbered from first on.
func Entries(first uint64, l []api.Write) []api.Entry {
	made := make([]api.Entry, len(l))
	for i := range len(made) {
		// The sum wraps round: behind 2^64 - 1 comes 0.
		made[i] = entry(first+uint64(i), l[i])
	}
	return made
}

func entry(seq uint64, w api.Write) api.Entry {
	return api.Entry{Key: w.Key, Seq: seq, Del: w.Del, Val: value(w.Del, w.Val)}
}
