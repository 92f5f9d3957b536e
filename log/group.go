package log

import (
	"scree/api"
	"scree/codec"
)

// maxNumber: the greatest number that an entry of a store may have.
const maxNumber = 1<<56 - 1

// The first byte of a write.
const (
	writePut    = 0
	writeDelete = 1
)

// Put tells the record of a group: its first number, its batches.
func Put(first uint64, group [][]api.Write) []byte {
	rec := codec.PutUint(nil, first)
	rec = appendCount(rec, len(group))
	for _, batch := range group {
		rec = appendCount(rec, len(batch))
		for _, w := range batch {
			rec = appendWrite(rec, w)
		}
	}
	return rec
}

// Get reads one.
func Get(rec []byte) (uint64, [][]api.Write, api.Errno) {
	r := reader{rest: rec}
	first := r.number()
	group, writes := r.group()
	if r.err == api.OK && len(r.rest) > 0 {
		r.err = api.ErrCodecForm
	}
	if r.err == api.OK && !numbersFit(first, writes) {
		r.err = api.ErrCodecLong
	}
	if r.err != api.OK {
		return 0, nil, r.err
	}
	return first, group, api.OK
}

// appendCount lays a number behind rec, by a call of its own: codec.PutUint copies what is ahead of the number, and over a long record that would be all of it again and again.
func appendCount(rec []byte, n int) []byte {
	return append(rec, codec.PutUint(nil, uint64(n))...)
}

// appendText is to texts as appendCount to numbers.
func appendText(rec []byte, s string) []byte {
	return append(rec, codec.PutText(nil, s)...)
}

func appendWrite(rec []byte, w api.Write) []byte {
	if w.Del {
		return appendText(append(rec, writeDelete), w.Key)
	}
	return appendText(appendText(append(rec, writePut), w.Key), w.Val)
}

// numbersFit tells whether so many numbers from first on are right ones. The first is asked by itself: the last, reckoned from a greater one, might have passed the greatest uint64.
func numbersFit(first uint64, writes int) bool {
	return writes == 0 || first <= maxNumber && first+uint64(writes-1) <= maxNumber
}

// reader reads a record from the left. At the first error it stands still: whatever is asked of it then is zero, and the error stays.
type reader struct {
	rest []byte
	err  api.Errno
}

// pass goes on behind n bytes that were read, or keeps the error by which they weren't.
func (r *reader) pass(n int, err api.Errno) {
	r.rest = r.rest[n:]
	r.err = err
}

func (r *reader) number() uint64 {
	if r.err != api.OK {
		return 0
	}
	n, taken, err := codec.Uint(r.rest)
	r.pass(taken, err)
	return n
}

func (r *reader) text(most int) string {
	if r.err != api.OK {
		return ""
	}
	s, taken, err := codec.Text(r.rest, most)
	r.pass(taken, err)
	return s
}

// group reads the batches, and tells how many writes they have together.
func (r *reader) group() ([][]api.Write, int) {
	var group [][]api.Write
	writes := 0
	// The number may be far above what the bytes hold: only the batches that are there cost anything.
	for range r.number() {
		batch := r.batch()
		if r.err != api.OK {
			return nil, 0
		}
		group = append(group, batch)
		writes += len(batch)
	}
	return group, writes
}

func (r *reader) batch() []api.Write {
	n := r.number()
	if r.err == api.OK && n > api.MaxOps {
		r.err = api.ErrCodecLong
	}
	if r.err != api.OK {
		return nil
	}
	batch := make([]api.Write, n)
	for i := range batch {
		batch[i] = r.write()
	}
	return batch
}

func (r *reader) write() api.Write {
	var w api.Write
	w.Del = r.kind() == writeDelete
	w.Key = r.key()
	if !w.Del {
		w.Val = r.text(api.MaxValue)
	}
	return w
}

func (r *reader) kind() byte {
	switch {
	case r.err != api.OK:
		return 0
	case len(r.rest) == 0:
		r.err = api.ErrCodecShort
		return 0
	case r.rest[0] > writeDelete:
		r.err = api.ErrCodecForm
		return 0
	}
	kind := r.rest[0]
	r.pass(1, api.OK)
	return kind
}

func (r *reader) key() string {
	key := r.text(api.MaxKey)
	if r.err == api.OK && key == "" {
		r.err = api.ErrCodecForm
	}
	return key
}
