package block

import (
	"scree/api"
	"scree/codec"
	"scree/ikey"
)

// checkEntry tells why an entry can't be written.
func checkEntry(e api.Entry) api.Errno {
	if err := ikey.CheckBatch([]api.Write{{Key: e.Key, Del: e.Del, Val: e.Val}}); err != api.OK {
		return err
	}
	if e.Seq > mostSeq || e.Del && e.Val != "" {
		return api.ErrBlockForm
	}
	return api.OK
}

// sharedBytes tells how many first bytes are the same in both keys.
func sharedBytes(a, b string) int {
	most := min(len(a), len(b))
	for i := range most {
		if a[i] != b[i] {
			return i
		}
	}
	return most
}

// putEntry lays an entry behind b, so many of whose key's bytes are shared. It may lay it in b's spare room: b is the caller's own.
func putEntry(b []byte, e api.Entry, shared int) []byte {
	rest := e.Key[shared:]
	b = append(b, codec.PutUint(nil, uint64(shared))...)
	b = append(b, codec.PutUint(nil, uint64(len(rest)))...)
	b = append(b, codec.PutUint(nil, tagOf(e))...)
	b = append(b, rest...)
	if e.Del {
		return b
	}
	return append(b, codec.PutText(nil, e.Val)...)
}

// tagOf tells an entry's number, and whether it is deleted, as one number.
func tagOf(e api.Entry) uint64 {
	if e.Del {
		return e.Seq<<1 | 1
	}
	return e.Seq << 1
}

// readEntry reads the entry that b begins with, behind one of the key ahead: it, and how many bytes it takes. Whether it can be written, and shares what it should, isn't asked here.
func readEntry(b []byte, ahead string) (api.Entry, int, bool) {
	var head [3]uint64
	at := 0
	for i := range head {
		n, size, err := codec.Uint(b[at:len(b):len(b)])
		if err != api.OK {
			return api.Entry{}, 0, false
		}
		head[i] = n
		at += size
	}
	key, ok := readKey(b[at:len(b):len(b)], ahead, head[0], head[1])
	if !ok {
		return api.Entry{}, 0, false
	}
	at += int(head[1])
	e := api.Entry{Key: key, Seq: head[2] >> 1, Del: head[2]&1 == 1}
	if e.Del {
		return e, at, true
	}
	val, size, err := codec.Text(b[at:len(b):len(b)], api.MaxValue)
	if err != api.OK {
		return api.Entry{}, 0, false
	}
	e.Val = val
	return e, at + size, true
}

// readKey puts a key together from so many bytes of the one ahead and so many that b begins with. One that is too long is refused here, ahead of laying it together: else keys could grow from entry to entry, far beyond the bytes that are handed in.
func readKey(b []byte, ahead string, shared, rest uint64) (string, bool) {
	if shared > uint64(len(ahead)) || rest > api.MaxKey-shared || rest > uint64(len(b)) {
		return "", false
	}
	return ahead[:shared] + string(b[:rest:rest]), true
}

// word reads four bytes, the lowest first.
func word(b []byte) uint32 {
	var n uint32
	for i := range wordBytes {
		n |= uint32(b[i]) << (byteBits * i)
	}
	return n
}

// putWord lays four bytes behind b, the lowest first. It may lay them in b's spare room: b is the caller's own.
func putWord(b []byte, n uint32) []byte {
	for i := range wordBytes {
		b = append(b, byte(n>>(byteBits*i)))
	}
	return b
}
