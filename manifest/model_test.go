package manifest

import (
	"bytes"
	"encoding/binary"
	"fmt"
	"math/rand"
	"slices"
	"strings"
	"testing"

	"scree/api"
)

// plainMay: P14.3, asked thing by thing.
func plainMay(e api.Edit) bool {
	may := len(e.Pointers) <= 5
	for _, p := range e.Out {
		may = may && p.Level >= 0 && p.Level <= 4
	}
	for _, p := range e.In {
		t := p.Table
		may = may && p.Level >= 0 && p.Level <= 4 && t.Weight >= 0 && t.Bytes >= 0 && t.Entries >= 0 && len(t.Least) <= 64 && len(t.Greatest) <= 64
	}
	for _, s := range e.Pointers {
		may = may && len(s) <= 64
	}
	return may
}

// plainRecords: P14.5, table by table: each stands in the record that its place among the edit's tables says.
func plainRecords(e api.Edit) [][]byte {
	if !plainMay(e) {
		return nil
	}
	n := len(e.Out) + len(e.In)
	parts := make([]api.Edit, max(1, (n+255)/256))
	for i, p := range e.Out {
		parts[i/256].Out = append(parts[i/256].Out, p)
	}
	for i, p := range e.In {
		at := (len(e.Out) + i) / 256
		parts[at].In = append(parts[at].In, p)
	}
	parts[len(parts)-1].Pointers = e.Pointers
	var recs [][]byte
	for i, p := range parts {
		p.Log, p.Next, p.Seq = e.Log, e.Next, e.Seq
		flag := byte(0)
		if i == len(parts)-1 {
			flag = 1
		}
		recs = append(recs, plainRecord(flag, p))
	}
	return recs
}

// plainRecord: P14.4, whatever is told; numbers are laid by the library.
func plainRecord(flag byte, e api.Edit) []byte {
	b := []byte{flag}
	number := func(l ...uint64) {
		for _, n := range l {
			b = binary.AppendUvarint(b, n)
		}
	}
	text := func(s string) { number(uint64(len(s))); b = append(b, s...) }
	number(e.Log, e.Next, e.Seq, uint64(len(e.Out)))
	for _, p := range e.Out {
		number(uint64(p.Level), p.Number)
	}
	number(uint64(len(e.In)))
	for _, p := range e.In {
		number(uint64(p.Level), p.Table.Number, uint64(p.Table.Weight), uint64(p.Table.Bytes), uint64(p.Table.Entries))
		text(p.Table.Least)
		text(p.Table.Greatest)
	}
	number(uint64(len(e.Pointers)))
	for _, s := range e.Pointers {
		text(s)
	}
	return b
}

// loosely reads a record without asking what may be: whether it was right shows when it is written again.
func loosely(rec []byte) (flag byte, e api.Edit, ok bool) {
	ok = len(rec) > 0
	number := func() uint64 {
		n, taken := binary.Uvarint(rec)
		if taken <= 0 {
			ok = false
			return 0
		}
		rec = rec[taken:]
		return n
	}
	text := func() string {
		n := number()
		if !ok || n > uint64(len(rec)) {
			ok = false
			return ""
		}
		s := string(rec[:n])
		rec = rec[n:]
		return s
	}
	if !ok {
		return 0, e, false
	}
	flag, rec = rec[0], rec[1:]
	e.Log, e.Next, e.Seq = number(), number(), number()
	for n := number(); ok && n > 0; n-- {
		e.Out = append(e.Out, api.Place{Level: int(number()), Number: number()})
	}
	for n := number(); ok && n > 0; n-- {
		level := int(number())
		t := api.Table{Number: number(), Weight: int(number()), Bytes: int(number()), Entries: int(number())}
		t.Least, t.Greatest = text(), text()
		e.In = append(e.In, api.Placed{Level: level, Table: t})
	}
	for n := number(); ok && n > 0; n-- {
		e.Pointers = append(e.Pointers, text())
	}
	return flag, e, ok && len(rec) == 0
}

// modelGet: P14.6, as it stands there: edits, and the beginning of one more, of which just these records would be written.
func modelGet(recs [][]byte) ([]api.Edit, api.Errno) {
	var edits []api.Edit
	var begun api.Edit
	from := 0
	for i, rec := range recs {
		flag, e, ok := loosely(rec)
		if !ok {
			return nil, api.ErrManifestForm
		}
		e.Out = slices.Concat(begun.Out, e.Out)
		e.In = slices.Concat(begun.In, e.In)
		begun = e
		if flag != 1 {
			continue
		}
		if !sameRecords(plainRecords(begun), recs[from:i+1]) {
			return nil, api.ErrManifestForm
		}
		edits = append(edits, begun)
		begun, from = api.Edit{}, i+1
	}
	if from == len(recs) {
		return edits, api.OK
	}
	// With one more table the edit that was begun would have its last record.
	begun.In = append(begun.In, api.Placed{})
	whole := plainRecords(begun)
	if len(whole) != len(recs)-from+1 || !sameRecords(whole[:len(whole)-1], recs[from:]) {
		return nil, api.ErrManifestForm
	}
	return edits, api.OK
}

func sameRecords(a, b [][]byte) bool { return slices.EqualFunc(a, b, bytes.Equal) }

func sameEdit(a, b api.Edit) bool {
	return a.Log == b.Log && a.Next == b.Next && a.Seq == b.Seq && slices.Equal(a.Out, b.Out) && slices.Equal(a.In, b.In) && slices.Equal(a.Pointers, b.Pointers)
}

func sameEdits(a, b []api.Edit) bool { return slices.EqualFunc(a, b, sameEdit) }

// gets holds Get to answer these edits, or the error without any.
func gets(t *testing.T, what string, recs [][]byte, want []api.Edit, err api.Errno) {
	t.Helper()
	got, e := Get(recs)
	if e != err || !sameEdits(got, want) {
		t.Errorf("%s: %s, %d; want %s, %d", what, short(got), e, short(want), err)
	}
}

// short tells edits by how many tables they have.
func short(l []api.Edit) string {
	var b strings.Builder
	for _, e := range l {
		fmt.Fprintf(&b, "(%d %d %d: %d out, %d in, %d pointers)", e.Log, e.Next, e.Seq, len(e.Out), len(e.In), len(e.Pointers))
	}
	return b.String()
}

// someNumber: small ones, those around a byte more, and the greatest.
func someNumber(r *rand.Rand) uint64 {
	switch r.Intn(4) {
	case 0:
		return uint64(r.Intn(4))
	case 1:
		return 1<<r.Intn(64) - uint64(r.Intn(2))
	case 2:
		return uint64(r.Int63n(1e12))
	}
	return r.Uint64()
}

// someSize: a number that an int takes.
func someSize(r *rand.Rand) int { return int(someNumber(r) &^ (1 << 63)) }

func someText(r *rand.Rand) string {
	n := r.Intn(4)
	if r.Intn(10) == 0 {
		n = 60 + r.Intn(5)
	}
	b := make([]byte, n)
	for i := range b {
		b[i] = "\x00ab\x80\xff"[r.Intn(5)]
	}
	return string(b)
}

func someTable(r *rand.Rand) api.Table {
	return api.Table{Number: someNumber(r), Weight: someSize(r), Bytes: someSize(r), Entries: someSize(r), Least: someText(r), Greatest: someText(r)}
}

// editOf: an edit that may be written, with so many tables.
func editOf(r *rand.Rand, outs, ins, pointers int) api.Edit {
	e := api.Edit{Log: someNumber(r), Next: someNumber(r), Seq: someNumber(r)}
	for range outs {
		e.Out = append(e.Out, api.Place{Level: r.Intn(5), Number: someNumber(r)})
	}
	for range ins {
		e.In = append(e.In, api.Placed{Level: r.Intn(5), Table: someTable(r)})
	}
	for range pointers {
		e.Pointers = append(e.Pointers, someText(r))
	}
	return e
}

// someEdit: mostly small; at times of a record or more.
func someEdit(r *rand.Rand) api.Edit {
	if r.Intn(4) > 0 {
		return editOf(r, r.Intn(3), r.Intn(3), r.Intn(6))
	}
	n := []int{255, 256, 257, 300, 511, 512, 513, 800}[r.Intn(8)]
	outs := []int{0, n, n / 2, min(n, 256), 255, 1}[r.Intn(6)]
	return editOf(r, outs, n-outs, r.Intn(6))
}

func clone(e api.Edit) api.Edit {
	e.Out, e.In, e.Pointers = slices.Clone(e.Out), slices.Clone(e.In), slices.Clone(e.Pointers)
	return e
}
