package manifest

import (
	"scree/api"
	"scree/codec"
)

// The first byte of a record.
const (
	recordMore = 0
	recordLast = 1
)

// record: what a record tells of its edit: some of its tables, and whether none are left behind them.
type record struct {
	last bool
	api.Edit
}

// mayBeWritten asks no more than the records' form needs; whether the edit fits a version isn't this layer's business.
func mayBeWritten(e api.Edit) bool {
	for _, p := range e.Out {
		if !isLevel(p.Level) {
			return false
		}
	}
	for _, p := range e.In {
		if !isLevel(p.Level) || !tableFits(p.Table) {
			return false
		}
	}
	for _, key := range e.Pointers {
		if len(key) > api.MaxKey {
			return false
		}
	}
	return len(e.Pointers) <= api.MaxLevels
}

func isLevel(level int) bool { return level >= 0 && level < api.MaxLevels }

func tableFits(t api.Table) bool {
	return min(t.Weight, t.Bytes, t.Entries) >= 0 && max(len(t.Least), len(t.Greatest)) <= api.MaxKey
}

// tables tells how many tables an edit, or a record of one, has.
func tables(e api.Edit) int { return len(e.Out) + len(e.In) }

// split tells the first record of an edit, and the edit of which the others are. Their lists lie in e's.
func split(e api.Edit) (record, api.Edit) {
	outs := min(len(e.Out), api.EditTables)
	ins := min(len(e.In), api.EditTables-outs)
	r := record{Edit: e}
	r.Out, e.Out = e.Out[:outs:outs], e.Out[outs:]
	r.In, e.In = e.In[:ins:ins], e.In[ins:]
	r.last = tables(e) == 0
	if !r.last {
		r.Pointers = nil
	}
	return r, e
}

// follows tells whether a record may stand behind those of the edit that is begun, of which none was the last. An edit without a table isn't begun: all records but the last one are full.
func follows(begun api.Edit, r record) bool {
	if tables(begun) == 0 {
		return true
	}
	if r.Log != begun.Log || r.Next != begun.Next || r.Seq != begun.Seq {
		return false
	}
	return tables(r.Edit) > 0 && (len(begun.In) == 0 || len(r.Out) == 0)
}

// joined lays a record behind those of the edit that is begun. That edit's lists are the caller's own.
func joined(begun api.Edit, r record) api.Edit {
	e := r.Edit
	e.Out = append(begun.Out, r.Out...)
	e.In = append(begun.In, r.In...)
	return e
}

func putRecord(r record) []byte {
	rec := []byte{recordMore}
	if r.last {
		rec[0] = recordLast
	}
	rec = appendNumbers(rec, r.Log, r.Next, r.Seq, uint64(len(r.Out)))
	for _, p := range r.Out {
		rec = appendNumbers(rec, uint64(p.Level), p.Number)
	}
	rec = appendNumbers(rec, uint64(len(r.In)))
	for _, p := range r.In {
		t := p.Table
		rec = appendNumbers(rec, uint64(p.Level), t.Number, uint64(t.Weight), uint64(t.Bytes), uint64(t.Entries))
		rec = appendTexts(rec, t.Least, t.Greatest)
	}
	rec = appendNumbers(rec, uint64(len(r.Pointers)))
	return appendTexts(rec, r.Pointers...)
}

// appendNumbers lays each number by a call of its own: codec.PutUint copies what is ahead of the number, and over a long record that would be all of it again and again.
func appendNumbers(rec []byte, l ...uint64) []byte {
	for _, n := range l {
		rec = append(rec, codec.PutUint(nil, n)...)
	}
	return rec
}

// appendTexts is to texts as appendNumbers to numbers.
func appendTexts(rec []byte, l ...string) []byte {
	for _, s := range l {
		rec = append(rec, codec.PutText(nil, s)...)
	}
	return rec
}
