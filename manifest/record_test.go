package manifest

import (
	"bytes"
	"fmt"
	"math"
	"math/rand"
	"slices"
	"strings"
	"testing"

	"scree/api"
)

func exampleEdit() api.Edit {
	return api.Edit{
		Log: 2, Next: 9, Seq: 300,
		Out: []api.Place{{Level: 0, Number: 4}},
		In:  []api.Placed{{Level: 1, Table: api.Table{Number: 8, Weight: 455, Bytes: 90, Entries: 1, Least: "a", Greatest: "a"}}},
	}
}

// outs: an edit of so many tables that go out, numbered from 0 on.
func outs(n int) api.Edit {
	var e api.Edit
	for i := range n {
		e.Out = append(e.Out, api.Place{Number: uint64(i)})
	}
	return e
}

// ins: an edit of so many tables that come in, numbered from 0 on.
func ins(n int) api.Edit {
	var e api.Edit
	for i := range n {
		e.In = append(e.In, api.Placed{Table: api.Table{Number: uint64(i)}})
	}
	return e
}

func TestRecordOfTheExample(t *testing.T) {
	recs := Put(exampleEdit())
	if s := fmt.Sprintf("% X", recs); s != "[01 02 09 AC 02 01 00 04 01 01 08 C7 03 5A 01 01 61 01 61 00]" {
		t.Errorf("P14.4: %s", s)
	}
	gets(t, "P14.6: the example", recs, []api.Edit{exampleEdit()}, api.OK)
	gets(t, "P14.6: no records", nil, nil, api.OK)
	gets(t, "P14.6: no records", [][]byte{}, nil, api.OK)
	two := Put(outs(257))
	if len(two) != 2 {
		t.Fatalf("P14.5: %d records", len(two))
	}
	gets(t, "P14.6: the first one", two[:1], nil, api.OK)
	gets(t, "P14.6: the second one", two[1:], []api.Edit{{Out: []api.Place{{Number: 256}}}}, api.OK)
	gets(t, "P14.6: the first one twice", [][]byte{two[0], two[0]}, nil, api.OK)
}

// TestWhichEditsMayBeWritten: each thing at its limit and one past it.
func TestWhichEditsMayBeWritten(t *testing.T) {
	text := func(n int) string { return strings.Repeat("k", n) }
	placed := func(level int, table api.Table) api.Edit {
		return api.Edit{In: []api.Placed{{}, {Level: level, Table: table}, {}}}
	}
	for what, c := range map[string]struct {
		e   api.Edit
		may bool
	}{
		"nothing":               {api.Edit{}, true},
		"out of the last level": {api.Edit{Out: []api.Place{{}, {Level: 4}}}, true},
		"out of level 5":        {api.Edit{Out: []api.Place{{}, {Level: 5}}}, false},
		"out of level -1":       {api.Edit{Out: []api.Place{{}, {Level: -1}}}, false},
		"out, the least level":  {api.Edit{Out: []api.Place{{Level: math.MinInt}}}, false},
		"out, the most levels":  {api.Edit{Out: []api.Place{{Level: math.MaxInt}}}, false},
		"in to the last level":  {placed(4, api.Table{}), true},
		"in to level 5":         {placed(5, api.Table{}), false},
		"in to level -1":        {placed(-1, api.Table{}), false},
		"weight -1":             {placed(0, api.Table{Weight: -1}), false},
		"bytes -1":              {placed(0, api.Table{Bytes: -1}), false},
		"entries -1":            {placed(0, api.Table{Entries: -1}), false},
		"all as low as may be":  {placed(0, api.Table{Weight: math.MinInt, Bytes: math.MinInt, Entries: math.MinInt}), false},
		"all as high as may be": {placed(0, api.Table{Number: math.MaxUint64, Weight: math.MaxInt, Bytes: math.MaxInt, Entries: math.MaxInt}), true},
		"keys of 64 bytes":      {placed(0, api.Table{Least: text(64), Greatest: text(64)}), true},
		"least of 65":           {placed(0, api.Table{Least: text(65)}), false},
		"greatest of 65":        {placed(0, api.Table{Greatest: text(65)}), false},
		"no hull":               {placed(1, api.Table{Least: "b", Greatest: "a"}), true},
		"the same table twice":  {api.Edit{Out: []api.Place{{Number: 1}, {Number: 1}}, In: []api.Placed{{}, {}}}, true},
		"five pointers":         {api.Edit{Pointers: []string{"", text(64), "", "", text(64)}}, true},
		"six pointers":          {api.Edit{Pointers: make([]string, 6)}, false},
		"a pointer of 65":       {api.Edit{Pointers: []string{"", text(65)}}, false},
		"the greatest numbers":  {api.Edit{Log: math.MaxUint64, Next: math.MaxUint64, Seq: math.MaxUint64}, true},
	} {
		recs := Put(c.e)
		if (len(recs) > 0) != c.may || (len(Bytes(3, c.e)) > 0) != c.may {
			t.Errorf("P14.3: %s: %d records, %d bytes", what, len(recs), len(Bytes(3, c.e)))
		}
		if c.may {
			gets(t, "P14.10: "+what, recs, []api.Edit{c.e}, api.OK)
		} else { // written nevertheless, it is no record
			gets(t, "P14.6: "+what, [][]byte{plainRecord(1, c.e)}, nil, api.ErrManifestForm)
		}
	}
}

// TestOneWrongThingFarBehind: an edit of several records, of which the last table is wrong, has none.
func TestOneWrongThingFarBehind(t *testing.T) {
	e := outs(700)
	e.Out[699].Level = 5
	f := ins(700)
	f.In[699].Table.Entries = -1
	for _, e := range []api.Edit{e, f} {
		if len(Put(e)) != 0 || len(Bytes(0, e)) != 0 {
			t.Errorf("P14.5: %d records", len(Put(e)))
		}
	}
}

func TestHowTablesAreCutIntoRecords(t *testing.T) {
	r := rand.New(rand.NewSource(1))
	for _, n := range []int{0, 1, 2, 255, 256, 257, 511, 512, 513, 768, 769, 1000} {
		for _, out := range []int{0, 1, n / 2, n - 1, n, 255, 256, 257, 300} {
			if out < 0 || out > n {
				continue
			}
			e := editOf(r, out, n-out, r.Intn(6))
			recs := Put(e)
			if !sameRecords(recs, plainRecords(e)) {
				t.Fatalf("P14.5: %d out, %d in: %d records, want %d", out, n-out, len(recs), len(plainRecords(e)))
			}
			if want := max(1, (n+255)/256); len(recs) != want {
				t.Errorf("P14.5: %d tables: %d records, want %d", n, len(recs), want)
			}
			gets(t, fmt.Sprintf("P14.10: %d out, %d in", out, n-out), recs, []api.Edit{e}, api.OK)
		}
	}
}

// TestWhatEachRecordTells: pointers by the last one alone, the three numbers by all of them.
func TestWhatEachRecordTells(t *testing.T) {
	e := outs(300)
	e.In = ins(300).In
	e.Log, e.Next, e.Seq, e.Pointers = 7, 8, 9, []string{"x", "", "z"}
	recs := Put(e)
	if len(recs) != 3 {
		t.Fatalf("P14.5: %d records", len(recs))
	}
	for i, want := range []struct{ out, in, pointers int }{{256, 0, 0}, {44, 212, 0}, {0, 88, 3}} {
		flag, part, ok := loosely(recs[i])
		if !ok || (flag == 1) != (i == 2) || part.Log != 7 || part.Next != 8 || part.Seq != 9 {
			t.Errorf("P14.5: record %d: %d, %s", i, flag, short([]api.Edit{part}))
		}
		if len(part.Out) != want.out || len(part.In) != want.in || len(part.Pointers) != want.pointers {
			t.Errorf("P14.5: record %d: %s, want %v", i, short([]api.Edit{part}), want)
		}
	}
}

// TestRecordsThatAreNone: each has one thing wrong.
func TestRecordsThatAreNone(t *testing.T) {
	rec := Put(exampleEdit())[0]
	with := func(from, to int, b ...byte) []byte { return slicesOf(rec[:from], b, rec[to:]) }
	great := []byte{0x80, 0x80, 0x80, 0x80, 0x80, 0x80, 0x80, 0x80, 0x80, 0x01} // 2^63
	over := bytes.Repeat([]byte{0xff}, 10)                                      // no number
	for what, b := range map[string][]byte{
		"no bytes":                    nil,
		"a first byte 2":              with(0, 1, 2),
		"a first byte 255":            with(0, 1, 255),
		"a first byte alone":          rec[:1],
		"not the last, one table":     with(0, 1, 0),
		"a byte behind":               with(20, 20, 0),
		"itself behind":               slicesOf(rec, rec),
		"Log in a long form":          with(1, 2, 0x82, 0),
		"Next in a long form":         with(2, 3, 0x89, 0),
		"Seq is no number":            with(3, 5, over...),
		"out in a long form":          with(5, 6, 0x81, 0),
		"out to level 5":              with(6, 7, 5),
		"out to level 2^63":           with(6, 7, great...),
		"one more goes out":           with(5, 6, 2),
		"one less goes out":           with(5, 6, 0),
		"so many go out":              with(5, 6, over[:9]...),
		"2^63 go out":                 with(5, 6, great...),
		"257 go out":                  with(5, 6, 0x81, 2),
		"one more comes in":           with(8, 9, 2),
		"one less comes in":           with(8, 9, 0),
		"2^63 come in":                with(8, 9, great...),
		"in to level 5":               with(9, 10, 5),
		"in to level 128":             with(9, 10, 0x80, 1),
		"a weight of 2^63":            with(11, 13, great...),
		"a weight in a long form":     with(11, 13, 0xc7, 0x83, 0),
		"bytes of 2^63":               with(13, 14, great...),
		"entries of 2^63":             with(14, 15, great...),
		"a least key of 65":           with(15, 17, append([]byte{65}, bytes.Repeat([]byte{'a'}, 65)...)...),
		"a greatest key of 65":        with(17, 19, append([]byte{65}, bytes.Repeat([]byte{'a'}, 65)...)...),
		"a greatest key that ends":    with(17, 20, 3, 'a', 'a'),
		"a key's length of 2^63":      with(15, 16, great...),
		"one pointer, none is there":  with(19, 20, 1),
		"six pointers":                with(19, 20, 6, 0, 0, 0, 0, 0, 0),
		"2^63 pointers":               with(19, 20, great...),
		"a pointer of 65":             with(19, 20, append([]byte{1, 65}, bytes.Repeat([]byte{'a'}, 65)...)...),
		"a pointer in a long form":    with(19, 20, 1, 0x80, 0),
		"five pointers, a byte more":  with(19, 20, 5, 0, 0, 0, 0, 0, 0),
		"the numbers of nothing":      {1, 0, 0, 0},
		"nothing, no pointers' count": {1, 0, 0, 0, 0, 0},
		"not the last, nothing":       {0, 0, 0, 0, 0, 0, 0},
	} {
		gets(t, "P14.6: "+what, [][]byte{b}, nil, api.ErrManifestForm)
		gets(t, "P14.6: behind a right one: "+what, [][]byte{rec, b}, nil, api.ErrManifestForm)
		gets(t, "P14.6: ahead of a right one: "+what, [][]byte{b, rec}, nil, api.ErrManifestForm)
		gets(t, "P14.6: behind one that is begun: "+what, [][]byte{Put(outs(257))[0], b}, nil, api.ErrManifestForm)
	}
	for i := range rec {
		gets(t, fmt.Sprintf("P14.6: cut at %d", i), [][]byte{rec[:i]}, nil, api.ErrManifestForm)
	}
	gets(t, "P14.6: nothing", [][]byte{{1, 0, 0, 0, 0, 0, 0}}, []api.Edit{{}}, api.OK)
	gets(t, "P14.6: five pointers", [][]byte{{1, 0, 0, 0, 0, 0, 5, 0, 0, 0, 0, 0}}, []api.Edit{{Pointers: make([]string, 5)}}, api.OK)
	gets(t, "P14.6: a weight of 2^63 - 1", [][]byte{with(11, 13, 0xff, 0xff, 0xff, 0xff, 0xff, 0xff, 0xff, 0xff, 0x7f)}, []api.Edit{func() api.Edit {
		e := exampleEdit()
		e.In[0].Table.Weight = math.MaxInt64
		return e
	}()}, api.OK)
}

// TestWhatMayFollow: which record may stand behind one that isn't the last of its edit.
func TestWhatMayFollow(t *testing.T) {
	first := func(e api.Edit) []byte { return plainRecord(0, e) }
	last := func(e api.Edit) []byte { return plainRecord(1, e) }
	mixed := outs(100)
	mixed.In = ins(156).In
	pointed := outs(256)
	pointed.Pointers = []string{""}
	other := func(log, next, seq uint64) api.Edit {
		e := ins(1)
		e.Log, e.Next, e.Seq = log, next, seq
		return e
	}
	both := func(out, in api.Edit) api.Edit { return api.Edit{Out: out.Out, In: in.In} }
	wrong := map[string][][]byte{
		"the first of 255 tables":       {first(outs(255))},
		"the first of 257 tables":       {first(outs(257))},
		"the first of 257, mixed":       {first(both(outs(256), ins(1)))},
		"the last of 257 tables":        {last(outs(257))},
		"the last of 257, mixed":        {last(both(outs(1), ins(256)))},
		"the last of 257, in":           {last(ins(257))},
		"the first with a pointer":      {first(pointed)},
		"the second of 255 tables":      {first(outs(256)), first(outs(255))},
		"the second with a pointer":     {first(outs(256)), first(pointed)},
		"the last of no table":          {first(outs(256)), last(api.Edit{})},
		"no table, but pointers":        {first(outs(256)), last(api.Edit{Pointers: make([]string, 3)})},
		"another Log":                   {first(outs(256)), last(other(1, 0, 0))},
		"another Next":                  {first(outs(256)), last(other(0, 1, 0))},
		"another Seq":                   {first(outs(256)), last(other(0, 0, 1))},
		"another Log, not the last":     {first(outs(256)), first(func() api.Edit { e := outs(256); e.Log = 5; return e }())},
		"out behind in":                 {first(ins(256)), last(outs(1))},
		"out and in behind in":          {first(ins(256)), last(both(outs(1), ins(1)))},
		"out behind out and in":         {first(mixed), last(outs(1))},
		"out behind in, further behind": {first(mixed), first(ins(256)), last(outs(1))},
		"out behind in, not the last":   {first(mixed), first(outs(256))},
	}
	for what, recs := range wrong {
		gets(t, "P14.6: "+what, recs, nil, api.ErrManifestForm)
		gets(t, "P14.6: behind an edit: "+what, append(Put(exampleEdit()), recs...), nil, api.ErrManifestForm)
	}
	for what, c := range map[string]struct {
		recs [][]byte
		want []api.Edit
	}{
		"in behind out":               {[][]byte{first(outs(256)), last(ins(1))}, []api.Edit{both(outs(256), ins(1))}},
		"in behind out and in":        {[][]byte{first(mixed), last(ins(256))}, []api.Edit{both(mixed, api.Edit{In: append(ins(156).In, ins(256).In...)})}},
		"begun, out and in":           {[][]byte{first(outs(256)), first(mixed)}, nil},
		"begun, in":                   {[][]byte{first(mixed), first(ins(256)), first(ins(256))}, nil},
		"behind a whole one":          {[][]byte{last(ins(256)), first(outs(256))}, []api.Edit{ins(256)}},
		"out behind in, another edit": {[][]byte{first(ins(256)), last(ins(1)), last(outs(1))}, []api.Edit{{In: append(ins(256).In, ins(1).In...)}, outs(1)}},
		"another Log, another edit":   {[][]byte{last(other(1, 2, 3)), last(other(3, 2, 1)), last(api.Edit{})}, []api.Edit{other(1, 2, 3), other(3, 2, 1), {}}},
	} {
		gets(t, "P14.6: "+what, c.recs, c.want, api.OK)
	}
}

// TestWrittenAndReadAgain: all records of some edits, and the first so many of them.
func TestWrittenAndReadAgain(t *testing.T) {
	r := rand.New(rand.NewSource(2))
	for range 300 {
		var edits []api.Edit
		var recs [][]byte
		ends := []int{0} // how many records there are behind so many edits
		for range r.Intn(5) {
			e := someEdit(r)
			kept := clone(e)
			put := Put(e)
			if !sameEdit(e, kept) {
				t.Fatal("P14.5: Put has changed what it was handed")
			}
			if !sameRecords(put, plainRecords(e)) {
				t.Fatalf("P14.4: %s", short([]api.Edit{e}))
			}
			edits, recs = append(edits, e), append(recs, put...)
			ends = append(ends, len(recs))
		}
		for n := range len(recs) + 1 {
			whole := 0
			for whole < len(edits) && ends[whole+1] <= n {
				whole++
			}
			gets(t, fmt.Sprintf("P14.10: %d of %d records", n, len(recs)), recs[:n], edits[:whole], api.OK)
		}
	}
}

// spoiled: records with something done to them.
func spoiled(r *rand.Rand, recs [][]byte) [][]byte {
	recs = slices.Clone(recs)
	at := r.Intn(len(recs))
	rec := bytes.Clone(recs[at])
	kind := r.Intn(8)
	if len(rec) == 0 { // there is nothing in it that could be spoiled
		kind %= 3
	}
	switch kind {
	case 0:
		return slices.Delete(recs, at, at+1)
	case 1:
		return slices.Insert(recs, r.Intn(len(recs)+1), rec)
	case 2:
		other := r.Intn(len(recs))
		recs[at], recs[other] = recs[other], recs[at]
	case 3:
		rec[0] ^= 1
		recs[at] = rec
	case 4:
		recs[at] = rec[:r.Intn(len(rec))]
	case 5:
		from := r.Intn(len(rec) + 1)
		recs[at] = slices.Insert(rec, from, byte(r.Intn(256)))
	case 6:
		rec[r.Intn(min(len(rec), 40))] ^= byte(1 << r.Intn(8))
		recs[at] = rec
	case 7:
		rec[len(rec)-1-r.Intn(min(len(rec), 20))] ^= byte(1 << r.Intn(8))
		recs[at] = rec
	}
	return recs
}

func TestGetOfSpoiledRecords(t *testing.T) {
	r := rand.New(rand.NewSource(3))
	taken, refused := 0, 0
	for range 4000 {
		var recs [][]byte
		for range 1 + r.Intn(3) {
			recs = append(recs, Put(someEdit(r))...)
		}
		for range 1 + r.Intn(2) {
			if len(recs) > 0 {
				recs = spoiled(r, recs)
			}
		}
		want, err := modelGet(recs)
		got, e := Get(recs)
		if e != err || !sameEdits(got, want) {
			t.Fatalf("P14.6: %s, %d; want %s, %d", short(got), e, short(want), err)
		}
		if e != api.OK {
			refused++
			continue
		}
		taken++
		var again [][]byte
		for _, e := range got {
			again = append(again, Put(e)...)
		}
		if len(again) > len(recs) || !sameRecords(again, recs[:len(again)]) {
			t.Fatalf("P14.10: the records of what Get answers aren't those that it was handed")
		}
	}
	if taken < 400 || refused < 400 {
		t.Errorf("%d taken, %d refused: the test has lost its weight", taken, refused)
	}
}

func TestGetOfAnyBytes(t *testing.T) {
	r := rand.New(rand.NewSource(4))
	for range 100000 {
		recs := make([][]byte, r.Intn(3))
		for i := range recs {
			recs[i] = make([]byte, r.Intn(14))
			for j := range recs[i] {
				recs[i][j] = []byte{0, 0, 1, 1, 2, 4, 5, 0x80, 0xff, 'a'}[r.Intn(10)]
			}
		}
		want, err := modelGet(recs)
		gets(t, fmt.Sprintf("P14.6: % X", recs), recs, want, err)
	}
}

func TestPutAndGetAnswerNewMemory(t *testing.T) {
	e := outs(300)
	e.In, e.Pointers = ins(300).In, []string{"a", "b", "c"}
	kept := clone(e)
	recs := Put(e)
	// What is done with the edit, or with one record, touches no record.
	clear(e.Out)
	clear(e.In)
	clear(e.Pointers)
	if !sameRecords(recs, plainRecords(kept)) {
		t.Fatal("P14.5: what Put answered hangs on what it was handed")
	}
	for i := range recs {
		all := Put(kept)
		clear(all[i][:cap(all[i])])
		all[i] = recs[i]
		if !sameRecords(all, recs) {
			t.Fatalf("P14.5: record %d shares memory with another one", i)
		}
	}
	handed := [][]byte{}
	for _, rec := range append(slices.Clone(recs), recs...) {
		handed = append(handed, append(bytes.Clone(rec), 1, 2, 3)[:len(rec)])
	}
	before := fmt.Sprint(handed, handed[0][:len(handed[0])+3])
	one, _ := Get(handed)
	two, _ := Get(handed)
	if fmt.Sprint(handed, handed[0][:len(handed[0])+3]) != before {
		t.Fatal("P14.6: Get has changed what it was handed")
	}
	for _, rec := range handed {
		clear(rec)
	}
	if !sameEdits(one, []api.Edit{kept, kept}) {
		t.Fatal("P14.6: what Get answered hangs on what it was handed")
	}
	clear(one[0].Out[:cap(one[0].Out)])
	clear(one[0].In[:cap(one[0].In)])
	clear(one[0].Pointers[:cap(one[0].Pointers)])
	if !sameEdit(one[1], kept) || !sameEdits(two, []api.Edit{kept, kept}) {
		t.Error("P14.6: two edits share memory")
	}
}

// TestHowLongRecordsAre: P14.12, at the greatest numbers that it speaks of.
func TestHowLongRecordsAre(t *testing.T) {
	for _, n := range []int{0, 1, 63, 64} {
		key := strings.Repeat("k", n)
		table := api.Table{Number: 1e12 - 1, Weight: 1<<31 - 1, Bytes: 1<<31 - 1, Entries: 1<<31 - 1, Least: key, Greatest: key}
		one := api.Edit{In: []api.Placed{{Level: 4, Table: table}}}
		if took := len(Put(one)[0]) - len(Put(api.Edit{})[0]); took > 30+2*n {
			t.Errorf("P14.12: a table takes %d bytes", took)
		}
	}
	key := strings.Repeat("k", 64)
	most := api.Edit{Log: math.MaxUint64, Next: math.MaxUint64, Seq: math.MaxUint64, Pointers: slices.Repeat([]string{key}, 5)}
	table := api.Table{Number: math.MaxUint64, Weight: math.MaxInt, Bytes: math.MaxInt, Entries: math.MaxInt, Least: key, Greatest: key}
	most.In = slices.Repeat([]api.Placed{{Level: 4, Table: table}}, 3*256)
	for i, rec := range Put(most) {
		if len(rec) >= api.MaxRecord {
			t.Errorf("P14.12: record %d has %d bytes", i, len(rec))
		}
	}
	gets(t, "P14.10: all as great as may be", Put(most), []api.Edit{most}, api.OK)
}

// TestAGreatEdit: as many tables as would take long, if each record cost what is ahead of it.
func TestAGreatEdit(t *testing.T) {
	e := outs(150000)
	e.In = ins(150001).In
	recs := Put(e)
	if len(recs) != (300001+255)/256 {
		t.Fatalf("P14.5: %d records", len(recs))
	}
	gets(t, "P14.10: a great edit", recs, []api.Edit{e}, api.OK)
	gets(t, "P14.10: all but the last record", recs[:len(recs)-1], nil, api.OK)
}
