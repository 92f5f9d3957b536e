package log

import (
	"bytes"
	"fmt"
	"hash/crc32"
	"iter"
	"math"
	"math/rand"
	"runtime"
	"slices"
	"testing"
	"time"

	"scree/api"
)

// fill tells n bytes that differ from place to place, so that a part that is missing or doubled shows.
func fill(n int) []byte {
	b := make([]byte, n)
	for i := range b {
		b[i] = byte(i*7 + i>>8 + 1)
	}
	return b
}

// pieceOf tells a piece with a right sum, whatever its kind and its part are.
func pieceOf(kind byte, part []byte) []byte {
	n := len(part)
	rest := append([]byte{byte(n), byte(n >> 8), kind}, part...)
	s := crc32.Checksum(rest, crc32.MakeTable(crc32.Castagnoli))
	return append([]byte{byte(s), byte(s >> 8), byte(s >> 16), byte(s >> 24)}, rest...)
}

// layPlainly tells what P7.2 says, over whole blocks: it cuts the record ahead of laying anything.
func layPlainly(at int, rec []byte) []byte {
	var out []byte
	for left := 512 - at%512; left < 8 && len(out) < left; {
		out = append(out, 0)
	}
	var parts [][]byte
	room := 512 - (at+len(out))%512 - 7
	for len(rec) > room {
		parts = append(parts, rec[:room])
		rec = rec[room:]
		room = 505
	}
	parts = append(parts, rec)
	for i, p := range parts {
		kind := byte(3)
		switch {
		case len(parts) == 1:
			kind = 1
		case i == 0:
			kind = 2
		case i == len(parts)-1:
			kind = 4
		}
		out = append(out, pieceOf(kind, p)...)
	}
	return out
}

// join lays records one behind the other: the log, and where each of them ends.
func join(recs ...[]byte) ([]byte, []int) {
	var b []byte
	var ends []int
	for _, r := range recs {
		b = append(b, Append(len(b), r)...)
		ends = append(ends, len(b))
	}
	return b, ends
}

// pad tells records that take just n bytes at the beginning of a log.
func pad(t *testing.T, n int) []byte {
	t.Helper()
	var b []byte
	for n-len(b) >= 1024 {
		b = append(b, Append(len(b), fill(505))...)
	}
	for size := 0; len(b) < n && size < 1100; size++ {
		if laid := Append(len(b), fill(size)); len(b)+len(laid) == n {
			b = append(b, laid...)
		}
	}
	if len(b) != n {
		t.Fatalf("no padding of %d bytes", n)
	}
	return b
}

// checkRead holds what Read and All answer of b against what they must.
func checkRead(t *testing.T, what string, b []byte, recs [][]byte, taken int, err api.Errno) {
	t.Helper()
	got, n, e := Read(b)
	if n != taken || e != err || !slices.EqualFunc(got, recs, bytes.Equal) {
		t.Errorf("%s: %d records, %d bytes, %d; want %d, %d, %d", what, len(got), n, e, len(recs), taken, err)
	}
	if all := slices.Collect(All(b)); !slices.EqualFunc(all, recs, bytes.Equal) {
		t.Errorf("P7.5: %s: All gives %d records, want %d", what, len(all), len(recs))
	}
}

func TestAppendOfTheExamples(t *testing.T) {
	same := func(promise string, got, want []byte) {
		t.Helper()
		if !bytes.Equal(got, want) {
			t.Errorf("%s: % X, want % X", promise, got, want)
		}
	}
	six := []byte("uvwxyz")
	same("P7.1", Append(0, []byte{1, 2, 3}), pieceOf(1, []byte{1, 2, 3}))
	same("P7.1", Append(0, nil), pieceOf(1, nil))
	same("P7.2", Append(500, six), append(pieceOf(2, six[:5]), pieceOf(4, six[5:])...))
	same("P7.2", Append(504, six[:1]), pieceOf(1, six[:1]))
	same("P7.2", Append(505, six[:1]), append(make([]byte, 7), pieceOf(1, six[:1])...))
	same("P7.2", Append(504, nil), pieceOf(1, nil))
	same("P7.2", Append(511, nil), append(make([]byte, 1), pieceOf(1, nil)...))
	same("P7.2", Append(505, nil), append(make([]byte, 7), pieceOf(1, nil)...))
}

func TestAppendAtEveryPlace(t *testing.T) {
	sizes := []int{0, 1, 2, 6, 7, 8, 9, 100, 497, 498, 504, 505, 506, 507, 1009, 1010, 1011, 1515, 1516, 5000}
	for at := range 2 * api.LogBlock {
		for _, n := range sizes {
			if got, want := Append(at, fill(n)), layPlainly(at, fill(n)); !bytes.Equal(got, want) {
				t.Fatalf("P7.2: Append(%d, %d bytes): %d bytes, want %d", at, n, len(got), len(want))
			}
		}
		// The record that just fills the block, and those around it.
		for n := max(0, 512-at%512-9); n <= 512-at%512; n++ {
			if got, want := Append(at, fill(n)), layPlainly(at, fill(n)); !bytes.Equal(got, want) {
				t.Fatalf("P7.2: Append(%d, %d bytes): % X, want % X", at, n, got, want)
			}
		}
	}
}

func TestAppendAtPlacesOutside(t *testing.T) {
	rec := fill(1300)
	for _, at := range []int{-1, -5, -505, -512, -1 << 40, math.MinInt} {
		if !bytes.Equal(Append(at, rec), Append(0, rec)) {
			t.Errorf("P7.3: Append at %d isn't that at 0", at)
		}
	}
	for _, at := range []int{math.MaxInt, math.MaxInt - 6, math.MaxInt - 7, math.MaxInt - 511, 1 << 40} {
		if !bytes.Equal(Append(at, rec), layPlainly(at%512, rec)) {
			t.Errorf("P7.3: Append at %d", at)
		}
	}
}

func TestAppendKeepsNothing(t *testing.T) {
	room := fill(1400)
	rec := room[:600]
	laid := Append(300, rec)
	if !bytes.Equal(room, fill(1400)) {
		t.Fatal("P7.3: Append has changed what it was handed")
	}
	clear(room)
	if !bytes.Equal(laid, layPlainly(300, fill(600))) {
		t.Error("P7.3: what Append answered hangs on what it was handed")
	}
	again := Append(300, fill(600))
	clear(laid[:cap(laid)])
	if !bytes.Equal(again, layPlainly(300, fill(600))) {
		t.Error("P7.3: two answers share memory")
	}
}

func TestReadOfTheExamples(t *testing.T) {
	checkRead(t, "P7.4: no bytes", nil, nil, 0, api.OK)
	checkRead(t, "P7.4: no bytes", []byte{}, nil, 0, api.OK)
	one := []byte{1}
	checkRead(t, "P7.4: one record", Append(0, one), [][]byte{one}, 8, api.OK)
	checkRead(t, "P7.4: a zero behind", append(Append(0, one), 0), [][]byte{one}, 8, api.ErrLogTorn)
	checkRead(t, "P7.4: seven zeros", make([]byte, 7), nil, 0, api.ErrLogTorn)
	checkRead(t, "P7.4: zeros", make([]byte, 1200), nil, 0, api.ErrLogTorn)
	checkRead(t, "P7.4: an empty record", Append(0, nil), [][]byte{nil}, 7, api.OK)
	checkRead(t, "P7.4: an empty one and one zero", pad(t, 511), mustRead(t, pad(t, 511)), 511, api.OK)
}

func mustRead(t *testing.T, b []byte) [][]byte {
	t.Helper()
	recs, _, err := Read(b)
	if err != api.OK {
		t.Fatalf("P7.8: Read of whole records: %d", err)
	}
	return recs
}

// TestReadRefusesOtherForms: pieces whose sums are right, but which Append lays nowhere so.
func TestReadRefusesOtherForms(t *testing.T) {
	full := fill(505)
	cat := func(l ...[]byte) []byte { return slices.Concat(l...) }
	for _, c := range []struct {
		name string
		b    []byte
	}{
		{"kind 0", pieceOf(0, full[:3])},
		{"kind 5", pieceOf(5, full[:3])},
		{"kind 255", pieceOf(255, full[:3])},
		{"kind 3 as the first", cat(pieceOf(3, full), pieceOf(4, full[:1]))},
		{"kind 4 as the first", pieceOf(4, full[:3])},
		{"kind 4 as the first, empty", pieceOf(4, nil)},
		{"kind 2 that doesn't fill its block", cat(pieceOf(2, full[:504]), pieceOf(4, full[:1]))},
		{"kind 2 that doesn't fill its block, and zeros", cat(pieceOf(2, full[:504]), []byte{0}, pieceOf(4, full[:1]))},
		{"kind 2, empty", cat(pieceOf(2, nil), pieceOf(4, full[:1]))},
		{"kind 2 and no more", pieceOf(2, full)},
		{"kinds 2 and 1", cat(pieceOf(2, full), pieceOf(1, full[:1]))},
		{"kinds 2 and 2", cat(pieceOf(2, full), pieceOf(2, full), pieceOf(4, full[:1]))},
		{"kinds 2 and 0", cat(pieceOf(2, full), pieceOf(0, full[:1]))},
		{"kinds 2 and 5", cat(pieceOf(2, full), pieceOf(5, full[:1]))},
		{"kind 4, empty", cat(pieceOf(2, full), pieceOf(4, nil))},
		{"kind 4, empty, behind one of kind 3", cat(pieceOf(2, full), pieceOf(3, full), pieceOf(4, nil))},
		{"kind 3 that doesn't fill its block", cat(pieceOf(2, full), pieceOf(3, full[:500]), pieceOf(4, full[:1]))},
		{"kind 3, empty", cat(pieceOf(2, full), pieceOf(3, nil), pieceOf(4, full[:1]))},
		{"kinds 2 and 3 and no more", cat(pieceOf(2, full), pieceOf(3, full))},
		{"kinds 2, 3 and 1", cat(pieceOf(2, full), pieceOf(3, full), pieceOf(1, full[:1]))},
		{"a part that passes its block", pieceOf(1, fill(506))},
		{"a last part that passes its block", cat(pieceOf(2, full), pieceOf(4, fill(506)))},
		{"a first part that passes its block", cat(pieceOf(2, fill(506)), pieceOf(4, full[:1]))},
		{"a middle part that passes its block", cat(pieceOf(2, full), pieceOf(3, fill(1017)), pieceOf(4, full[:1]))},
		{"zeros where a piece has room", cat(make([]byte, 512), pieceOf(1, full[:1]))},
	} {
		// A whole record behind it, at a block's beginning, isn't looked at.
		behind := cat(c.b, make([]byte, 2048-len(c.b)), Append(0, full[:9]))
		for _, b := range [][]byte{c.b, behind} {
			checkRead(t, "P7.4: "+c.name, b, nil, 0, api.ErrLogTorn)
			head := Append(0, fill(505))
			checkRead(t, "P7.4: behind a record: "+c.name, cat(head, b), [][]byte{fill(505)}, 512, api.ErrLogTorn)
		}
	}
}

func TestReadNearABlocksEnd(t *testing.T) {
	for left := 1; left <= 20; left++ {
		head := pad(t, 1024-left)
		before := mustRead(t, head)
		for n := range 30 {
			b := append(bytes.Clone(head), Append(len(head), fill(n))...)
			checkRead(t, fmt.Sprintf("P7.4: %d left, %d bytes", left, n), b, append(slices.Clone(before), fill(n)), len(b), api.OK)
		}
		for n := range left + 3 {
			b := append(bytes.Clone(head), make([]byte, n)...)
			err := api.ErrLogTorn
			if n == 0 {
				err = api.OK
			}
			checkRead(t, fmt.Sprintf("P7.4: %d left, %d zeros", left, n), b, before, len(head), err)
		}
		if left >= 8 {
			continue
		}
		// What lies there is one byte that isn't zero, or a piece where zeros must be.
		for i := range left {
			b := append(bytes.Clone(head), Append(len(head), fill(5))...)
			b[len(head)+i] = 1
			checkRead(t, fmt.Sprintf("P7.4: %d left, no zero at %d", left, i), b, before, len(head), api.ErrLogTorn)
			checkRead(t, "P7.4: the same, torn off", b[:len(head)+i+1], before, len(head), api.ErrLogTorn)
		}
		for kind := range byte(6) {
			b := slices.Concat(head, pieceOf(kind, nil), pieceOf(1, fill(3)))
			checkRead(t, fmt.Sprintf("P7.4: %d left, a piece of kind %d", left, kind), b, before, len(head), api.ErrLogTorn)
		}
	}
}

// someRecords tells records of sizes that meet a block's edges often.
func someRecords(r *rand.Rand) [][]byte {
	var recs [][]byte
	for range 1 + r.Intn(12) {
		n := r.Intn(40)
		switch r.Intn(5) {
		case 0:
			n = 0
		case 1:
			n = 480 + r.Intn(60)
		case 2:
			n = r.Intn(2500)
		}
		rec := make([]byte, n)
		r.Read(rec)
		recs = append(recs, rec)
	}
	return recs
}

func TestReadOfFirstParts(t *testing.T) {
	r := rand.New(rand.NewSource(7))
	for range 40 {
		recs := someRecords(r)
		b, ends := join(recs...)
		for cut := 0; cut <= len(b); cut++ {
			n, taken := 0, 0
			for n < len(ends) && ends[n] <= cut {
				taken = ends[n]
				n++
			}
			got, whole, err := Read(b[:cut:cut])
			if (err == api.OK) != (cut == taken) || err != api.OK && err != api.ErrLogTorn || whole != taken || !slices.EqualFunc(got, recs[:n], bytes.Equal) {
				t.Fatalf("P7.8: %d of %d bytes: %d records, %d, %d; want %d, %d", cut, len(b), len(got), whole, err, n, taken)
			}
		}
		checkRead(t, "P7.8: all of them", b, recs, len(b), api.OK)
		behind := make([]byte, 1+r.Intn(600))
		r.Read(behind)
		got, whole, _ := Read(append(bytes.Clone(b), behind...))
		if len(got) < len(recs) || whole < len(b) || !slices.EqualFunc(got[:len(recs)], recs, bytes.Equal) {
			t.Fatalf("P7.8: with other bytes behind: %d records of %d", len(got), len(recs))
		}
	}
}

// stands tells whether a record stands at at: it takes whatever parts are told there, and holds b against what would lay them.
func stands(b []byte, at int) bool {
	var rec []byte
	begin := at
	if left := 512 - at%512; left < 8 {
		at += left
	}
	for at+7 <= len(b) {
		end := at + 7 + int(b[at+4]) + int(b[at+5])<<8
		if end > len(b) {
			return false
		}
		rec = append(rec, b[at+7:end]...)
		if kind := b[at+6]; kind == 1 || kind == 4 {
			return bytes.HasPrefix(b[begin:], layPlainly(begin, rec))
		}
		at = end
	}
	return false
}

// TestReadAnswersWhatIsLaid: whatever the bytes are, what is taken is what Append lays of the records, and no record stands behind it.
func TestReadAnswersWhatIsLaid(t *testing.T) {
	r := rand.New(rand.NewSource(8))
	for range 3000 {
		b, _ := join(someRecords(r)...)
		for range r.Intn(3) {
			if len(b) > 0 {
				b[r.Intn(len(b))] ^= 1 << r.Intn(8)
			}
		}
		b = b[:r.Intn(len(b)+1)]
		recs, taken, err := Read(b)
		var again []byte
		for _, rec := range recs {
			again = append(again, layPlainly(len(again), rec)...)
		}
		if !bytes.Equal(again, b[:taken]) || (err == api.OK) != (taken == len(b)) {
			t.Fatalf("P7.4: %d records, %d of %d bytes, %d", len(recs), taken, len(b), err)
		}
		if stands(b, taken) {
			t.Fatalf("P7.4: a record stands behind %d of %d bytes", taken, len(b))
		}
		if all := slices.Collect(All(b)); !slices.EqualFunc(all, recs, bytes.Equal) {
			t.Fatalf("P7.5: All gives %d records, Read %d", len(all), len(recs))
		}
	}
}

// piecesOf tells where each piece of a log begins and ends; zeros stand among them as if they were one.
func piecesOf(b []byte) [][2]int {
	var out [][2]int
	for at := 0; at < len(b); {
		if left := 512 - at%512; left < 8 {
			out = append(out, [2]int{at, at + left})
			at += left
			continue
		}
		end := at + 7 + int(b[at+4]) + int(b[at+5])<<8
		out = append(out, [2]int{at, end})
		at = end
	}
	return out
}

func TestReadStopsAtTurnedBits(t *testing.T) {
	r := rand.New(rand.NewSource(9))
	for range 300 {
		recs := someRecords(r)
		b, ends := join(recs...)
		for _, p := range piecesOf(b) {
			for range 12 {
				x := bytes.Clone(b)
				at := turnBits(r, x, p)
				if at < 0 {
					continue
				}
				n, taken := 0, 0
				for ends[n] <= at {
					taken = ends[n]
					n++
				}
				got, whole, err := Read(x)
				if err != api.ErrLogTorn || whole != taken || !slices.EqualFunc(got, recs[:n], bytes.Equal) {
					t.Fatalf("P7.9: bits turned from byte %d on: %d records, %d, %d; want %d, %d", at, len(got), whole, err, n, taken)
				}
			}
		}
	}
}

// turnBits turns bits of a piece, or of the zeros, within 32 that follow one another, none of a length; it tells the first byte of them, -1 if none was turned.
func turnBits(r *rand.Rand, b []byte, p [2]int) int {
	from, to := 8*p[0], 8*p[1]
	zeros := 512-p[0]%512 < 8
	if r.Intn(2) == 0 {
		to = min(to, from+8*9) // the head, where sum and kind lie apart
	}
	begin := from + r.Intn(to-from)
	span := 1 + r.Intn(32)
	first := -1
	for bit := begin; bit < min(begin+span, to); bit++ {
		length := !zeros && (bit-from)/8 >= 4 && (bit-from)/8 < 6
		if length || r.Intn(2) == 0 {
			continue
		}
		b[bit/8] ^= 1 << (bit % 8)
		if first < 0 {
			first = bit / 8
		}
	}
	return first
}

func TestReadStopsAtEveryTurnedBit(t *testing.T) {
	recs := [][]byte{fill(3), nil, fill(600), fill(390), fill(1), fill(1200)}
	b, ends := join(recs...)
	for _, p := range piecesOf(b) {
		for at := p[0]; at < p[1]; at++ {
			if i := at - p[0]; p[1]-p[0] >= 7 && 512-p[0]%512 >= 8 && (i == 4 || i == 5) {
				continue
			}
			n, _ := slices.BinarySearch(ends, at+1)
			for bit := range 8 {
				b[at] ^= 1 << bit
				if got, _, err := Read(b); err != api.ErrLogTorn || len(got) != n {
					t.Fatalf("P7.9: bit %d of byte %d: %d records, want %d; %d", bit, at, len(got), n, err)
				}
				b[at] ^= 1 << bit
			}
		}
	}
}

func TestReadAnswersNewMemory(t *testing.T) {
	recs := [][]byte{fill(3), fill(700), nil, fill(5)}
	b, _ := join(recs...)
	was := bytes.Clone(b)
	got, _, _ := Read(b)
	if !bytes.Equal(b, was) {
		t.Fatal("P7.4: Read has changed what it was handed")
	}
	clear(b)
	for i := range got {
		if !bytes.Equal(got[i], recs[i]) {
			t.Fatalf("P7.4: record %d hangs on what was handed in", i)
		}
		clear(got[i][:cap(got[i])])
		for j := i + 1; j < len(got); j++ {
			if !bytes.Equal(got[j], recs[j]) {
				t.Fatalf("P7.4: records %d and %d share memory", i, j)
			}
		}
	}
	more, _, _ := Read(was)
	if !slices.EqualFunc(more, recs, bytes.Equal) {
		t.Error("P7.4: two answers share memory")
	}
}

func TestAllIsOfTheBytesOfTheCall(t *testing.T) {
	recs := [][]byte{[]byte("a"), fill(900), nil, []byte("def")}
	b, _ := join(recs...)
	was := bytes.Clone(b)
	all := All(b)
	if !bytes.Equal(b, was) {
		t.Fatal("P7.5: All has changed what it was handed")
	}
	clear(b)
	for round := range 3 {
		var got [][]byte
		for rec := range all {
			got = append(got, bytes.Clone(rec))
			clear(rec[:cap(rec)])
		}
		if !slices.EqualFunc(got, recs, bytes.Equal) {
			t.Errorf("P7.5: round %d: %q", round, got)
		}
	}
}

func TestAllMayBeLeft(t *testing.T) {
	var recs [][]byte
	for i := range 50 {
		recs = append(recs, fill(i*20))
	}
	b, _ := join(recs...)
	all := All(b)
	for n := range len(recs) + 1 {
		var got [][]byte
		for rec := range all {
			if len(got) == n {
				break
			}
			got = append(got, rec)
		}
		if !slices.EqualFunc(got, recs[:n], bytes.Equal) {
			t.Fatalf("P7.5: left behind %d records: %d", n, len(got))
		}
	}
}

func TestAllWithinItself(t *testing.T) {
	recs := [][]byte{fill(1), fill(2), fill(3)}
	b, _ := join(recs...)
	all := All(b)
	sum := 0
	for x := range all {
		for y := range all {
			sum += len(x) * len(y)
			if len(y) == 2 {
				break
			}
		}
	}
	if sum != 6*3 {
		t.Errorf("P7.5: gone through within itself: %d", sum)
	}
	next, stop := iter.Pull(all)
	x, ok := next()
	stop()
	if !ok || len(x) != 1 {
		t.Errorf("P7.5: pulled: %d, %v", len(x), ok)
	}
}

// settled tells whether no more goroutines run than so many, within a while.
func settled(n int) bool {
	for range 2000 {
		if runtime.NumGoroutine() <= n {
			return true
		}
		time.Sleep(time.Millisecond)
	}
	return false
}

func TestAllLeavesNoGoroutine(t *testing.T) {
	b, _ := join(slices.Repeat([][]byte{fill(30)}, 200)...)
	all := All(b)
	before := runtime.NumGoroutine()
	for n := range 200 {
		for range all {
			n--
			if n < 0 {
				break
			}
		}
		for range all {
		}
		func() {
			defer func() { _ = recover() }()
			for range all {
				panic("the loop's body")
			}
		}()
	}
	if !settled(before) {
		t.Errorf("P7.5: %d goroutines, %d before", runtime.NumGoroutine(), before)
	}
}
