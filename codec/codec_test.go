package codec

import (
	"bytes"
	"encoding/binary"
	"hash/crc32"
	"math"
	"math/bits"
	"math/rand"
	"slices"
	"strings"
	"testing"

	"scree/api"
)

// someNumbers: both sides of each edge at which a number takes a byte more, and of each power of two.
func someNumbers() []uint64 {
	l := []uint64{0, 300, math.MaxUint64, math.MaxInt64, math.MaxInt64 + 1}
	for i := range 64 {
		l = append(l, 1<<i-1, 1<<i, 1<<i+1)
	}
	return l
}

// someTails: what may stand behind a thing that is read, and isn't looked at.
func someTails() [][]byte {
	return [][]byte{nil, {0}, {1}, {0x7F}, {0x80}, {0xFF}, {0x80, 0}, bytes.Repeat([]byte{0xFF}, 20)}
}

// someBytes: bytes from 0 on, n of them.
func someBytes(n int) []byte {
	b := make([]byte, n)
	for i := range b {
		b[i] = byte(i*7 + i>>8)
	}
	return b
}

// lengths: near the edges of a length's bytes, and of a body.
var lengths = []int{0, 1, 2, 3, 4, 5, 126, 127, 128, 129, 16383, 16384, 16385, api.MaxRecord - 1, api.MaxRecord}

func ones(n int, last ...byte) []byte {
	return append(bytes.Repeat([]byte{0xFF}, n), last...)
}

func TestPutUint(t *testing.T) {
	rows := []struct {
		b    []byte
		n    uint64
		want []byte
	}{
		{nil, 0, []byte{0}},
		{nil, 1, []byte{1}},
		{nil, 127, []byte{0x7F}},
		{nil, 128, []byte{0x80, 1}},
		{nil, 255, []byte{0xFF, 1}},
		{[]byte{5}, 300, []byte{5, 0xAC, 2}},
		{nil, 16383, []byte{0xFF, 0x7F}},
		{nil, 16384, []byte{0x80, 0x80, 1}},
		{[]byte{0x80, 0}, 0, []byte{0x80, 0, 0}},
		{nil, 1<<63 - 1, ones(8, 0x7F)},
		{nil, 1 << 63, append(bytes.Repeat([]byte{0x80}, 9), 1)},
		{nil, math.MaxUint64, ones(9, 1)},
	}
	for _, r := range rows {
		if got := PutUint(r.b, r.n); !bytes.Equal(got, r.want) {
			t.Errorf("P2.1, P2.2: %d behind % X: % X, not % X", r.n, r.b, got, r.want)
		}
	}
}

func TestPutUintOfManyNumbers(t *testing.T) {
	for _, n := range someNumbers() {
		got := PutUint(nil, n)
		if want := binary.AppendUvarint(nil, n); !bytes.Equal(got, want) {
			t.Errorf("P2.1: %d: % X, not % X", n, got, want)
		}
		if want := max(1, (bits.Len64(n)+6)/7); len(got) != want {
			t.Errorf("P2.1: %d takes %d bytes, not %d", n, len(got), want)
		}
		if len(got) == 10 && got[9] != 1 {
			t.Errorf("P2.1: %d: the tenth byte is %d", n, got[9])
		}
	}
}

func TestUint(t *testing.T) {
	rows := []struct {
		b    []byte
		n    uint64
		k    int
		want api.Errno
	}{
		{[]byte{0}, 0, 1, api.OK},
		{[]byte{0, 0}, 0, 1, api.OK},
		{[]byte{0x7F, 0x80}, 127, 1, api.OK},
		{[]byte{0xAC, 2, 9}, 300, 2, api.OK},
		{ones(9, 1), math.MaxUint64, 10, api.OK},
		{ones(9, 1, 0xFF), math.MaxUint64, 10, api.OK},
		{append(bytes.Repeat([]byte{0x80}, 9), 1), 1 << 63, 10, api.OK},
		{ones(8, 0x7F), math.MaxInt64, 9, api.OK},
		{nil, 0, 0, api.ErrCodecShort},
		{[]byte{}, 0, 0, api.ErrCodecShort},
		{[]byte{0x80}, 0, 0, api.ErrCodecShort},
		{[]byte{0x80, 0x80}, 0, 0, api.ErrCodecShort},
		{ones(9), 0, 0, api.ErrCodecShort},
		{bytes.Repeat([]byte{0x80}, 9), 0, 0, api.ErrCodecShort},
		{[]byte{0x80, 0}, 0, 0, api.ErrCodecForm},
		{[]byte{0xFF, 0}, 0, 0, api.ErrCodecForm},
		{[]byte{0x80, 0x80, 0}, 0, 0, api.ErrCodecForm},
		{[]byte{0x81, 0x80, 0, 1}, 0, 0, api.ErrCodecForm},
		{ones(8, 0), 0, 0, api.ErrCodecForm},
		{ones(9, 0), 0, 0, api.ErrCodecForm},
		{ones(9, 2), 0, 0, api.ErrCodecForm},
		{ones(9, 3), 0, 0, api.ErrCodecForm},
		{ones(9, 0x7F), 0, 0, api.ErrCodecForm},
		{ones(9, 0x80), 0, 0, api.ErrCodecForm},
		{ones(9, 0x81), 0, 0, api.ErrCodecForm},
		{ones(9, 0x81, 1), 0, 0, api.ErrCodecForm},
		{ones(10), 0, 0, api.ErrCodecForm},
		{ones(40), 0, 0, api.ErrCodecForm},
	}
	for _, r := range rows {
		if n, k, err := Uint(r.b); n != r.n || k != r.k || err != r.want {
			t.Errorf("P2.2: % X: %d, %d, %d, not %d, %d, %d", r.b, n, k, err, r.n, r.k, r.want)
		}
	}
}

// plainUint reads a number by the words of P2.2 alone: the first wrong byte, or the first that ends it.
func plainUint(b []byte) (uint64, int, api.Errno) {
	var n uint64
	for i, c := range b {
		if i > 0 && c == 0 || i == 9 && c != 1 {
			return 0, 0, api.ErrCodecForm
		}
		n += uint64(c%128) << (7 * i)
		if c < 128 {
			return n, i + 1, api.OK
		}
	}
	return 0, 0, api.ErrCodecShort
}

// eachShort goes through all bytes of at most most bytes of an alphabet.
func eachShort(alphabet []byte, most int, see func([]byte)) {
	var walk func([]byte)
	walk = func(b []byte) {
		see(b)
		if len(b) == most {
			return
		}
		for _, c := range alphabet {
			walk(append(b, c))
		}
	}
	walk(make([]byte, 0, most))
}

func TestUintOfAllShortBytes(t *testing.T) {
	check := func(b []byte) {
		n, k, err := Uint(b)
		if n2, k2, err2 := plainUint(b); n != n2 || k != k2 || err != err2 {
			t.Fatalf("P2.2: % X: %d, %d, %d, not %d, %d, %d", b, n, k, err, n2, k2, err2)
		}
		if err == api.OK && !bytes.Equal(PutUint(nil, n), b[:k]) {
			t.Fatalf("P2.7: % X: %d has another form, too", b, n)
		}
	}
	all := someBytes(256)
	for i := range all {
		all[i] = byte(i)
	}
	eachShort(all, 2, check)
	eachShort([]byte{0, 1, 2, 0x7F, 0x80, 0x81, 0xFF}, 5, check)
	eachShort([]byte{0, 1, 0x80, 0xFF}, 8, check)
	for i := range all {
		for j := range all {
			check(ones(8, byte(i), byte(j)))
			check(append(bytes.Repeat([]byte{0x80}, 9), byte(i), byte(j)))
		}
	}
}

func TestPutText(t *testing.T) {
	rows := []struct {
		b    []byte
		s    string
		want []byte
	}{
		{nil, "", []byte{0}},
		{[]byte{1}, "ab", []byte{1, 2, 'a', 'b'}},
		{nil, "\x00\xFF", []byte{2, 0, 0xFF}},
		{nil, "é", []byte{2, 0xC3, 0xA9}},
		{nil, strings.Repeat("x", 127), append([]byte{0x7F}, strings.Repeat("x", 127)...)},
		{[]byte{9, 9}, strings.Repeat("x", 128), append([]byte{9, 9, 0x80, 1}, strings.Repeat("x", 128)...)},
	}
	for _, r := range rows {
		if got := PutText(r.b, r.s); !bytes.Equal(got, r.want) {
			t.Errorf("P2.3: %d bytes behind % X: % X, not % X", len(r.s), r.b, got, r.want)
		}
	}
}

func TestText(t *testing.T) {
	huge := append(PutUint(nil, math.MaxUint64), 'a')
	half := append(PutUint(nil, math.MaxInt64), 'a')
	past := append(PutUint(nil, math.MaxInt64+1), 'a')
	rows := []struct {
		b    []byte
		most int
		s    string
		k    int
		want api.Errno
	}{
		{[]byte{2, 'a', 'b', 'c'}, 2, "ab", 3, api.OK},
		{[]byte{2, 'a', 'b', 'c'}, 3, "ab", 3, api.OK},
		{[]byte{2, 'a', 'b'}, math.MaxInt, "ab", 3, api.OK},
		{[]byte{0}, 0, "", 1, api.OK},
		{[]byte{0, 0x80}, 0, "", 1, api.OK},
		{[]byte{1, 0xFF}, 1, "\xFF", 2, api.OK},
		{[]byte{2, 'a', 'b', 'c'}, 1, "", 0, api.ErrCodecLong},
		{[]byte{2, 'a'}, 2, "", 0, api.ErrCodecShort},
		{[]byte{2}, 2, "", 0, api.ErrCodecShort},
		{[]byte{3}, 2, "", 0, api.ErrCodecLong},
		{[]byte{1}, 0, "", 0, api.ErrCodecLong},
		{[]byte{0}, -1, "", 0, api.ErrCodecLong},
		{[]byte{1, 'a'}, -1, "", 0, api.ErrCodecLong},
		{[]byte{1, 'a'}, math.MinInt, "", 0, api.ErrCodecLong},
		{huge, -1, "", 0, api.ErrCodecLong},
		{nil, -1, "", 0, api.ErrCodecShort},
		{[]byte{0x80}, -1, "", 0, api.ErrCodecShort},
		{[]byte{0x80, 0}, -1, "", 0, api.ErrCodecForm},
		{[]byte{0x81, 0, 'a'}, 5, "", 0, api.ErrCodecForm},
		{ones(10), 5, "", 0, api.ErrCodecForm},
		{nil, 5, "", 0, api.ErrCodecShort},
		{huge, math.MaxInt, "", 0, api.ErrCodecLong},
		{past, math.MaxInt, "", 0, api.ErrCodecLong},
		{half, math.MaxInt, "", 0, api.ErrCodecShort},
		{half, math.MaxInt - 1, "", 0, api.ErrCodecLong},
	}
	for _, r := range rows {
		if s, k, err := Text(r.b, r.most); s != r.s || k != r.k || err != r.want {
			t.Errorf("P2.3: % X, %d: %q, %d, %d, not %q, %d, %d", r.b, r.most, s, k, err, r.s, r.k, r.want)
		}
	}
}

func TestSum(t *testing.T) {
	rows := []struct {
		b    []byte
		want uint32
	}{
		{nil, 0},
		{[]byte{}, 0},
		{[]byte("123456789"), 0xE3069283},
		{make([]byte, 32), 0x8A9136AA},
		{ones(32), 0x62A8AB43},
	}
	for _, r := range rows {
		if got := Sum(r.b); got != r.want {
			t.Errorf("P2.4: % X: %X, not %X", r.b, got, r.want)
		}
	}
	castagnoli := crc32.MakeTable(crc32.Castagnoli)
	for c := range 256 {
		if got, want := Sum([]byte{byte(c)}), crc32.Checksum([]byte{byte(c)}, castagnoli); got != want {
			t.Errorf("P2.4: byte %X: %X, not %X", c, got, want)
		}
	}
	for _, n := range lengths {
		if got, want := Sum(someBytes(n)), crc32.Checksum(someBytes(n), castagnoli); got != want {
			t.Errorf("P2.4: %d bytes: %X, not %X", n, got, want)
		}
	}
}

func TestFrame(t *testing.T) {
	if got, want := Frame([]byte("a")), []byte{1, 'a', 0xC4, 0xFF, 0x6E, 0x71}; !bytes.Equal(got, want) {
		t.Errorf("P2.5: % X, not % X", got, want)
	}
	for _, none := range [][]byte{nil, {}} {
		if got, want := Frame(none), []byte{0, 0x51, 0x53, 0x7D, 0x52}; !bytes.Equal(got, want) {
			t.Errorf("P2.5: % X, not % X", got, want)
		}
	}
	for _, n := range append([]int{api.MaxRecord + 1, api.MaxRecord * 3}, lengths...) {
		want := append(PutUint(nil, uint64(n)), someBytes(n)...)
		want = binary.LittleEndian.AppendUint32(want, crc32.Checksum(want, crc32.MakeTable(crc32.Castagnoli)))
		if !bytes.Equal(Frame(someBytes(n)), want) {
			t.Errorf("P2.5: the frame of %d bytes is another one", n)
		}
	}
}

// unframed asks Unframe for an error, and that there is nothing beside it.
func unframed(t *testing.T, promise string, b []byte, want api.Errno) {
	t.Helper()
	if body, k, err := Unframe(b); len(body) != 0 || k != 0 || err != want {
		t.Errorf("%s: %d bytes beginning % X: %d bytes of body, %d, %d, not %d", promise, len(b), b[:min(len(b), 12)], len(body), k, err, want)
	}
}

func TestUnframeRefuses(t *testing.T) {
	good := Frame([]byte("abc"))
	unframed(t, "P2.5", nil, api.ErrCodecShort)
	unframed(t, "P2.5", []byte{0x80}, api.ErrCodecShort)
	unframed(t, "P2.5", []byte{0x80, 0}, api.ErrCodecForm)
	unframed(t, "P2.5", append([]byte{0x83, 0}, good[1:]...), api.ErrCodecForm)
	unframed(t, "P2.5", ones(10), api.ErrCodecForm)
	unframed(t, "P2.5", PutUint(nil, math.MaxUint64), api.ErrCodecLong)
	unframed(t, "P2.5", PutUint(nil, math.MaxInt64), api.ErrCodecLong)
	unframed(t, "P2.5", PutUint(nil, api.MaxRecord+1), api.ErrCodecLong)
	unframed(t, "P2.5", PutUint(nil, api.MaxRecord), api.ErrCodecShort)
	unframed(t, "P2.5", Frame(make([]byte, api.MaxRecord+1)), api.ErrCodecLong)
	for k := range good {
		unframed(t, "P2.5", good[:k], api.ErrCodecShort)
	}
	long := Frame(someBytes(api.MaxRecord))
	unframed(t, "P2.5", long[:len(long)-1], api.ErrCodecShort)
	unframed(t, "P2.5", long[:len(long)-4], api.ErrCodecShort)
	unframed(t, "P2.5", append(good[:4:4], 0, 0, 0, 0), api.ErrCodecSum)
	// The sum is of the length's bytes, too.
	body := crc32.Checksum([]byte("abc"), crc32.MakeTable(crc32.Castagnoli))
	unframed(t, "P2.5", binary.LittleEndian.AppendUint32(good[:4:4], body), api.ErrCodecSum)
	// Its four bytes stand the lowest first.
	unframed(t, "P2.5", binary.BigEndian.AppendUint32(good[:4:4], Sum(good[:4])), api.ErrCodecSum)
	// A wrong sum that isn't all there is short.
	unframed(t, "P2.5", append(good[:4:4], 0, 0, 0), api.ErrCodecShort)
}

func TestWhatIsWrittenIsRead(t *testing.T) {
	for _, tail := range someTails() {
		for _, n := range someNumbers() {
			b := PutUint(nil, n)
			if got, k, err := Uint(append(b[:len(b):len(b)], tail...)); got != n || k != len(b) || err != api.OK {
				t.Errorf("P2.6: %d, then % X: %d, %d, %d", n, tail, got, k, err)
			}
		}
		for _, n := range append([]int{api.MaxRecord + 1}, lengths...) {
			s := string(someBytes(n))
			b := PutText(nil, s)
			for _, most := range []int{n, n + 1, math.MaxInt} {
				if got, k, err := Text(append(b[:len(b):len(b)], tail...), most); got != s || k != len(b) || err != api.OK {
					t.Errorf("P2.6: a text of %d bytes, most %d, then % X: %d bytes, %d, %d", n, most, tail, len(got), k, err)
				}
			}
		}
		for _, n := range lengths {
			b := Frame(someBytes(n))
			if got, k, err := Unframe(append(b[:len(b):len(b)], tail...)); !bytes.Equal(got, someBytes(n)) || k != len(b) || err != api.OK {
				t.Errorf("P2.6: a body of %d bytes, then % X: %d bytes, %d, %d", n, tail, len(got), k, err)
			}
		}
	}
}

func TestOneForm(t *testing.T) {
	eachShort([]byte{0, 1, 2, 3, 0x80, 0x81, 0x82, 'a'}, 5, func(b []byte) {
		if s, k, err := Text(b, math.MaxInt); err == api.OK && !bytes.Equal(PutText(nil, s), b[:k]) {
			t.Errorf("P2.7: % X: %q has another form, too", b, s)
		}
	})
	for _, n := range lengths {
		b := append(Frame(someBytes(n)), 1, 2, 3)
		if body, k, err := Unframe(b); err != api.OK || !bytes.Equal(Frame(body), b[:k]) {
			t.Errorf("P2.7: a body of %d bytes has another form, too", n)
		}
	}
	// A longer form of the length with a right sum is no frame, either.
	b := []byte{0x81, 0, 'a'}
	unframed(t, "P2.7", binary.LittleEndian.AppendUint32(b, Sum(b)), api.ErrCodecForm)
}

func TestNoneBeginsAnother(t *testing.T) {
	var numbers, texts, frames [][]byte
	for _, n := range someNumbers() {
		numbers = append(numbers, PutUint(nil, n))
	}
	eachShort([]byte{0, 1, 'a'}, 4, func(b []byte) {
		texts = append(texts, PutText(nil, string(b)))
		frames = append(frames, Frame(b))
	})
	for name, l := range map[string][][]byte{"number": numbers, "text": texts, "frame": frames} {
		for _, a := range l {
			for _, b := range l {
				if bytes.HasPrefix(b, a) && !bytes.Equal(a, b) {
					t.Errorf("P2.7: a %s % X begins another % X", name, a, b)
				}
			}
		}
	}
}

// turned is a frame with those bits of pattern turned, from bit at on; bits are counted lowest first within a byte.
func turned(f []byte, at int, pattern uint32) []byte {
	b := bytes.Clone(f)
	for i := range 32 {
		if pattern>>i&1 == 1 {
			b[(at+i)/8] ^= 1 << ((at + i) % 8)
		}
	}
	return b
}

func TestTurnedBitsAreFound(t *testing.T) {
	dice := rand.New(rand.NewSource(2))
	for _, n := range []int{0, 1, 5, 127, 128, 300} {
		f := Frame(someBytes(n))
		first := len(PutUint(nil, uint64(n))) * 8
		for at := first; at < len(f)*8; at++ {
			room := min(32, len(f)*8-at)
			patterns := []uint32{0, math.MaxUint32, 1 << 31, 0x82F63B78, 0x1EDC6F41}
			for range 20 {
				patterns = append(patterns, dice.Uint32())
			}
			for _, p := range patterns {
				p = (p | 1) & uint32(1<<room-1)
				unframed(t, "P2.8", turned(f, at, p), api.ErrCodecSum)
			}
		}
	}
	f := Frame(someBytes(api.MaxRecord))
	for range 40 {
		at := 24 + dice.Intn(len(f)*8-24-32)
		unframed(t, "P2.8", turned(f, at, dice.Uint32()|1), api.ErrCodecSum)
	}
	unframed(t, "P2.8", turned(f, 24, 1), api.ErrCodecSum)
	unframed(t, "P2.8", turned(f, len(f)*8-32, 1<<31), api.ErrCodecSum)
}

// withRoom is b's bytes, with marked bytes in the spare room behind them.
func withRoom(b []byte) []byte {
	l := append(bytes.Clone(b), bytes.Repeat([]byte{0xEE}, 40)...)
	return l[:len(b)]
}

// untouched asks that b is as withRoom made it.
func untouched(t *testing.T, what string, b, was []byte) {
	t.Helper()
	want := append(bytes.Clone(was), bytes.Repeat([]byte{0xEE}, 40)...)
	if got := b[:len(want)]; !bytes.Equal(got, want) {
		t.Errorf("DOC 3: %s changed what was handed in: % X", what, got)
	}
}

// spoil writes over a list, its spare room too.
func spoil(b []byte) {
	for i := range b[:cap(b)] {
		b[:cap(b)][i] = 0x55
	}
}

func TestWhatIsHandedInStays(t *testing.T) {
	frame := Frame([]byte("abc"))
	for _, was := range [][]byte{{}, {5}, {2, 'a', 'b', 'c'}, frame, frame[:5], append(frame[:4:4], 0, 0, 0, 0)} {
		b := withRoom(was)
		PutUint(b, 300)
		PutText(b, "xyz")
		Uint(b)
		Text(b, 9)
		Sum(b)
		Frame(b)
		Unframe(b)
		untouched(t, "a call", b, was)
	}
}

func TestAnswersAreNewMemory(t *testing.T) {
	frame := Frame([]byte("abc"))
	body := func(b []byte) []byte { l, _, _ := Unframe(b); return l }
	makers := map[string]func([]byte) []byte{
		"PutUint": func(b []byte) []byte { return PutUint(b, 300) },
		"PutText": func(b []byte) []byte { return PutText(b, "") },
		"Frame":   Frame,
		"Unframe": body,
	}
	for name, made := range makers {
		for _, was := range [][]byte{nil, {}, {5}, frame, Frame(nil)} {
			b := withRoom(was)
			one, two := made(b), made(b)
			want := bytes.Clone(two)
			spoil(one)
			untouched(t, name, b, was)
			spoil(b)
			if !bytes.Equal(two, want) {
				t.Errorf("DOC 3: %s: the answer % X became % X", name, want, two)
			}
		}
	}
	b := []byte{2, 'a', 'b'}
	s, _, _ := Text(b, 2)
	spoil(b)
	if s != "ab" {
		t.Errorf("DOC 3: Text: the answer became %q", s)
	}
}

func TestEmptyListsAreAlike(t *testing.T) {
	if !slices.Equal(PutUint(nil, 9), PutUint([]byte{}, 9)) || !slices.Equal(PutText(nil, "a"), PutText([]byte{}, "a")) {
		t.Error("DOC 2: a nil list and an empty one are the same")
	}
}
