package bloom

import (
	"bytes"
	"fmt"
	"hash/crc32"
	"math"
	"math/big"
	"math/rand"
	"slices"
	"strconv"
	"strings"
	"testing"
)

// modelProbes reckons P8.1 anew, with numbers of any size, and a sum from elsewhere.
func modelProbes(key string, k int, m int64) []int64 {
	h := int64(crc32.Checksum([]byte(key), crc32.MakeTable(crc32.Castagnoli)))
	d := h/(1<<17) + h%(1<<17)*(1<<15)
	var l []int64
	for i := range k {
		p := new(big.Int).Mul(big.NewInt(int64(i)), big.NewInt(d))
		p.Add(p, big.NewInt(h))
		p.Mod(p, big.NewInt(1<<32))
		p.Mod(p, big.NewInt(m))
		l = append(l, p.Int64())
	}
	return l
}

// modelMake reckons P8.2 anew, counting its places up one byte at a time.
func modelMake(keys []string, bits int) []byte {
	if bits < 1 || len(keys) == 0 {
		return nil
	}
	bits = min(bits, 16)
	m := 64
	for m < len(keys)*bits && m < 1048576 {
		m += 8
	}
	k := max(int(math.Floor(float64(bits)*0.69+1e-9)), 1)
	made := make([]byte, m/8+1)
	for _, key := range keys {
		for _, p := range modelProbes(key, k, int64(m)) {
			made[p/8] |= []byte{1, 2, 4, 8, 16, 32, 64, 128}[p%8]
		}
	}
	made[m/8] = byte(k)
	return made
}

func modelMay(filter []byte, key string) bool {
	n := len(filter)
	if n < 9 || filter[n-1] == 0 || filter[n-1] > 11 {
		return true
	}
	for _, p := range modelProbes(key, int(filter[n-1]), 8*int64(n-1)) {
		if filter[p/8]>>(p%8)%2 == 0 {
			return false
		}
	}
	return true
}

// numbered: n keys, all of them different.
func numbered(n int) []string {
	l := make([]string, n)
	for i := range l {
		l[i] = "k" + strconv.Itoa(i)
	}
	return l
}

// someKeys: keys of any bytes and lengths, the empty one and ones beyond what a store takes among them.
func someKeys() []string {
	l := []string{"", "a", "b", "ab", "\x00", "\x00\x00", "\xFF", "\x80\xFE", "key", strings.Repeat("z", 64), strings.Repeat("q", 65), strings.Repeat("\x00", 5000)}
	for i := range 256 {
		l = append(l, string([]byte{byte(i), byte(i * i)}))
	}
	return l
}

// laid: n bytes of one kind, and behind them the number of the probes.
func laid(n int, c, k byte) []byte {
	return append(bytes.Repeat([]byte{c}, n), k)
}

func hex(b []byte) string { return fmt.Sprintf("% X", b) }

func TestMakeExamples(t *testing.T) {
	rows := []struct {
		keys []string
		bits int
		want string
	}{
		{[]string{"a"}, 10, "01 00 01 01 00 01 01 01 06"},
		{[]string{"a", "b"}, 10, "11 00 01 01 00 01 01 01 06"},
		{[]string{"a", "a"}, 10, "01 00 01 01 00 01 01 01 06"},
		{[]string{""}, 10, "01 00 00 00 00 00 00 00 06"}, // its sum is 0, and so are all its probes
		{nil, 10, ""},
		{[]string{}, 10, ""},
		{[]string{"a"}, 0, ""},
		{[]string{"a"}, -1, ""},
		{[]string{"a"}, math.MinInt, ""},
		{nil, 0, ""},
		{nil, math.MaxInt, ""},
	}
	for _, r := range rows {
		if got := hex(Make(r.keys, r.bits)); got != r.want {
			t.Errorf("P8.2: Make(%q, %d): %s, not %s", r.keys, r.bits, got, r.want)
		}
	}
}

func TestProbesOfBits(t *testing.T) {
	want := []byte{0, 1, 1, 2, 2, 3, 4, 4, 5, 6, 6, 7, 8, 8, 9, 10, 11}
	for bits := 1; bits <= 16; bits++ {
		b := Make([]string{"a"}, bits)
		if got := b[len(b)-1]; got != want[bits] {
			t.Errorf("P8.2: with %d bits %d probes, not %d", bits, got, want[bits])
		}
	}
}

func TestBitsAboveSixteen(t *testing.T) {
	keys := numbered(100)
	want := Make(keys, 16)
	if len(want) != 201 {
		t.Errorf("P8.2: 100 keys with 16 bits: %d bytes, not 201", len(want))
	}
	for _, bits := range []int{17, 99, 1 << 20, 1 << 58, math.MaxInt - 1, math.MaxInt} {
		if !bytes.Equal(Make(keys, bits), want) {
			t.Errorf("P8.2: %d bits don't count as 16", bits)
		}
	}
}

func TestPlacesOfKeys(t *testing.T) {
	rows := []struct{ n, bits, places int }{
		{1, 1, 64}, {1, 16, 64}, {4, 16, 64}, {5, 16, 80},
		{6, 10, 64}, {7, 10, 72}, {8, 10, 80}, {9, 10, 96},
		{63, 1, 64}, {64, 1, 64}, {65, 1, 72}, {72, 1, 72}, {73, 1, 80},
		{300, 1, 304}, {300, 7, 2104}, {300, 10, 3000},
		{65535, 16, 1048560}, {65536, 16, 1048576}, {65537, 16, 1048576}, {65537, 99, 1048576},
		{69905, 15, 1048576}, {69904, 15, 1048560}, {69906, 15, 1048576}, {200000, 16, 1048576},
	}
	all := numbered(200000)
	for _, r := range rows {
		if got := len(Make(all[:r.n], r.bits)); got != r.places/8+1 {
			t.Errorf("P8.2: %d keys with %d bits: %d bytes, not %d places and one byte", r.n, r.bits, got, r.places)
		}
	}
}

func TestTwiceCountsTwice(t *testing.T) {
	keys := slices.Repeat([]string{"a"}, 20)
	if got := len(Make(keys, 10)); got != 26 {
		t.Errorf("P8.2: one key twenty times with 10 bits: %d bytes, not 26", got)
	}
}

func TestMakeAgainstModel(t *testing.T) {
	r := rand.New(rand.NewSource(8))
	keys := someKeys()
	for range 300 {
		l := make([]string, r.Intn(1+r.Intn(120)))
		for i := range l {
			l[i] = keys[r.Intn(len(keys))]
		}
		bits := r.Intn(22) - 2
		if got, want := Make(l, bits), modelMake(l, bits); !bytes.Equal(got, want) {
			t.Fatalf("P8.1, P8.2: Make(%q, %d): %s, not %s", l, bits, hex(got), hex(want))
		}
	}
}

func TestMakeOfMostPlaces(t *testing.T) {
	keys := numbered(70000)
	if !bytes.Equal(Make(keys, 16), modelMake(keys, 16)) {
		t.Error("P8.1, P8.2: the filter of 70000 keys with 16 bits is another one")
	}
}

func TestMayExamples(t *testing.T) {
	rows := []struct {
		filter []byte
		want   bool
	}{
		{nil, true},
		{[]byte{}, true},
		{[]byte{1}, true},
		{laid(7, 0xFF, 0xFF), true},
		{laid(6, 0, 1), true},
		{laid(7, 0, 1), true}, // eight bytes: too few by one
		{laid(8, 0, 0), true},
		{laid(8, 0, 1), false},
		{laid(8, 0, 11), false},
		{laid(8, 0, 12), true},
		{laid(8, 0, 255), true},
		{laid(100, 0, 0), true},
		{laid(100, 0, 1), false},
		{laid(100, 0, 11), false},
		{laid(100, 0, 12), true},
		{laid(8, 0xFF, 1), true},
		{laid(8, 0xFF, 11), true},
		{laid(9, 0xFF, 11), true},
		{Make([]string{"a"}, 10), true},
	}
	for _, r := range rows {
		if got := May(r.filter, "a"); got != r.want {
			t.Errorf("P8.3: May(%s, a): %v, not %v", hex(r.filter), got, r.want)
		}
	}
	for _, key := range someKeys() {
		if May(laid(8, 0, 1), key) {
			t.Errorf("P8.3: eight bytes 00 and 01 say true of %q", key)
		}
	}
}

func TestMayWantsEveryProbe(t *testing.T) {
	for _, key := range someKeys() {
		for k := 1; k <= 11; k++ {
			for _, n := range []int{8, 9, 13, 200} {
				full := laid(n, 0xFF, byte(k))
				for _, p := range modelProbes(key, k, 8*int64(n)) {
					without := bytes.Clone(full)
					without[p/8] &^= 1 << (p % 8)
					if May(without, key) {
						t.Fatalf("P8.1, P8.3: %d probes over %d places: %q may be there without place %d", k, 8*n, key, p)
					}
				}
			}
		}
	}
}

func TestMayWantsNothingElse(t *testing.T) {
	for _, key := range someKeys() {
		for k := 1; k <= 11; k++ {
			for _, n := range []int{8, 9, 13, 200} {
				bare := laid(n, 0, byte(k))
				for _, p := range modelProbes(key, k, 8*int64(n)) {
					bare[p/8] |= 1 << (p % 8)
				}
				if !May(bare, key) {
					t.Fatalf("P8.1, P8.3: %d probes over %d places: %q isn't there, though its probes are 1", k, 8*n, key)
				}
			}
		}
	}
}

func TestMayAgainstModel(t *testing.T) {
	r := rand.New(rand.NewSource(83))
	keys := someKeys()
	for range 5000 {
		b := make([]byte, r.Intn(30))
		r.Read(b)
		if len(b) > 0 && r.Intn(8) > 0 {
			b[len(b)-1] = byte(r.Intn(14))
		}
		key := keys[r.Intn(len(keys))]
		if got, want := May(b, key), modelMay(b, key); got != want {
			t.Fatalf("P8.3: May(%s, %q): %v, not %v", hex(b), key, got, want)
		}
	}
}

// TestMayOfManyPlaces: with 2^32 places and more, which no Make makes, a count of them in 32 bits would be too small.
func TestMayOfManyPlaces(t *testing.T) {
	for _, n := range []int{1 << 29, 1<<29 + 8} {
		b := make([]byte, n+1)
		b[n] = 3
		for _, p := range modelProbes("key", 3, 8*int64(n)) {
			b[p/8] |= 1 << (p % 8)
		}
		if !May(b, "key") || May(b, "other") {
			t.Errorf("P8.3: over %d places: %v of key, %v of other", 8*n, May(b, "key"), May(b, "other"))
		}
	}
}

func TestNoFalseNegative(t *testing.T) {
	lists := [][]string{{"a"}, {"", ""}, someKeys(), numbered(1000), numbered(70000)}
	for _, l := range lists {
		for _, bits := range []int{math.MinInt, -1, 0, 1, 2, 3, 7, 8, 10, 15, 16, 17, math.MaxInt} {
			b := Make(l, bits)
			for _, key := range l {
				if !May(b, key) {
					t.Fatalf("P8.4: of %d keys with %d bits: %q isn't there", len(l), bits, key)
				}
			}
		}
	}
}

func TestFewOthers(t *testing.T) {
	b, others := Make(numbered(1000), 10), 0
	for i := range 1000 {
		if May(b, "other"+strconv.Itoa(i)) {
			others++
		}
	}
	if others > 50 {
		t.Errorf("P8.1, P8.2: %d of 1000 other keys may be there", others)
	}
}

func TestOrderDoesNotShow(t *testing.T) {
	r := rand.New(rand.NewSource(85))
	for range 50 {
		l := numbered(1 + r.Intn(200))
		bits := 1 + r.Intn(16)
		want := Make(l, bits)
		r.Shuffle(len(l), func(i, j int) { l[i], l[j] = l[j], l[i] })
		if !bytes.Equal(Make(l, bits), want) {
			t.Fatalf("P8.5: the order of %d keys shows with %d bits", len(l), bits)
		}
	}
}

func TestMoreOnesNeverSayNo(t *testing.T) {
	r := rand.New(rand.NewSource(86))
	keys := someKeys()
	for range 200 {
		b := Make(keys[:1+r.Intn(40)], 1+r.Intn(16))
		if r.Intn(4) == 0 {
			b = laid(9+r.Intn(20), byte(r.Intn(256)), byte(r.Intn(14)))
		}
		more := bytes.Clone(b)
		for range 1 + r.Intn(200) {
			p := r.Intn(8 * (len(b) - 1))
			more[p/8] |= 1 << (p % 8)
		}
		for _, key := range keys {
			if May(b, key) && !May(more, key) {
				t.Fatalf("P8.5: %q is there no more in %s, with more ones than %s", key, hex(more), hex(b))
			}
		}
	}
}

func TestNothingIsChangedOrKept(t *testing.T) {
	room := append(numbered(20), "spare")
	keys := room[:20]
	first := Make(keys, 10)
	kept := bytes.Clone(first)
	if !slices.Equal(room, append(numbered(20), "spare")) {
		t.Error("P8.2: Make changes the keys")
	}
	second := Make(keys, 10)
	for i := range second[:cap(second)] {
		second[:cap(second)][i] ^= 0xFF
	}
	keys[0] = "another"
	if !bytes.Equal(first, kept) || !bytes.Equal(Make(numbered(20), 10), kept) {
		t.Error("P8.2: what is done with one answer, or with the keys, touches another answer")
	}
	May(first, "k1")
	May(first, "none")
	if !bytes.Equal(first, kept) {
		t.Error("P8.3: May changes the filter")
	}
}
