package manifest

import (
	"bytes"
	"fmt"
	"math"
	"regexp"
	"strconv"
	"strings"
	"testing"

	"scree/api"
	"scree/codec"
)

// named holds what Number answers to be what the form says: it is asked by a pattern here, and read digit by digit.
func named(t *testing.T, name string) {
	t.Helper()
	var kind byte
	var number uint64
	is := regexp.MustCompile(`\A[lmt]-[0-9]{12}\z`).MatchString(name)
	if is {
		kind = name[0]
		for _, c := range []byte(name[2:]) {
			number = number*10 + uint64(c-'0')
		}
	}
	if k, n, ok := Number(name); k != kind || n != number || ok != is {
		t.Errorf("P14.1: Number(%q): %d, %d, %v; want %d, %d, %v", name, k, n, ok, kind, number, is)
	}
	if is && Name(kind, number) != name {
		t.Errorf("P14.1: Name(%d, %d): %q, want %q", kind, number, Name(kind, number), name)
	}
}

func TestNamesOfTheExample(t *testing.T) {
	for _, c := range []struct {
		kind   byte
		number uint64
		want   string
	}{{'t', 7, "t-000000000007"}, {'x', 7, ""}, {'m', 1e12, ""}, {'m', 1e12 - 1, "m-999999999999"}, {'l', 0, "l-000000000000"}} {
		if got := Name(c.kind, c.number); got != c.want {
			t.Errorf("P14.1: Name(%q, %d): %q, want %q", c.kind, c.number, got, c.want)
		}
	}
	if k, n, ok := Number("l-000000000000"); k != 'l' || n != 0 || !ok {
		t.Errorf("P14.1: %d, %d, %v", k, n, ok)
	}
	for _, name := range []string{"t-7", "t-00000000000a"} {
		if k, n, ok := Number(name); k != 0 || n != 0 || ok {
			t.Errorf("P14.1: Number(%q): %d, %d, %v", name, k, n, ok)
		}
	}
}

func TestNameOfEveryKindAndSomeNumbers(t *testing.T) {
	numbers := []uint64{0, 1, 9, 10, 99, 123456789012, 1e11 - 1, 1e11, 1e12 - 2, 1e12 - 1, 1e12, 1e12 + 1, 1e13, 1 << 40, math.MaxInt64, 1 << 63, math.MaxUint64}
	for k := range 256 {
		for _, n := range numbers {
			kind, want := byte(k), ""
			if (kind == 'l' || kind == 'm' || kind == 't') && n < 1e12 {
				want = fmt.Sprintf("%c-%012d", kind, n)
			}
			got := Name(kind, n)
			if got != want {
				t.Fatalf("P14.1: Name(%d, %d): %q, want %q", kind, n, got, want)
			}
			named(t, got)
		}
	}
}

func TestNumberOfTextsThatAreNoNames(t *testing.T) {
	for _, name := range []string{
		"", "t", "t-", "-", "000000000007", "t-0000000000007", "t-00000000007", "t000000000007", "t--00000000007",
		"t-+00000000007", "t- 00000000007", "t-00000000007 ", " t-000000000007", "t-0x0000000007", "t-0b0000000001", "t-0_0000000007", "t-1e0000000007",
		"T-000000000007", "L-000000000007", "M-000000000007", "t_000000000007", "current", "new", "t-000000000007\n", "t-000000000007\x00",
		"t-00000000000\xff", "t-٠٠٠٠٠٠", "ŧ-00000000007", "t-000000000007t-000000000007", strings.Repeat("9", 14), strings.Repeat("t", 14), strings.Repeat("0", 70000), "t-" + strings.Repeat("0", 70000) + "7",
	} {
		named(t, name)
	}
	for _, name := range []string{"l-000000000000", "m-999999999999", "t-120000000021"} {
		named(t, name)
		for i := range len(name) {
			for c := range 256 { // each byte as each other one
				named(t, name[:i]+string([]byte{byte(c)})+name[i+1:])
			}
			named(t, name[:i])
			named(t, name[:i]+name[i+1:])
			named(t, name[:i]+"0"+name[i:])
		}
	}
}

func TestCurrentOfTheExample(t *testing.T) {
	c := Current("m-000000000003")
	if s := fmt.Sprintf("% X", c); s != "0E 6D 2D 30 30 30 30 30 30 30 30 30 30 30 33 F5 A2 FF F4" {
		t.Errorf("P14.2: %s", s)
	}
	points(t, "the example", c, "m-000000000003")
	points(t, "a byte more", append(bytes.Clone(c), 0), "")
	points(t, "a log's name", Current("l-000000000003"), "")
}

// points holds Points to answer a name; none: to answer the error.
func points(t *testing.T, what string, b []byte, want string) {
	t.Helper()
	var err api.Errno
	if want == "" {
		err = api.ErrManifestForm
	}
	if name, e := Points(b); name != want || e != err {
		t.Errorf("P14.2: %s: %q, %d; want %q, %d", what, name, e, want, err)
	}
}

func TestCurrentOfWhateverName(t *testing.T) {
	for _, name := range []string{"", "x", "m-000000000000", "m-7", "\x00\xff", strings.Repeat("m", 127), strings.Repeat("m", 128), strings.Repeat("x", api.MaxRecord), strings.Repeat("x", api.MaxRecord+1)} {
		if got := Current(name); !bytes.Equal(got, codec.Frame([]byte(name))) {
			t.Errorf("P14.2: Current of %d bytes isn't their frame", len(name))
		}
		if len(name) != 14 {
			points(t, strconv.Itoa(len(name))+" bytes", Current(name), "")
		}
	}
}

func TestPointsOfNames(t *testing.T) {
	for k := range 256 {
		for _, digits := range []string{"000000000000", "000000000003", "999999999999", "00000000000x", "3", "0000000000003"} {
			name := string([]byte{byte(k)}) + "-" + digits
			want := ""
			if k == 'm' && len(digits) == 12 && digits[11] != 'x' {
				want = name
			}
			points(t, name, Current(name), want)
		}
	}
}

func TestPointsOfOtherBytes(t *testing.T) {
	c := Current("m-000000000042")
	points(t, "no bytes", nil, "")
	points(t, "the name alone", []byte("m-000000000042"), "")
	points(t, "two frames", slicesOf(c, c), "")
	points(t, "a byte ahead", slicesOf([]byte{0}, c), "")
	for i := range c {
		points(t, "cut at "+strconv.Itoa(i), c[:i], "")
		for x := 1; x < 256; x++ {
			b := bytes.Clone(c)
			b[i] ^= byte(x)
			points(t, fmt.Sprintf("byte %d turned by %d", i, x), b, "")
		}
	}
	// A length that takes one byte too many is another form of the same number.
	points(t, "a long form", slicesOf([]byte{c[0] | 0x80, 0}, c[1:]), "")
}

func TestPointsKeepsNothing(t *testing.T) {
	c := Current("m-000000000042")
	room := slicesOf(c, []byte{1, 2, 3})
	before := bytes.Clone(room)
	name, err := Points(room[:len(c)])
	if !bytes.Equal(room, before) {
		t.Error("P14.2: Points has changed what it was handed")
	}
	clear(room)
	if name != "m-000000000042" || err != api.OK {
		t.Errorf("P14.2: %q, %d", name, err)
	}
	one, two := Current("m-000000000042"), Current("m-000000000042")
	clear(one[:cap(one)])
	if !bytes.Equal(two, c) {
		t.Error("P14.2: two answers of Current share memory")
	}
}

func slicesOf(l ...[]byte) []byte { return bytes.Join(l, nil) }
