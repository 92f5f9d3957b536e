package script

import (
	"fmt"
	"strconv"
	"strings"
	"testing"

	"scree/api"
)

func TestLines(t *testing.T) {
	for _, text := range []string{"", "\n", "\n\n\n", " \t ", "#", "# do x\n\t# \"\n", "#\"", " # \xff\n", "#\r"} {
		reads(t, "P20.1, nothing is left", text)
	}
	reads(t, "P20.1", "tick\ntick", tick, tick)
	reads(t, "P20.1", "\n\n\ttick \t# tick\n#tick\n tick#\n", tick, tick)
	reads(t, "P20.1, words end at blanks, tabs, comments, quotes", "do\t1\n  do 1\t\ndo 1#2\nget 1\"a\"snap 2", does(1), does(1), does(1), submits(1, api.Op{Kind: api.OpGet, Key: "a", Snap: 2}))
	for text, want := range map[string]string{
		"x": "1 0 200", " x": "1 1 200", "\tx": "1 1 200", "\nx": "2 0 200", "\n\n \t x": "3 3 200", "tick\nx": "2 0 200", "tick # \xc3\xa9\ntick x": "2 5 200",
		"tick\r\n": "1 0 200", "tick \r": "1 5 200", "\vtick": "1 0 200", "\u00a0tick": "1 0 200", "tick\u2028tick": "1 0 200", "tick\x00": "1 0 200", "tick \x00": "1 5 200",
		"do # 1": "1 6 204", "do\t": "1 3 204", "do\n1": "1 2 204", "\ndo \t#\u00e9": "2 7 204", "do": "1 2 204", "\xff": "1 0 200", "do \xff": "1 3 201", "do 1\xff": "1 3 201",
		"do 1\u00e9 x": "1 3 201", "do 1 \u00e9 x": "1 5 200", "x\ny": "1 0 200", "do 1 2 3": "1 5 200", "do x y": "1 3 201",
	} {
		refuses(t, "P20.1", text, want)
	}
}

func TestQuotedTexts(t *testing.T) {
	for text, want := range map[string]string{
		`""`: "", `"a"`: "a", `"a b"`: "a b", `" "`: " ", `"#"`: "#", `"a#b" # c`: "a#b", `"\""`: `"`, `"\\"`: `\`, `"\\\""`: `\"`, `"\\x41"`: `\x41`, `"\x41"`: "A",
		`"\x00\xff\x0a"`: "\x00\xff\n", `"\x410"`: "A0", `"\x22\x5c"`: `"\`, `"\xc3\xa9"`: "\u00e9", `"'~!"`: "'~!", `"\"\""`: `""`, `"\\"# "`: `\`, `"x"`: "x", `"del"`: "del",
	} {
		reads(t, "P20.2, "+text, "write 0 del "+text, submits(0, api.Op{Kind: api.OpWrite, Writes: []api.Write{del(want)}}))
	}
	for _, text := range []string{
		`"`, `"a`, `"\"`, `"\`, `"\x`, `"\x4`, `"\x4"`, `"\x"`, `"\x41`, `"\q"`, `"\X41"`, `"\xA0"`, `"\x4G"`, `"\xg4"`, `"\n"`, `"\'"`, `"\0"`, `"\ "`, "\"\n\"", "\"\t\"", "\"\x7f\"", "\"\x1f\"", "\"\x80\"", "\"\u00e9\"", "\"\\\u00e9\"", "\"\\x\u00e91\"", "\"\\x1\u00e9\"", "\"\ufffd\"",
	} {
		refuses(t, "P20.2, "+text, "write 0 del "+text, "1 12 200")
		refuses(t, "P20.2, "+text+" for a number", "do "+text, "1 3 200")
		refuses(t, "P20.2, "+text+" for a word", text, "1 0 200")
		refuses(t, "P20.2, "+text+" for nothing", "tick "+text, "1 5 200")
		refuses(t, "P20.2, "+text+" behind another fault", "do x "+text, "1 3 201")
		refusesConfig(t, "P20.2, "+text+" for a number", "clients "+text, "1 8 200")
	}
}

func TestEveryByteInAQuotedText(t *testing.T) {
	for b := range 256 {
		got, _ := Parse("get 0 \"" + string([]byte{byte(b)}) + "\"")
		mayStand := b >= 0x20 && b <= 0x7e && b != '"' && b != '\\'
		if mayStand != (len(got) == 1) || mayStand && got[0].Op.Key != string([]byte{byte(b)}) {
			t.Errorf("P20.2: byte %#x: %v", b, got)
		}
		reads(t, "P20.2", fmt.Sprintf("get 0 \"\\x%02x\"", b), submits(0, api.Op{Kind: api.OpGet, Key: string([]byte{byte(b)})}))
		escape := "get 0 \"\\" + string([]byte{byte(b)}) + "\""
		if got, err := Parse(escape); (err == nil) != (b == '\\' || b == '"') {
			t.Errorf("P20.2: %q: %v, %v", escape, got, err)
		}
		for _, digits := range []string{string([]byte{byte(b), '0'}), string([]byte{'0', byte(b)})} {
			if got, err := Parse("get 0 \"\\x" + digits + "\""); (err == nil) != strings.Contains("0123456789abcdef", string([]byte{byte(b)})) {
				t.Errorf("P20.2: digits %q: %v, %v", digits, got, err)
			}
		}
	}
}

func TestNumbers(t *testing.T) {
	for _, n := range []int{0, 1, -1, 9, 10, -10, 1 << 40, -1 << 40, 1<<40 - 1} {
		reads(t, "P20.3", "do "+strconv.Itoa(n), does(n))
	}
	for _, text := range []string{"00", "01", "-0", "-01", "+1", "--1", "-", "1-", "1x", "x1", "0x1", "1e3", "1_0", "1.0", "1,", "\u0661", "1099511627777", "-1099511627777", "9223372036854775808", "18446744073709551617", strings.Repeat("9", 400), "do", "'1'", `"1"`, `""`} {
		refuses(t, "P20.3, "+text, "do "+text, "1 3 201")
		refuses(t, "P20.3, "+text, "\ttick\n\t do  "+text, "2 6 201")
	}
	refuses(t, "P20.3, a number where a text is wanted", "get 0 1", "1 6 200")
	refuses(t, "P20.3, a number where a word is wanted", "1", "1 0 200")
}
