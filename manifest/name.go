package manifest

import (
	"strconv"
	"strings"

	"scree/api"
	"scree/codec"
)

const (
	kindLog      byte = 'l'
	kindManifest byte = 'm'
	kindTable    byte = 't'
)

const (
	nameDigits = 12
	mostNumber = 1_000_000_000_000 - 1 // the greatest of so many digits
	nameHead   = 2                     // the kind and a dash
)

// Name tells a file's name by its kind ('l', 'm' or 't') and number.
func Name(kind byte, number uint64) string {
	if !isKind(kind) || number > mostNumber {
		return ""
	}
	digits := strconv.FormatUint(number, 10)
	return string([]byte{kind, '-'}) + strings.Repeat("0", nameDigits-len(digits)) + digits
}

// Number tells a name's kind and number.
func Number(name string) (byte, uint64, bool) {
	if len(name) != nameHead+nameDigits {
		return 0, 0, false
	}
	number, err := strconv.ParseUint(name[nameHead:], 10, 64)
	// Each name has one form: what Name doesn't answer again is none.
	if err != nil || Name(name[0], number) != name {
		return 0, 0, false
	}
	return name[0], number, true
}

// Current tells the bytes of the file current that names a manifest.
func Current(name string) []byte { return codec.Frame([]byte(name)) }

// Points tells the name in the bytes of the file current.
func Points(b []byte) (string, api.Errno) {
	body, taken, err := codec.Unframe(b)
	if err != api.OK || taken != len(b) {
		return "", api.ErrManifestForm
	}
	name := string(body)
	if kind, _, ok := Number(name); !ok || kind != kindManifest {
		return "", api.ErrManifestForm
	}
	return name, api.OK
}

func isKind(kind byte) bool {
	return kind == kindLog || kind == kindManifest || kind == kindTable
}
