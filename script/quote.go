package script

import "strings"

// Quoted texts hold these as they are; all others as escapes.
const (
	leastPlain = ' '
	mostPlain  = '~'
)

const (
	digits    = "0123456789abcdef"
	digitBits = 4
)

// state: how far a quoted text was read.
type state int

const (
	plain     state = iota // what comes stands for itself, or begins an escape, or ends the text
	escaped                // behind a backslash
	wantsHigh              // behind \x
	wantsLow               // behind \x and a digit
	closed                 // behind its end
)

// reading: a quoted text, as far as it was read.
type reading struct {
	said  []byte
	state state
	high  int // the first digit of the escape under way
}

// unquote reads the quoted text that the rest of a line begins with: what it says, and how many bytes it takes.
func unquote(left string) (string, int, bool) {
	var q reading
	for i, r := range left[1:] {
		if r < leastPlain || r > mostPlain || !q.take(r) {
			return "", 0, false
		}
		if q.state == closed {
			return string(q.said), len(`""`) + i, true
		}
	}
	return "", 0, false
}

// take reads a rune; it tells whether that may stand there.
func (q *reading) take(r rune) bool {
	switch q.state {
	case plain:
		q.takePlain(r)
		return true
	case escaped:
		return q.takeEscaped(r)
	default:
		return q.takeDigit(r)
	}
}

func (q *reading) takePlain(r rune) {
	switch r {
	case '"':
		q.state = closed
	case '\\':
		q.state = escaped
	default:
		q.said = append(q.said, byte(r))
	}
}

func (q *reading) takeEscaped(r rune) bool {
	switch r {
	case '"', '\\':
		q.said = append(q.said, byte(r))
		q.state = plain
	case 'x':
		q.state = wantsHigh
	default:
		return false
	}
	return true
}

func (q *reading) takeDigit(r rune) bool {
	digit := strings.IndexRune(digits, r)
	if digit < 0 {
		return false
	}
	if q.state == wantsHigh {
		q.high, q.state = digit, wantsLow
		return true
	}
	q.said = append(q.said, byte(q.high<<digitBits|digit))
	q.state = plain
	return true
}

// quote tells the one form of a quoted text.
func quote(s string) string {
	b := []byte{'"'}
	for i := range len(s) {
		switch c := s[i]; {
		case c == '"' || c == '\\':
			b = append(b, '\\', c)
		case c < leastPlain || c > mostPlain:
			b = append(b, '\\', 'x', digits[c>>digitBits], digits[c&(1<<digitBits-1)])
		default:
			b = append(b, c)
		}
	}
	return string(append(b, '"'))
}
