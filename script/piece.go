package script

import (
	"strconv"
	"strings"

	"scree/api"
)

// kind: of what stands in a line.
type kind int

const (
	ending kind = iota // nothing more does
	word               // everything but a quoted text
	quoted             // a quoted text
	broken             // one that can't stand anywhere
)

// piece: what stands at a place of a text.
type piece struct {
	kind     kind
	text     string // a word, or what a quoted text says
	line, at int    // from 1, from 0
}

// split tells the pieces of a text, line by line.
func split(text string) [][]piece {
	var l [][]piece
	for i, line := range strings.Split(text, "\n") {
		l = append(l, pieces(i+1, line))
	}
	return l
}

// textEnd tells the end of a text, which is that of its last line.
func textEnd(lines [][]piece) piece {
	last := lines[len(lines)-1]
	return last[len(last)-1]
}

// pieces splits a line of that number. The last piece is its end.
func pieces(number int, line string) []piece {
	var l []piece
	at := passed(line)
	for at < len(line) {
		p, size := firstPiece(line[at:])
		p.line, p.at = number, at
		l = append(l, p)
		at += size
		at += passed(line[at:])
	}
	return append(l, piece{line: number, at: at})
}

// passed tells how many bytes are passed over at the beginning of what is left of a line.
func passed(left string) int {
	for i, r := range left {
		switch r {
		case ' ', '\t':
		case '#':
			return len(left)
		default:
			return i
		}
	}
	return len(left)
}

// firstPiece reads what the rest of a line begins with, and tells how many bytes it takes.
func firstPiece(left string) (piece, int) {
	if left[0] != '"' {
		size := wordSize(left)
		return piece{kind: word, text: left[:size]}, size
	}
	if text, size, ok := unquote(left); ok {
		return piece{kind: quoted, text: text}, size
	}
	// It is a fault wherever it stands, so that nothing behind it is looked at.
	return piece{kind: broken}, len(left)
}

// wordSize tells how many bytes the word takes that the rest of a line begins with.
func wordSize(left string) int {
	for i, r := range left {
		switch r {
		case ' ', '\t', '#', '"':
			return i
		}
	}
	return len(left)
}

// word tells the word that a piece is; a quoted text, and the end, are the empty one, which stands nowhere.
func (p piece) word() string {
	if p.kind != word {
		return ""
	}
	return p.text
}

// number tells the number that a piece is, however great.
func (p piece) number() (int, bool) {
	n, err := strconv.Atoi(p.word())
	// Each number has one form.
	if err != nil || strconv.Itoa(n) != p.word() {
		return 0, false
	}
	return n, true
}

// misread tells a fault at a piece.
func (p piece) misread(err api.Errno) *Misread {
	return &Misread{Line: p.line, At: p.at, Err: err}
}
