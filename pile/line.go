package pile

import "slices"

// Line: who came first is first.
type Line struct {
	standing []int // the first one first, nobody twice
}

// NewLine makes an empty line.
func NewLine() *Line { return &Line{} }

// Join puts somebody at the end, who isn't in it.
func (l *Line) Join(who int) bool {
	if slices.Contains(l.standing, who) {
		return false
	}
	l.standing = append(l.standing, who)
	return true
}

// First tells who is the first.
func (l *Line) First() (int, bool) {
	if len(l.standing) == 0 {
		return 0, false
	}
	return l.standing[0], true
}

// Leave lets somebody go, wherever they stand.
func (l *Line) Leave(who int) bool {
	at := slices.Index(l.standing, who)
	if at < 0 {
		return false
	}
	l.standing = slices.Delete(l.standing, at, at+1)
	return true
}

// All tells who stands in it, the first first.
func (l *Line) All() []int {
	// A copy: what is done with the answer mustn't touch the line.
	return append([]int(nil), l.standing...)
}
