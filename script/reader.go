package script

import "scree/api"

// mostNumber: no number of a text is above it, and none below its negative.
const mostNumber = 1 << 40

// reader goes through pieces. Of what is wanted behind a fault it tells zeros, and the first fault stays.
type reader struct {
	left []piece // never none: the last one is the end
	err  error
}

// more tells whether there is something left, and no fault yet.
func (r *reader) more() bool { return r.err == nil && r.left[0].kind != ending }

// next takes the next piece; nothing is behind the end.
func (r *reader) next() piece {
	p := r.left[0]
	if p.kind != ending {
		r.left = r.left[1:]
	}
	return p
}

// fail notes that a piece isn't what is wanted.
func (r *reader) fail(p piece, err api.Errno) {
	if r.err != nil {
		return
	}
	switch p.kind {
	case ending:
		err = api.ErrScriptEnd
	case broken:
		err = api.ErrScriptWord
	}
	r.err = p.misread(err)
}

// word wants that word.
func (r *reader) word(want string) {
	if p := r.next(); p.word() != want {
		r.fail(p, api.ErrScriptWord)
	}
}

// text wants a quoted text.
func (r *reader) text() string {
	p := r.next()
	if p.kind != quoted {
		r.fail(p, api.ErrScriptWord)
		return ""
	}
	return p.text
}

// number wants a number.
func (r *reader) number() int { return r.numberOf(-mostNumber, mostNumber) }

// numberOf wants a number between two others, or one of them.
func (r *reader) numberOf(least, most int) int {
	p := r.next()
	n, ok := p.number()
	if !ok || n < least || n > most {
		r.fail(p, api.ErrScriptNumber)
		return 0
	}
	return n
}

// end wants nothing any more, and tells the first fault.
func (r *reader) end() error {
	if r.more() {
		r.fail(r.next(), api.ErrScriptWord)
	}
	return r.err
}
