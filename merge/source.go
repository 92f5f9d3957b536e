package merge

import (
	"cmp"

	"scree/api"
	"scree/ikey"
)

// source: how a source is read, whatever it is made of.
type source interface {
	entry() api.Entry // the one that is next; there is one only if goOn said so last
	goOn() bool       // to the next entry, if there is one
}

// pulled: a source that gives an entry whenever it is asked for one.
type pulled struct {
	pull func() (api.Entry, bool)
	head api.Entry
}

func (p *pulled) entry() api.Entry { return p.head }

func (p *pulled) goOn() bool {
	head, ok := p.pull()
	p.head = head
	return ok
}

// standing: a source, and its place among all of them.
type standing struct {
	source
	place int
}

// ahead is the order of the heap: of entries with the same key and number the earlier source's is first.
func ahead(a, b standing) bool {
	order := ikey.Compare(a.entry(), b.entry())
	return cmp.Or(order, cmp.Compare(a.place, b.place)) < 0
}
