package pace

import "scree/pile"

// Bucket: tokens, and a line of those who wait for them.
type Bucket struct {
	waiting             // its Leave is hidden by the bucket's own, which tells nothing
	rate, burst, tokens number
}

// waiting: who waits, first come, first served. It stands between a bucket and the line, since a bucket has a method of the name that the line's field would have.
type waiting struct{ *pile.Line }

// NewBucket makes a full one.
func NewBucket(rate, burst int) *Bucket {
	return &Bucket{
		waiting: waiting{pile.NewLine()},
		rate:    counted(rate),
		burst:   counted(burst),
		tokens:  counted(burst),
	}
}

// Tick puts the rate in.
func (b *Bucket) Tick() { b.tokens = min(b.tokens.plus(b.rate), b.burst) }

// Tokens tells how many there are.
func (b *Bucket) Tokens() int { return int(b.tokens) }

// May tells whether somebody may take tokens now; who may not stands in the line.
func (b *Bucket) May(who int) bool {
	if b.tokens > 0 && b.lets(who) {
		return true
	}
	b.Join(who)
	return false
}

// Take takes tokens, and lets who takes them leave the line.
func (b *Bucket) Take(who, n int) {
	b.tokens = b.tokens.plus(-counted(n))
	b.Leave(who)
}

// Leave lets somebody leave the line.
func (b *Bucket) Leave(who int) { b.waiting.Leave(who) }

// Line tells who waits, the first first.
func (b *Bucket) Line() []int { return b.All() }

// lets tells whether nobody else is ahead.
func (w waiting) lets(who int) bool {
	first, ok := w.First()
	return !ok || first == who
}
