package pace

import (
	"math"
	"math/rand"
	"slices"
	"testing"
)

// stands holds a bucket to have so many tokens, and these in its line.
func stands(t *testing.T, b *Bucket, tokens int, who ...int) {
	t.Helper()
	for range 2 { // asking changes nothing
		if got := b.Tokens(); got != tokens {
			t.Errorf("P15.6: %d tokens, want %d", got, tokens)
		}
		if got := b.Line(); !slices.Equal(got, who) {
			t.Errorf("P15.7: the line is %v, want %v", got, who)
		}
	}
}

// may holds what May answers of somebody.
func may(t *testing.T, b *Bucket, who int, want bool) {
	t.Helper()
	if got := b.May(who); got != want {
		t.Errorf("P15.7: May(%d): %v, want %v", who, got, want)
	}
}

func TestBucketExample(t *testing.T) {
	b := NewBucket(10, 25)
	stands(t, b, 25)
	may(t, b, 7, true)
	stands(t, b, 25)
	b.Take(7, 40)
	stands(t, b, -15)
	may(t, b, 8, false)
	may(t, b, 7, false)
	stands(t, b, -15, 8, 7)
	b.Tick()
	b.Tick()
	stands(t, b, 5, 8, 7)
	may(t, b, 7, false)
	may(t, b, 8, true)
	b.Take(8, 5)
	stands(t, b, 0, 7)
	b.Leave(7)
	stands(t, b, 0)
	may(t, b, 7, false)
	stands(t, b, 0, 7)
}

func TestTokensAtTheirEnds(t *testing.T) {
	b := NewBucket(math.MaxInt, math.MaxInt)
	stands(t, b, math.MaxInt)
	b.Tick()
	stands(t, b, math.MaxInt)
	b.Take(1, math.MaxInt)
	stands(t, b, 0)
	b.Take(1, math.MaxInt)
	stands(t, b, -math.MaxInt)
	b.Take(1, 1)
	stands(t, b, math.MinInt)
	b.Take(1, 1)
	b.Take(1, math.MaxInt)
	stands(t, b, math.MinInt)
	b.Tick()
	stands(t, b, -1)
	b.Tick()
	stands(t, b, math.MaxInt-1)
	b.Tick()
	stands(t, b, math.MaxInt)
}

func TestTicksFillUpToTheBurst(t *testing.T) {
	b := NewBucket(3, 7)
	b.Take(1, 8)
	for _, want := range []int{2, 5, 7, 7} {
		b.Tick()
		stands(t, b, want)
	}
	b = NewBucket(9, 7)
	b.Tick()
	stands(t, b, 7)
	b.Take(1, 7)
	b.Tick()
	stands(t, b, 7)
}

func TestNumbersOfABucketBelowNone(t *testing.T) {
	for _, x := range []int{0, -1, math.MinInt} {
		none := NewBucket(x, x)
		stands(t, none, 0)
		none.Tick()
		may(t, none, 1, false)
		none.Tick()
		stands(t, none, 0, 1)

		still := NewBucket(x, 5)
		still.Take(1, 2)
		still.Tick()
		stands(t, still, 3)

		empty := NewBucket(5, x)
		empty.Take(1, 7)
		empty.Tick()
		stands(t, empty, -2)
		empty.Tick()
		stands(t, empty, 0)

		b := NewBucket(1, 5)
		b.Take(1, x)
		stands(t, b, 5)
	}
}

// TestTakeAsksNothing: whoever takes, tokens or none, from wherever in the line or from outside.
func TestTakeAsksNothing(t *testing.T) {
	b := NewBucket(1, 0)
	for _, who := range []int{4, 2, 9} {
		may(t, b, who, false)
	}
	b.Take(2, 3)
	stands(t, b, -3, 4, 9)
	b.Take(2, 0)
	stands(t, b, -3, 4, 9)
	b.Take(9, -5)
	stands(t, b, -3, 4)
	b.Take(4, 1)
	stands(t, b, -4)
}

func TestLeave(t *testing.T) {
	b := NewBucket(1, 0)
	for _, who := range []int{1, 2, 3} {
		may(t, b, who, false)
	}
	b.Leave(5)
	stands(t, b, 0, 1, 2, 3)
	b.Leave(2)
	b.Leave(2)
	stands(t, b, 0, 1, 3)
	b.Leave(1)
	stands(t, b, 0, 3)
	may(t, b, 1, false)
	stands(t, b, 0, 3, 1)
}

// TestMayChangesNothingWhereItIsTrue, and who stands in the line keeps the place, however often asked.
func TestMayChangesNothingWhereItIsTrue(t *testing.T) {
	b := NewBucket(1, 1)
	for _, who := range []int{5, 6, 5} {
		may(t, b, who, true)
	}
	stands(t, b, 1)
	b.Take(5, 1)
	for range 3 {
		may(t, b, 6, false)
		may(t, b, 5, false)
		stands(t, b, 0, 6, 5)
	}
	b.Tick()
	for range 3 {
		may(t, b, 5, false)
		may(t, b, 6, true)
		stands(t, b, 1, 6, 5)
	}
	// Tokens don't let anybody pass the line from outside.
	may(t, b, 7, false)
	stands(t, b, 1, 6, 5, 7)
}

func TestWhoMayBeAnyNumber(t *testing.T) {
	who := []int{math.MaxInt, 0, -1, math.MinInt, 1}
	b := NewBucket(1, 1)
	b.Take(0, 1)
	for _, w := range who {
		may(t, b, w, false)
	}
	for i, w := range who {
		stands(t, b, 0, who[i:]...)
		b.Tick()
		may(t, b, w, true)
		b.Take(w, 1)
	}
	stands(t, b, 0)
}

func TestBucketsAreApart(t *testing.T) {
	a, b := NewBucket(1, 2), NewBucket(1, 2)
	a.Take(1, 2)
	may(t, a, 1, false)
	stands(t, b, 2)
	b.Take(3, 1)
	b.Tick()
	b.Leave(1)
	stands(t, a, 0, 1)
	stands(t, b, 2)
}

// TestAnsweredLinesAreApart: what is done with one answer, its spare room too, touches neither another one nor the bucket.
func TestAnsweredLinesAreApart(t *testing.T) {
	b := NewBucket(1, 0)
	for who := range 5 {
		may(t, b, who, false)
	}
	one, two := b.Line(), b.Line()
	clear(one[:cap(one)])
	_ = append(one[:1], 8, 8, 8)
	if !slices.Equal(two, []int{0, 1, 2, 3, 4}) {
		t.Errorf("an answer was touched: %v", two)
	}
	stands(t, b, 0, 0, 1, 2, 3, 4)
	b.Leave(0)
	may(t, b, 9, false)
	if !slices.Equal(two, []int{0, 1, 2, 3, 4}) {
		t.Errorf("an earlier answer was touched: %v", two)
	}
	stands(t, b, 0, 1, 2, 3, 4, 9)
}

// plain: a bucket as the chapter tells it, for numbers that don't reach the ends of the ints.
type plain struct {
	rate, burst, tokens int
	line                []int
}

func (p *plain) may(who int) bool {
	if p.tokens > 0 && (len(p.line) == 0 || p.line[0] == who) {
		return true
	}
	if !slices.Contains(p.line, who) {
		p.line = append(p.line, who)
	}
	return false
}

func (p *plain) leave(who int) {
	p.line = slices.DeleteFunc(p.line, func(w int) bool { return w == who })
}

func (p *plain) take(who, n int) {
	p.tokens -= max(n, 0)
	p.leave(who)
}

// TestBucketScripts holds buckets against plain ones, with takes that nobody asked for, too.
func TestBucketScripts(t *testing.T) {
	for seed := range int64(80) {
		r := rand.New(rand.NewSource(seed))
		rate, burst := r.Intn(6), r.Intn(20)
		b, p := NewBucket(rate, burst), &plain{rate: rate, burst: burst, tokens: burst}
		for range 400 {
			who, n := r.Intn(7)-2, r.Intn(16)-3
			switch r.Intn(6) {
			case 0, 1:
				b.Tick()
				p.tokens = min(p.tokens+rate, burst)
			case 2, 3:
				if got, want := b.May(who), p.may(who); got != want {
					t.Fatalf("P15.7: seed %d: May(%d): %v, want %v", seed, who, got, want)
				}
			case 4:
				b.Take(who, n)
				p.take(who, n)
			default:
				b.Leave(who)
				p.leave(who)
			}
			stands(t, b, p.tokens, p.line...)
		}
		if t.Failed() {
			t.Fatalf("seed %d", seed)
		}
	}
}

// TestPace: in no stretch of a script more is taken than P15.9 says; and what it says is reached by some, so that the test can tell a bucket that gives too much.
func TestPace(t *testing.T) {
	reached := false
	for seed := range int64(60) {
		r := rand.New(rand.NewSource(seed))
		rate, burst, most := r.Intn(5), r.Intn(12), r.Intn(9)
		b := NewBucket(rate, burst)
		var ticks, taken []int // step by step
		for range 250 {
			tick, take := 0, 0
			if r.Intn(3) == 0 {
				b.Tick()
				tick = 1
			} else if who := r.Intn(4); r.Intn(9) == 0 {
				b.Leave(who)
			} else if b.May(who) {
				take = most - r.Intn(most+1)*r.Intn(2)
				b.Take(who, take)
			}
			ticks, taken = append(ticks, tick), append(taken, take)
		}
		for from := range taken {
			n, all := 0, 0
			for to := from; to < len(taken); to++ {
				n, all = n+ticks[to], all+taken[to]
				if all > burst+n*rate+most {
					t.Fatalf("P15.9: seed %d: %d within %d ticks, of %d, %d, %d", seed, all, n, rate, burst, most)
				}
				reached = reached || burst > 0 && most > 0 && all >= burst+n*rate+most-1
			}
		}
	}
	if !reached {
		t.Errorf("no script came near to the bound")
	}
}

// TestTheFirstOfTheLineIsServed: those who wait are served in their order, whatever the order in which they ask, as soon as there are tokens.
func TestTheFirstOfTheLineIsServed(t *testing.T) {
	for seed := range int64(60) {
		r := rand.New(rand.NewSource(seed))
		b := NewBucket(1+r.Intn(3), 3)
		b.Take(0, 4+r.Intn(5))
		want := r.Perm(9)
		for _, who := range want {
			may(t, b, who, false)
		}
		for len(want) > 0 {
			if !slices.Equal(b.Line(), want) {
				t.Fatalf("P15.10: seed %d: %v, want %v", seed, b.Line(), want)
			}
			for _, who := range r.Perm(9) {
				if slices.Contains(want, who) && b.May(who) != (b.Tokens() > 0 && who == want[0]) {
					t.Fatalf("P15.10: seed %d: May(%d) with %d tokens, the line %v", seed, who, b.Tokens(), want)
				}
			}
			switch at := r.Intn(len(want)); {
			case r.Intn(5) == 0:
				b.Leave(want[at])
				want = slices.Delete(want, at, at+1)
			case b.Tokens() > 0:
				b.Take(want[0], r.Intn(5))
				want = want[1:]
			default:
				b.Tick()
			}
		}
	}
}

// TestBehindSoManyOthers: who stands behind k others is the first when k of these have taken or left, and not earlier.
func TestBehindSoManyOthers(t *testing.T) {
	for k := range 8 {
		for seed := range int64(20) {
			r := rand.New(rand.NewSource(seed))
			b := NewBucket(1, 1)
			b.Take(-1, 1)
			for who := range 10 {
				may(t, b, who, false)
			}
			b.Tick()
			for _, gone := range r.Perm(k) {
				may(t, b, k, false)
				if r.Intn(2) == 0 {
					b.Leave(gone)
				} else {
					b.Take(gone, 1)
					b.Tick()
				}
			}
			if first := b.Line()[0]; first != k {
				t.Errorf("P15.10: behind %d that have gone %d is the first", k, first)
			}
			may(t, b, k, true)
		}
	}
}
