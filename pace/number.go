package pace

import "math"

// number: an int whose sums and products stay at the greatest or the least int, where they would pass it.
type number int

// counted tells an argument of a formula, which isn't below 0.
func counted(x int) number { return number(max(x, 0)) }

func (a number) plus(b number) number {
	// A sum that leaves the ints wraps round, and so lies on the wrong side of a.
	switch s := a + b; {
	case b > 0 && s < a:
		return math.MaxInt
	case b < 0 && s > a:
		return math.MinInt
	default:
		return s
	}
}

func (a number) times(b number) number {
	// A product that wrapped round doesn't lead back to b. One case hides that: the least int by -1 is the least int again, either way.
	wrapped := a != 0 && (a*b/a != b || a == -1 && b == math.MinInt)
	switch {
	case !wrapped:
		return a * b
	case (a < 0) == (b < 0):
		return math.MaxInt
	default:
		return math.MinInt
	}
}

// sum adds from the left.
func sum(parts ...number) number {
	var s number
	for _, p := range parts {
		s = s.plus(p)
	}
	return s
}
