package pace

import (
	"math"
	"math/big"
	"math/rand"
	"testing"
)

// reckons holds Add and Mul against numbers of any size.
func reckons(t *testing.T, a, b int) {
	t.Helper()
	x, y := big.NewInt(int64(a)), big.NewInt(int64(b))
	if got, want := Add(a, b), held(new(big.Int).Add(x, y)).Int64(); got != int(want) {
		t.Errorf("P15.2: Add(%d, %d): %d, want %d", a, b, got, want)
	}
	if got, want := Mul(a, b), held(new(big.Int).Mul(x, y)).Int64(); got != int(want) {
		t.Errorf("P15.2: Mul(%d, %d): %d, want %d", a, b, got, want)
	}
}

func TestNumberExample(t *testing.T) {
	if got := Add(math.MaxInt, 1); got != math.MaxInt {
		t.Errorf("P15.2: Add: %d", got)
	}
	if got := Mul(math.MinInt, 2); got != math.MinInt {
		t.Errorf("P15.2: Mul: %d", got)
	}
	if got := Mul(math.MinInt, -1); got != math.MaxInt {
		t.Errorf("P15.2: Mul: %d", got)
	}
	if got := Mul(-1, math.MinInt); got != math.MaxInt {
		t.Errorf("P15.2: Mul: %d", got)
	}
}

// TestNumbersNearTheEnds: all pairs of numbers that lie near a power of two, a root or a part of the greatest int.
func TestNumbersNearTheEnds(t *testing.T) {
	var l []int
	for i := range 64 {
		for near := -2; near <= 2; near++ {
			l = append(l, 1<<i+near, -(1<<i)+near)
		}
	}
	for _, part := range []int{3037000499, 3, 5, 7, 10, 450, 17408} {
		for near := -1; near <= 1; near++ {
			l = append(l, part+near, -part+near, math.MaxInt/part+near, math.MinInt/part+near)
		}
	}
	for _, a := range l {
		for _, b := range l {
			reckons(t, a, b)
		}
	}
}

func TestNumbersOfAllLengths(t *testing.T) {
	r := rand.New(rand.NewSource(2))
	for range 100000 {
		reckons(t, int(r.Uint64())>>r.Intn(64), int(r.Uint64())>>r.Intn(64))
	}
}

// TestProductsAtTheEnds: of each factor the greatest other one that still fits, and the next.
func TestProductsAtTheEnds(t *testing.T) {
	r := rand.New(rand.NewSource(3))
	for range 30000 {
		a := int(r.Uint64()) >> r.Intn(63)
		if a == 0 {
			continue
		}
		for near := -1; near <= 1; near++ {
			reckons(t, a, math.MaxInt/a+near)
			reckons(t, a, Add(math.MinInt/a, near))
		}
	}
}
