package pile

import (
	"math"
	"math/rand"
	"runtime"
	"slices"
	"strings"
	"testing"
	"weak"
)

func byValue(a, b int) bool { return a < b }

// take pops till the heap is empty, and holds Top and Len against each Pop.
func take[T comparable](t *testing.T, h *Heap[T]) []T {
	t.Helper()
	var out []T
	for h.Len() > 0 {
		n := h.Len()
		top, there := h.Top()
		again, still := h.Top()
		x, ok := h.Pop()
		if !there || !still || !ok || top != x || again != x {
			t.Fatalf("P4.2: Top says %v, %v and %v, %v; Pop takes %v, %v", top, there, again, still, x, ok)
		}
		if h.Len() != n-1 {
			t.Fatalf("P4.2: Len %d behind a Pop of %d things", h.Len(), n)
		}
		out = append(out, x)
	}
	return out
}

// none holds a heap to be empty, of any type of things.
func none[T comparable](t *testing.T, h *Heap[T]) {
	t.Helper()
	var zero T
	if x, ok := h.Top(); x != zero || ok {
		t.Errorf("P4.2: Top of an empty heap: %v, %v", x, ok)
	}
	if x, ok := h.Pop(); x != zero || ok {
		t.Errorf("P4.2: Pop of an empty heap: %v, %v", x, ok)
	}
	if h.Len() != 0 {
		t.Errorf("P4.2: Len of an empty heap: %d", h.Len())
	}
}

func TestHeapExample(t *testing.T) {
	h := New(byValue)
	for _, x := range []int{5, 2, 9, 2} {
		h.Push(x)
	}
	if h.Len() != 4 {
		t.Errorf("P4.1: Len %d, want 4", h.Len())
	}
	if x, ok := h.Top(); x != 2 || !ok {
		t.Errorf("P4.2: Top %d, %v", x, ok)
	}
	if got := take(t, h); !slices.Equal(got, []int{2, 2, 5, 9}) {
		t.Errorf("P4.4: %v", got)
	}
	none(t, h)
}

func TestHeapOfTextsByLength(t *testing.T) {
	h := New(func(a, b string) bool { return len(a) < len(b) })
	for _, s := range []string{"ab", "c", "de"} {
		h.Push(s)
	}
	got := take(t, h)
	if len(got) != 3 || got[0] != "c" {
		t.Fatalf("P4.2: %q", got)
	}
	slices.Sort(got[1:])
	if !slices.Equal(got[1:], []string{"ab", "de"}) {
		t.Errorf("P4.4: %q", got)
	}
}

type card struct {
	rank int
	text string
}

func TestEmptyHeap(t *testing.T) {
	none(t, New(byValue))
	none(t, New(func(a, b string) bool { return a < b }))
	none(t, New(func(a, b card) bool { return a.rank < b.rank }))
	none(t, New(func(a, b *card) bool { return a.rank < b.rank }))
	none(t, New(func(a, b struct{}) bool { return false }))
	none(t, New(func(a, b [2]any) bool { return false }))
	h := New(func(a, b []int) bool { return len(a) < len(b) })
	if x, ok := h.Pop(); x != nil || ok {
		t.Errorf("P4.2: Pop of an empty heap of lists: %v, %v", x, ok)
	}
	if x, ok := h.Top(); x != nil || ok {
		t.Errorf("P4.2: Top of an empty heap of lists: %v, %v", x, ok)
	}
}

func TestHeapIsEmptyAgain(t *testing.T) {
	h := New(func(a, b card) bool { return a.rank < b.rank })
	for i := range 4 {
		h.Push(card{3, "x"})
		h.Push(card{-i, "y"})
		if x, ok := h.Pop(); !ok || x.rank != min(3, -i) {
			t.Errorf("P4.2: %v, %v", x, ok)
		}
		if x, ok := h.Pop(); !ok || x.rank != 3 {
			t.Errorf("P4.2: %v, %v", x, ok)
		}
		none(t, h)
		none(t, h)
	}
}

func TestZeroIsAThing(t *testing.T) {
	h := New(func(a, b *int) bool { return false })
	h.Push(nil)
	if x, ok := h.Top(); x != nil || !ok || h.Len() != 1 {
		t.Errorf("P4.2: Top of a heap of nil: %v, %v", x, ok)
	}
	if x, ok := h.Pop(); x != nil || !ok || h.Len() != 0 {
		t.Errorf("P4.2: Pop of a heap of nil: %v, %v", x, ok)
	}
	e := New(func(a, b struct{}) bool { return false })
	for range 5 {
		e.Push(struct{}{})
	}
	if got := take(t, e); len(got) != 5 {
		t.Errorf("P4.1: %d things of no size came out, want 5", len(got))
	}
}

func TestGreatestAndLeastNumbers(t *testing.T) {
	in := []int{0, math.MaxInt, math.MinInt, -1, math.MaxInt, 1, math.MinInt}
	up, down := New(byValue), New(func(a, b int) bool { return a > b })
	for _, x := range in {
		up.Push(x)
		down.Push(x)
	}
	want := slices.Sorted(slices.Values(in))
	if got := take(t, up); !slices.Equal(got, want) {
		t.Errorf("P4.4: %v", got)
	}
	slices.Reverse(want)
	if got := take(t, down); !slices.Equal(got, want) {
		t.Errorf("P4.4: %v", got)
	}
}

// TestAllHeapsOfFew pushes every list of up to seven things out of four ranks: every shape that a small heap can have.
func TestAllHeapsOfFew(t *testing.T) {
	for n := 0; n <= 7; n++ {
		for code := range 1 << (2 * n) {
			h := New(byValue)
			var in []int
			for i := range n {
				in = append(in, code>>(2*i)&3)
				h.Push(in[i])
				if top, ok := h.Top(); !ok || top != slices.Min(in) || h.Len() != i+1 {
					t.Fatalf("P4.2: behind %v: Top %d, %v, Len %d", in, top, ok, h.Len())
				}
			}
			got := take(t, h)
			slices.Sort(in)
			if !slices.Equal(got, in) {
				t.Fatalf("P4.4: %v, want %v", got, in)
			}
		}
	}
}

func TestManyInOrder(t *testing.T) {
	const n = 3000
	for name, at := range map[string]func(int) int{
		"rising":  func(i int) int { return i },
		"falling": func(i int) int { return n - 1 - i },
		"shuffle": func(i int) int { return i * 1009 % n },
		"halves":  func(i int) int { return (i + n/2) % n },
	} {
		h := New(byValue)
		for i := range n {
			h.Push(at(i))
		}
		for i := range n {
			if x, ok := h.Pop(); x != i || !ok {
				t.Fatalf("P4.4: %s: %d, %v, want %d", name, x, ok, i)
			}
		}
		none(t, h)
	}
}

// TestHeapScripts holds a heap against a list in which the least is looked for, with few ranks, so that many are equal; each thing has its own text, so that a lost or doubled one is seen.
func TestHeapScripts(t *testing.T) {
	for seed := range int64(60) {
		r := rand.New(rand.NewSource(seed))
		h := New(func(a, b card) bool { return a.rank < b.rank })
		var in []card
		for step := range 800 {
			if r.Intn(5) < 2+int(seed%2) {
				c := card{r.Intn(9) - 4, strings.Repeat("x", r.Intn(3))}
				h.Push(c)
				in = append(in, c)
			} else {
				top, there := h.Top()
				c, ok := h.Pop()
				at := slices.Index(in, c)
				if ok != (len(in) > 0) || there != ok || top != c || ok && at < 0 || !ok && c != (card{}) {
					t.Fatalf("P4.2: seed %d, step %d: %v, %v of %v; Top said %v", seed, step, c, ok, in, top)
				}
				for _, other := range in {
					if other.rank < c.rank {
						t.Fatalf("P4.2: seed %d, step %d: %v isn't least: %v", seed, step, c, other)
					}
				}
				if ok {
					in = slices.Delete(in, at, at+1)
				}
			}
			if h.Len() != len(in) {
				t.Fatalf("P4.2: seed %d, step %d: Len %d, want %d", seed, step, h.Len(), len(in))
			}
		}
		got := take(t, h)
		if !slices.IsSortedFunc(got, func(a, b card) int { return a.rank - b.rank }) {
			t.Fatalf("P4.4: seed %d: %v", seed, got)
		}
		whole := func(a, b card) int { return (a.rank-b.rank)*8 + len(a.text) - len(b.text) }
		slices.SortFunc(got, whole)
		slices.SortFunc(in, whole)
		if !slices.Equal(got, in) {
			t.Fatalf("P4.4: seed %d: %v came out, want %v", seed, got, in)
		}
	}
}

func TestThingsAreKeptAsTheyAre(t *testing.T) {
	a, b := make([]int, 2, 5), []int{1}
	h := New(func(x, y []int) bool { return len(x) < len(y) })
	h.Push(a)
	h.Push(b)
	h.Push(a)
	a[0] = 7
	if x, _ := h.Pop(); &x[0] != &b[0] {
		t.Errorf("the list was copied")
	}
	top, _ := h.Top()
	x, _ := h.Pop()
	y, _ := h.Pop()
	for _, l := range [][]int{top, x, y} {
		if &l[0] != &a[0] || len(l) != 2 || cap(l) != 5 || l[0] != 7 {
			t.Errorf("the list didn't come out as it went in: %v", l)
		}
	}
}

// TestOnlyThingsOfTheHeapAreCompared: an order that can't bear nil must never be handed it, and what was taken out is asked of no longer.
func TestOnlyThingsOfTheHeapAreCompared(t *testing.T) {
	r := rand.New(rand.NewSource(5))
	in := map[*card]int{}
	h := New(func(a, b *card) bool {
		if in[a] == 0 || in[b] == 0 {
			t.Fatalf("asked of what isn't in the heap: %v, %v", a, b)
		}
		return a.rank < b.rank
	})
	for range 3000 {
		if r.Intn(2) == 0 {
			c := &card{rank: r.Intn(20)}
			in[c]++
			h.Push(c)
		} else if c, ok := h.Top(); ok {
			h.Pop()
			in[c]--
		}
	}
}

// TestOtherOrders: of a less that is no order it is said only that the calls end and that what went in comes out once.
func TestOtherOrders(t *testing.T) {
	orders := map[string]func(a, b int) bool{
		"always":    func(a, b int) bool { return true },
		"never":     func(a, b int) bool { return false },
		"at most":   func(a, b int) bool { return a <= b },
		"circle":    func(a, b int) bool { return (b-a+99)%3 == 1 },
		"scattered": func(a, b int) bool { return (a*7+b*5)%4 < 2 },
		"unlike":    func(a, b int) bool { return a != b },
	}
	for name, less := range orders {
		for n := range 40 {
			h := New(less)
			var in []int
			for i := range n {
				h.Push(i % 11)
				in = append(in, i%11)
				if h.Len() != i+1 {
					t.Fatalf("P4.1: %s: Len %d, want %d", name, h.Len(), i+1)
				}
			}
			got := take(t, h)
			slices.Sort(in)
			slices.Sort(got)
			if !slices.Equal(got, in) {
				t.Fatalf("%s: %v came out, want %v", name, got, in)
			}
			none(t, h)
		}
	}
}

func TestNaN(t *testing.T) {
	h := New(func(a, b float64) bool { return a < b })
	for _, x := range []float64{2, math.NaN(), 1, math.NaN(), math.Inf(-1), 3} {
		h.Push(x)
	}
	sum, nans := 0.0, 0
	for range 6 {
		x, ok := h.Pop()
		switch {
		case !ok:
			t.Fatalf("Pop took nothing, with %d left", h.Len())
		case math.IsNaN(x):
			nans++
		case !math.IsInf(x, -1):
			sum += x
		}
	}
	if nans != 2 || sum != 6 || h.Len() != 0 {
		t.Errorf("%d NaNs, sum %v, %d left", nans, sum, h.Len())
	}
}

func TestHeapsAreApart(t *testing.T) {
	down := func(a, b int) bool { return a > b }
	x, y := New(byValue), New(down)
	z := New(byValue)
	for i := range 10 {
		x.Push(i)
		y.Push(i)
	}
	none(t, z)
	for i := range 10 {
		if a, ok := x.Pop(); a != i || !ok {
			t.Errorf("P4.4: %d, %v, want %d", a, ok, i)
		}
		if y.Len() != 10 {
			t.Fatalf("P4.4: a Pop of one heap took from another")
		}
	}
	if got := take(t, y); got[0] != 9 || got[9] != 0 {
		t.Errorf("P4.4: %v", got)
	}
}

func TestWhatIsTakenOutIsNotKept(t *testing.T) {
	h := New(func(a, b *card) bool { return a.rank < b.rank })
	var gone []weak.Pointer[card]
	for i := range 9 {
		c := &card{i, "out"}
		gone = append(gone, weak.Make(c))
		h.Push(c)
	}
	h.Push(&card{99, "stays"})
	for range 9 {
		h.Pop()
	}
	runtime.GC()
	for i, w := range gone {
		if w.Value() != nil {
			t.Errorf("the thing %d is still held", i)
		}
	}
	if c, ok := h.Top(); !ok || c.text != "stays" {
		t.Errorf("P4.2: %v, %v", c, ok)
	}
}
