package pile

import (
	"math"
	"math/rand"
	"slices"
	"testing"
)

// stand holds a line to have these, in this order.
func stand(t *testing.T, l *Line, want ...int) {
	t.Helper()
	if got := l.All(); !slices.Equal(got, want) {
		t.Errorf("P4.3: All %v, want %v", got, want)
	}
	first, ok := l.First()
	if ok != (len(want) > 0) || ok && first != want[0] || !ok && first != 0 {
		t.Errorf("P4.3: First %d, %v of %v", first, ok, want)
	}
}

// joined makes a line of these.
func joined(t *testing.T, who ...int) *Line {
	t.Helper()
	l := NewLine()
	for _, w := range who {
		if !l.Join(w) {
			t.Fatalf("P4.3: Join(%d) of %v: false", w, who)
		}
	}
	return l
}

func TestLineExample(t *testing.T) {
	l := NewLine()
	stand(t, l)
	if !l.Join(7) || !l.Join(-1) || l.Join(7) {
		t.Errorf("P4.3: Join")
	}
	stand(t, l, 7, -1)
	if !l.Leave(7) || l.Leave(7) {
		t.Errorf("P4.3: Leave")
	}
	stand(t, l, -1)
	if !l.Join(7) {
		t.Errorf("P4.3: Join of one who had left")
	}
	stand(t, l, -1, 7)
}

func TestEmptyLine(t *testing.T) {
	l := NewLine()
	for _, who := range []int{0, 1, -1, math.MaxInt, math.MinInt} {
		if l.Leave(who) {
			t.Errorf("P4.3: %d left an empty line", who)
		}
	}
	stand(t, l)
	if !l.Join(3) || !l.Leave(3) || l.Leave(3) {
		t.Errorf("P4.3: one who joins and leaves")
	}
	stand(t, l)
}

func TestAnyNumberMayStand(t *testing.T) {
	who := []int{0, math.MaxInt, -1, math.MinInt, 1}
	l := joined(t, who...)
	stand(t, l, who...)
	for _, w := range who {
		if l.Join(w) {
			t.Errorf("P4.5: %d stands twice", w)
		}
	}
	stand(t, l, who...)
	for i, w := range who {
		if !l.Leave(w) || l.Leave(w) {
			t.Errorf("P4.3: Leave(%d)", w)
		}
		stand(t, l, who[i+1:]...)
	}
}

func TestLeaveFromAnywhere(t *testing.T) {
	who := []int{4, 2, 9, 0, 5}
	for i, w := range who {
		l := joined(t, who...)
		if l.Leave(7) {
			t.Errorf("P4.3: one left who wasn't there")
		}
		stand(t, l, who...)
		if !l.Leave(w) {
			t.Errorf("P4.3: Leave(%d): false", w)
		}
		rest := slices.Delete(slices.Clone(who), i, i+1)
		stand(t, l, rest...)
		if !l.Join(w) {
			t.Errorf("P4.3: Join(%d) behind Leave: false", w)
		}
		stand(t, l, append(rest, w)...)
	}
}

func TestAllIsNewMemory(t *testing.T) {
	l := joined(t, 1, 2, 3, 4, 5)
	l.Leave(5)
	one, two := l.All(), l.All()
	for _, got := range [][]int{one[:cap(one)], two[:cap(two)]} {
		for i := range got {
			got[i] = -7
		}
	}
	stand(t, l, 1, 2, 3, 4)
	kept := l.All()
	l.Leave(1)
	l.Join(1)
	l.Join(6)
	if !slices.Equal(kept, []int{1, 2, 3, 4}) {
		t.Errorf("P4.3: an answer was touched: %v", kept)
	}
	_ = append(l.All(), 8)
	l.Join(9)
	stand(t, l, 2, 3, 4, 1, 6, 9)
	for range 6 {
		first, _ := l.First()
		l.Leave(first)
	}
	empty := append(l.All(), 1, 2, 3)
	l.Join(4)
	if stand(t, l, 4); !slices.Equal(empty, []int{1, 2, 3}) {
		t.Errorf("P4.3: an empty answer shares memory: %v", empty)
	}
}

func TestLinesAreApart(t *testing.T) {
	x, y := NewLine(), NewLine()
	if !x.Join(1) || !y.Join(2) || !x.Join(2) || !y.Join(1) {
		t.Errorf("P4.5: one line touches another")
	}
	stand(t, x, 1, 2)
	stand(t, y, 2, 1)
	x.Leave(1)
	stand(t, x, 2)
	stand(t, y, 2, 1)
}

// TestLineScripts holds a line against when each one joined: who joined earlier stands ahead.
func TestLineScripts(t *testing.T) {
	for seed := range int64(40) {
		r := rand.New(rand.NewSource(seed))
		l := NewLine()
		since := map[int]int{}
		for step := range 600 {
			who := r.Intn(3+int(seed)) - 3
			when, in := since[who]
			if r.Intn(2) == 0 {
				if l.Join(who) == in {
					t.Fatalf("P4.3: seed %d, step %d: Join(%d), there since %d", seed, step, who, when)
				}
				if !in {
					since[who] = step
				}
			} else {
				if l.Leave(who) != in {
					t.Fatalf("P4.3: seed %d, step %d: Leave(%d)", seed, step, who)
				}
				delete(since, who)
			}
			var want []int
			for w := range since {
				want = append(want, w)
			}
			slices.SortFunc(want, func(a, b int) int { return since[a] - since[b] })
			if stand(t, l, want...); t.Failed() {
				t.Fatalf("P4.5: seed %d, step %d", seed, step)
			}
		}
	}
}

func TestLongLine(t *testing.T) {
	const n = 3000
	l := NewLine()
	for i := range n {
		l.Join(i * 7 % n)
	}
	for i := range n {
		if first, ok := l.First(); first != i*7%n || !ok || !l.Leave(first) {
			t.Fatalf("P4.5: %d, %v, want %d", first, ok, i*7%n)
		}
	}
	stand(t, l)
}
