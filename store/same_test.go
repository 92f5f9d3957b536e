package store

import (
	"fmt"
	"math/rand"
	"slices"
	"strings"
	"testing"
)

// needs holds a test to have come to all that it is meant to look at.
func needs(t *testing.T, seen map[string]int, words string) {
	t.Helper()
	var l []string
	for k, v := range seen {
		l = append(l, fmt.Sprintf("%s %d", k, v))
	}
	slices.Sort(l)
	t.Log(l)
	for _, w := range strings.Fields(words) {
		if seen[w] < 5 {
			t.Errorf("the cases are too few to tell anything: %s %d", w, seen[w])
		}
	}
}

// scripts plays scripts, each over an empty disk with room for as many bytes as room says, some of them as chances says.
func scripts(t *testing.T, seed, n, length int, room func(*rand.Rand) int, chances func(*rand.Rand, *chance)) map[string]int {
	t.Helper()
	seen := map[string]int{}
	for i := range n {
		r := rand.New(rand.NewSource(int64(seed + i)))
		c := anyConfig(r)
		p := newPlay(t, c, room(r), nil, []byte{byte(i), 3})
		p.comeUp()
		for range 5 {
			h := anyChance(r, c)
			chances(r, &h)
			p.goOn(r, h, length/5)
		}
		p.holdFiles()
		for k, v := range p.seen {
			seen[k] += v
		}
	}
	return seen
}

func endless(*rand.Rand) int { return 0 }

// TestAsTheTableSays: scripts without faults, held step by step against the model (replies, status, levels, files), and to the promises about the whole.
func TestAsTheTableSays(t *testing.T) {
	t.Parallel()
	seen := scripts(t, 1900, 60, 3000, endless, func(*rand.Rand, *chance) {})
	needs(t, seen, "nothing idle refused take admit lead switch append sync insert publish pin look done claim make fill write seal install open up tick wait:turn wait:pending wait:stop wait:slow wait:lead wait:room wait:locks wait:tokens")
}

// TestBusy: the same, with much to do for the workers, so that the manifest is rolled.
func TestBusy(t *testing.T) {
	t.Parallel()
	seen := scripts(t, 2900, 12, 12000, endless, func(r *rand.Rand, h *chance) {
		h.heavy, h.submits, h.ticks, h.wrong = 9, 30, 10, false
		for k := range h.weights {
			h.weights[k] = 5
		}
	})
	needs(t, seen, "roll install wait:debt")
}

// TestFaults: the same with faults, and now and then a fall, since nothing else ends a read-only life.
func TestFaults(t *testing.T) {
	t.Parallel()
	seen := scripts(t, 3900, 120, 2500, endless, func(r *rand.Rand, h *chance) {
		h.faults, h.falls = one(r, 10, 50), one(r, 5, 20)
	})
	needs(t, seen, "readonly fall up install")
}

// TestFalls: the same with falls at any unit of what the disk does, and now and then a fault.
func TestFalls(t *testing.T) {
	t.Parallel()
	seen := scripts(t, 4900, 120, 2500, endless, func(r *rand.Rand, h *chance) {
		h.faults, h.arms, h.falls = one(r, 0, 0, 5), one(r, 10, 50), one(r, 5, 20)
	})
	needs(t, seen, "fall up install")
}

// TestLittleRoom: a full disk is a fault.
func TestLittleRoom(t *testing.T) {
	t.Parallel()
	seen := scripts(t, 5900, 60, 2500, func(r *rand.Rand) int { return 300 + r.Intn(30000) }, func(r *rand.Rand, h *chance) {
		h.falls = one(r, 5, 20)
	})
	needs(t, seen, "readonly fall up install")
}
