package audit

import (
	"math/rand"
	"slices"
	"testing"

	"scree/api"
	"scree/pace"
	"scree/store"
)

// right: a right configuration.
var right = api.Config{
	Clients: 1, Flushers: 1, Compactors: 1, MemBytes: 4096, MaxImm: 1, L0Trigger: 1, L0Slow: 1, L0Stop: 2,
	Levels: 3, Base: 4096, Mult: 2, FileBytes: 2048, Fan: 1, BlockBytes: 64, Restart: 1, BloomBits: 10,
	MaxChunk: 4096, Rate: 1088, Burst: 4096, SlowRate: 20000, SlowBurst: 17408, MaxGroup: 1088, MaxDebt: 17408,
	DebtStop: 86013, Snapshots: 1, ScanLimit: 256, MaxManifest: 4096,
}

const opener = 3 // the machine

func TestConfigurationIsRight(t *testing.T) {
	if place, err := pace.Check(right); err != api.OK {
		t.Fatalf("field %d: error %d", place, err)
	}
}

// TestComingUp: P22.12: over files that no store made a coming up ends as Map tells.
func TestComingUp(t *testing.T) {
	t.Parallel()
	seen := map[string]int{}
	for n := range 3000 {
		r := rand.New(rand.NewSource(int64(100_000 + n)))
		c := right
		c.Levels = one(r, 3, 3, 4, 5)
		files := diskFiles(anyFiles(t, r, c.Levels))
		s, err := store.New(c, 0, files, nil)
		if err != api.OK {
			t.Fatalf("P19.1: New: error %d", err)
		}
		said, refused := Map(c, files)
		for range 1 + r.Intn(3) {
			shown, err := comeUp(t, s, c)
			if err != refused || !slices.Equal(shown, said) {
				t.Fatalf("P22.12: files %d: shown are %q, error %d; said %q, error %d", n, shown, err, said, refused)
			}
			if refused == api.OK && isNear(files) {
				break
			}
			// What is left on the disk says the same, and so another life shows it.
			if again, err := Map(c, s.Files()); err != refused || !slices.Equal(again, said) {
				t.Fatalf("P22.12: files %d: then is said %q, error %d; ahead of it %q, error %d", n, again, err, said, refused)
			}
			if l := Faults(c, s.Files()); refused == api.OK && len(l) > 0 {
				t.Fatalf("P22.11: files %d: the faults %v behind a coming up", n, l)
			}
			s.Step(api.Step{Kind: api.StepFall, A: 1 << 30, Keep: []int{1 << 30}})
		}
		count(seen, refused, nil)
		if len(said) > 0 {
			seen["pairs"]++
		}
		if len(said) == c.ScanLimit {
			t.Fatal("one Scan doesn't show all")
		}
	}
	enough(t, seen, "map:0", "pairs", "map:103", "map:130", "map:131", "map:140", "map:141", "map:180", "map:181")
}

// isNear tells whether a life over these files gives numbers above the greatest one, so that the next life is refused.
func isNear(files []api.File) bool {
	return slices.ContainsFunc(worldOf(files).names("lmt"), func(name string) bool { return numberOf(name) > lastFile-1<<32 })
}

// diskFiles: those of files that a disk may have, the first of each name.
func diskFiles(files []api.File) []api.File {
	w := worldOf(files)
	var l []api.File
	for _, f := range files {
		if b, ok := w[f.Name]; ok {
			l = append(l, file(f.Name, b))
			delete(w, f.Name)
		}
	}
	return l
}

// comeUp lets a store come up: the map that it shows, or the error that refuses it.
func comeUp(t *testing.T, s *store.Store, c api.Config) ([]api.Pair, api.Errno) {
	t.Helper()
	for {
		switch r := s.Do(opener); r.Did {
		case api.DidOpen:
		case api.DidUp:
			return scanned(s, c), api.OK
		case api.DidRefused:
			return nil, r.Err
		default:
			t.Fatalf("P19.4: the opener answers %+v", r)
		}
	}
}

// scanned tells a store's map by a Scan of all of it.
func scanned(s *store.Store, c api.Config) []api.Pair {
	s.Submit(0, api.Op{Kind: api.OpScan, N: c.ScanLimit})
	for {
		if r := s.Do(0); r.Did == api.DidDone {
			return r.Pairs
		}
	}
}
