package store

import (
	"maps"
	"math"
	"math/rand"
	"slices"
	"testing"

	"scree/api"
	"scree/audit"
	"scree/log"
	"scree/manifest"
)

// TestBytesSayIt: P22.11, behind every step of scripts with faults and falls. (Those of the other tests with faults and falls at each call are held to it, too.)
func TestBytesSayIt(t *testing.T) {
	t.Parallel()
	seen := map[string]int{}
	for n := range 60 {
		r := rand.New(rand.NewSource(int64(11900 + n)))
		c := anyConfig(r)
		room := 0
		if n%6 == 0 {
			room = 300 + r.Intn(30000)
		}
		p := newPlay(t, c, room, nil, nil)
		p.watch = nil
		p.holdBytes(r, 5)
		for range 4 {
			h := anyChance(r, c)
			h.faults, h.arms, h.falls = one(r, 0, 10, 50), one(r, 0, 10, 50), one(r, 5, 20)
			h.heavy, h.submits = one(r, 3, 9), 30
			for range 500 {
				p.goOn(r, h, 1)
				if changesFiles(p.now) {
					p.holdBytes(r, 1)
				}
			}
		}
		for k, v := range p.seen {
			seen[k] += v
		}
	}
	needs(t, seen, "image shown spoiled open up fall readonly switch append sync install write")
}

// holdBytes holds what a few falls would leave now to what the bytes of it say.
func (p *play) holdBytes(r *rand.Rand, n int) {
	p.t.Helper()
	for range n {
		files := p.s.Image(one(r, 0, 1, 2, 3, r.Intn(9), 1<<40), []int{one(r, 0, 1<<40, r.Intn(600)), one(r, 0, 1<<40, r.Intn(9))})
		p.seen["image"]++
		if l := audit.Faults(p.c, files); len(l) > 0 {
			p.fail("P22.11: the faults %v of %s", l, listed(files))
		}
		if r.Intn(10) == 0 {
			p.seen["shown"]++
			p.holdMap(files)
		}
		if r.Intn(10) == 0 && len(files) > 0 {
			p.holdMap(spoiled(r, files))
		}
	}
}

// holdMap holds a coming up over files to the map that their bytes say, or to the error (P22.11, P22.12).
func (p *play) holdMap(files []api.File) {
	p.t.Helper()
	said, refused := audit.Map(p.c, files)
	s, err := New(p.c, 0, files, nil)
	if err != api.OK {
		p.fail("P19.1: New: error %d", err)
	}
	r := s.Do(p.opener())
	for r.Did == api.DidOpen {
		r = s.Do(p.opener())
	}
	if r.Err != refused {
		p.fail("P22.12: the map's error %d, the opener's %d of %s", refused, r.Err, listed(files))
	}
	if refused != api.OK {
		p.seen["spoiled"]++
		return
	}
	want := map[string]string{}
	for _, pair := range said {
		want[pair.Key] = pair.Val
	}
	if shown := scanned(s, p.c); !maps.Equal(shown, want) {
		p.fail("P22.11: the map %.300q, shown %.300q", want, shown)
	}
}

// spoiled: files of which one is gone, or is cut, or has a wrong bit.
func spoiled(r *rand.Rand, files []api.File) []api.File {
	l := slices.Clone(files)
	i := r.Intn(len(l))
	b := slices.Clone(l[i].Data)
	switch {
	case r.Intn(3) == 0:
		return slices.Delete(l, i, i+1)
	case len(b) == 0 || r.Intn(2) == 0:
		b = b[:r.Intn(len(b)+1)]
	default:
		b[r.Intn(len(b))] ^= 1 << r.Intn(8)
	}
	l[i].Data, l[i].Sure = b, len(b)
	return l
}

// TestAnything: P22.12: whatever the configuration, the files and the script, there is an answer.
func TestAnything(t *testing.T) {
	t.Parallel()
	seen := map[string]int{}
	for n := range 3000 {
		r := rand.New(rand.NewSource(int64(12900 + n)))
		c := anyConfig(r)
		if r.Intn(3) == 0 {
			*one(r, &c.Clients, &c.Flushers, &c.MemBytes, &c.Levels, &c.L0Stop, &c.MaxChunk, &c.DebtStop, &c.MaxManifest) = wild(r)
		}
		var files []api.File
		for range r.Intn(4) {
			files = append(files, wildFile(r))
		}
		s, err := New(c, one(r, 0, 0, 0, 1000, wild(r)), files, []byte{9})
		switch err {
		case api.OK:
			seen["made"]++
			plays(t, r, s, seen)
		case api.ErrConfig, api.ErrDiskFiles:
			seen["refused"]++
			if s != nil {
				t.Fatal("P19.1: a store beside an error")
			}
		default:
			t.Fatalf("P22.12: error %d", err)
		}
	}
	needs(t, seen, "made refused up refused!180 refused!140 refused!141")
}

// plays plays a script of steps of any kind.
func plays(t *testing.T, r *rand.Rand, s *Store, seen map[string]int) {
	t.Helper()
	for range 60 {
		x := api.Step{Kind: one(r, wild(r), 1, 2, 2, 2, 2, 3, 4, 5, 6), A: one(r, wild(r), r.Intn(20)), B: wild(r), C: wild(r), Keep: []int{wild(r)}}
		x.Op = api.Op{Kind: one(r, wild(r), 1, 2, 3, 4, 5, 6), Writes: make([]api.Write, r.Intn(18)), Sync: r.Intn(2) == 0, Key: one(r, "", "a"), To: one(r, "", "b"), N: wild(r), Snap: wild(r)}
		for i := range x.Op.Writes {
			x.Op.Writes[i].Key = "abc"[:one(r, 0, 1, 1, 1, 1, 1, 1, 1, 1, 1, 1, 1, 1, 1, 1, 2)]
		}
		if r.Intn(3) == 0 {
			x = api.Step{Kind: api.StepMachine, A: s.c.Clients + s.c.Flushers + s.c.Compactors}
		}
		y := s.Step(x)
		if y.Did < api.DidNothing || y.Did > api.DidReadOnly || y.Why < 0 || y.Why > api.WaitTokens || y.Err < 0 || y.Err > api.ErrOp {
			t.Fatalf("P22.12: %+v answered %+v", x, y)
		}
		seen[text(api.Reply{Did: y.Did, Err: y.Err})]++
	}
}

func wild(r *rand.Rand) int {
	return one(r, math.MinInt, -1, 0, 1, 2, 7, 100, 5000, 1<<40, math.MaxInt)
}

// wildFile: a file that no store made.
func wildFile(r *rand.Rand) api.File {
	b := one(r, nil, []byte("?"), []byte("\x0em-000000000002n?"), manifest.Current("m-000000000002"), manifest.Current("l-000000000002"), log.Append(0, []byte{1, 1}), log.Append(0, log.Put(4, [][]api.Write{{{Key: "a"}}})))
	f := api.File{Name: one(r, "current", "current", "new", "m-000000000002", "l-000000000001", "t-000000000001", "l-999999999999", "other", "Name"), Data: b, Sure: r.Intn(len(b) + 1)}
	if r.Intn(9) == 0 {
		f.Sure = wild(r)
	}
	return f
}
