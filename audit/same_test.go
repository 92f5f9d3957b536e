package audit

import (
	"fmt"
	"maps"
	"math/rand"
	"slices"
	"strings"
	"testing"

	"scree/api"
	"scree/manifest"
)

// TestAsTheChapterSays: both calls against the model of them, over files of any kind.
func TestAsTheChapterSays(t *testing.T) {
	t.Parallel()
	seen := map[string]int{}
	for n := range 12000 {
		r := rand.New(rand.NewSource(int64(n)))
		c := api.Config{Levels: one(r, 3, 3, 4, 5)}
		files := anyFiles(t, r, c.Levels)
		gotMap, gotErr := Map(c, files)
		wantMap, wantErr := modelMap(c.Levels, files)
		if gotErr != wantErr || !slices.Equal(gotMap, wantMap) {
			t.Fatalf("P21.3: files %d: %q, error %d; want %q, error %d", n, gotMap, gotErr, wantMap, wantErr)
		}
		got, want := Faults(c, files), modelFaults(c.Levels, files)
		if !slices.Equal(got, want) {
			t.Fatalf("P21.4: files %d: %v, want %v", n, got, want)
		}
		holdTogether(t, gotErr, got)
		count(seen, gotErr, got)
	}
	enough(t, seen, "map:0", "map:103", "map:130", "map:131", "map:133", "map:140", "map:141", "map:180", "map:181",
		"none", "2 faults", "3 faults", "current:140", "current:141", "m:130", "m:131", "m:133", "m:140", "m:180",
		"t:102", "t:103", "t:180", "t:181", "l:20", "l:21", "l:22", "l:70", "l:180", "map:0 with faults")
}

// holdTogether is P21.5, and the form of the faults.
func holdTogether(t *testing.T, err api.Errno, l []api.Fault) {
	t.Helper()
	if err != api.OK && !slices.ContainsFunc(l, func(f api.Fault) bool { return f.Err == err }) {
		t.Fatalf("P21.5: the map's error %d, the faults %v", err, l)
	}
	for i, f := range l {
		if f.Err == api.OK || i > 0 && l[i-1].Name >= f.Name {
			t.Fatalf("P21.4: %v", l)
		}
	}
}

// count counts what came up.
func count(seen map[string]int, err api.Errno, l []api.Fault) {
	seen[fmt.Sprintf("map:%d", int(err))]++
	switch {
	case len(l) == 0:
		seen["none"]++
	case err == api.OK:
		seen["map:0 with faults"]++
	}
	if len(l) > 1 {
		seen[fmt.Sprintf("%d faults", len(l))]++
	}
	for _, f := range l {
		kind, _, _ := strings.Cut(f.Name, "-")
		seen[fmt.Sprintf("%s:%d", kind, int(f.Err))]++
	}
}

// enough holds a test to have come to all that it is meant to look at.
func enough(t *testing.T, seen map[string]int, wanted ...string) {
	t.Helper()
	t.Log(seen)
	for _, what := range wanted {
		if seen[what] < 10 {
			t.Errorf("the cases are too few to tell anything: %s: %d", what, seen[what])
		}
	}
}

// TestOthersDoNotShow: P21.6, of files of any kind.
func TestOthersDoNotShow(t *testing.T) {
	t.Parallel()
	for n := range 2000 {
		r := rand.New(rand.NewSource(int64(50_000 + n)))
		c := api.Config{Levels: 3}
		files := anyFiles(t, r, c.Levels)
		wantMap, wantFaults := both(c, files)
		w := worldOf(files)
		wanted := w.wantedNames(c.Levels)
		var other []api.File
		for _, name := range slices.Sorted(maps.Keys(w)) {
			b := w[name]
			if !slices.Contains(wanted, name) {
				b = []byte(anyVal(r))
			}
			other = append(other, api.File{Name: name, Data: b, Sure: r.Intn(5)})
		}
		for _, name := range []string{"x", "", "current-", "t-00000000001", "m-99999999999x"} {
			other = append(other, file(name, []byte(anyVal(r))))
		}
		r.Shuffle(len(other), func(i, j int) { other[i], other[j] = other[j], other[i] })
		if gotMap, gotFaults := both(c, other); gotMap != wantMap || gotFaults != wantFaults {
			t.Fatalf("P21.6: files %d: %q, %q; want %q, %q", n, gotMap, gotFaults, wantMap, wantFaults)
		}
	}
}

// wantedNames tells the names whose files a coming up asks; of one that is refused those that it may have asked.
func (w world) wantedNames(levels int) []string {
	l := []string{"current"}
	if name, err := manifest.Points(w["current"]); err == api.OK {
		l = append(l, name)
	}
	s, roots, _ := w.stage2(levels)
	if s == nil {
		return l
	}
	for level := range 5 {
		for _, x := range s.Current().Tables(level) {
			l = append(l, number12("t", x.Number))
		}
	}
	return append(l, w.wanted(roots.Log)...)
}
