package script

import (
	"math"
	"math/rand"
	"slices"
	"strconv"
	"strings"
	"testing"

	"scree/api"
)

func TestPrintTellsTheOneText(t *testing.T) {
	op := func(op api.Op) api.Step { return submits(2, op) }
	prints(t, "P20.8, no step", "")
	for want, x := range map[string]api.Step{
		"write 2\n":                                op(api.Op{Kind: api.OpWrite}),
		"write 2 sync\n":                           op(api.Op{Kind: api.OpWrite, Sync: true}),
		"write 2 put \"\" \"\" del \"\"\n":         op(api.Op{Kind: api.OpWrite, Writes: []api.Write{put("", ""), del("")}}),
		"write 2 del \"a\" put \"b\" \"c\" sync\n": op(api.Op{Kind: api.OpWrite, Writes: []api.Write{del("a"), put("b", "c")}, Sync: true}),
		"sync 2\n":                                 op(api.Op{Kind: api.OpSync}),
		"get 2 \"a b\"\n":                          op(api.Op{Kind: api.OpGet, Key: "a b"}),
		"get 2 \"a#\" snap -1\n":                   op(api.Op{Kind: api.OpGet, Key: "a#", Snap: -1}),
		"scan 2 \"\" \"\" 0\n":                     op(api.Op{Kind: api.OpScan}),
		"scan 2 \"a\" \"b\" 3 snap 4\n":            op(api.Op{Kind: api.OpScan, Key: "a", To: "b", N: 3, Snap: 4}),
		"snap 2\n":                                 op(api.Op{Kind: api.OpSnap}),
		"release 2 0\n":                            op(api.Op{Kind: api.OpRelease}),
		"release 2 5\n":                            op(api.Op{Kind: api.OpRelease, Snap: 5}),
		"do -1\n":                                  does(-1),
		"do 1099511627776\n":                       does(1 << 40),
		"tick\n":                                   tick,
		"fall 1\n":                                 {Kind: api.StepFall, A: 1, Keep: []int{}},
		"fall 1 0 -2 3\n":                          {Kind: api.StepFall, A: 1, Keep: []int{0, -2, 3}},
		"arm -1099511627776\n":                     {Kind: api.StepArm, A: -1 << 40},
		"fail 0 -1 2\n":                            {Kind: api.StepFail, B: -1, C: 2},
	} {
		prints(t, "P20.8", want, x)
		prints(t, "P20.8, a line each", want+"tick\n"+want, x, tick, x)
	}
	prints(t, "P20.8, empty lists", "write 0\n", api.Step{Kind: api.StepSubmit, Op: api.Op{Kind: api.OpWrite, Writes: []api.Write{}}, Keep: []int{}})
}

func TestPrintQuotesEveryByte(t *testing.T) {
	for b := range 256 {
		want := "\\x" + strconv.FormatInt(int64(b)|0x100, 16)[1:]
		switch {
		case b == '"' || b == '\\':
			want = "\\" + string([]byte{byte(b)})
		case b >= 0x20 && b <= 0x7e:
			want = string([]byte{byte(b)})
		}
		key := string([]byte{'a', byte(b), byte(b), '1'})
		prints(t, "P20.8", "get 0 \"a"+want+want+"1\"\n", submits(0, api.Op{Kind: api.OpGet, Key: key}))
	}
	prints(t, "P20.8, runes are bytes", "get 0 \"\\xc3\\xa9\"\n", submits(0, api.Op{Kind: api.OpGet, Key: "\u00e9"}))
}

func TestWhatNoTextNamesIsRefused(t *testing.T) {
	op := func(op api.Op) api.Step { return submits(2, op) }
	for _, kind := range []int{0, 7, -1, 8, math.MinInt, math.MaxInt} {
		hasNoText(t, "P20.8, no kind of step", api.Step{Kind: kind})
		hasNoText(t, "P20.8, no kind of step", tick, api.Step{Kind: kind}, tick)
		hasNoText(t, "P20.8, no kind of operation", tick, op(api.Op{Kind: kind}))
	}
	hasNoText(t, "P20.8, the Val of a delete", op(api.Op{Kind: api.OpWrite, Writes: []api.Write{{Key: "a", Del: true, Val: "v"}}}))
	for _, c := range []struct {
		x     api.Step
		names string // the fields that it names
	}{
		{op(api.Op{Kind: api.OpWrite}), "A Writes Sync"},
		{op(api.Op{Kind: api.OpSync}), "A"},
		{op(api.Op{Kind: api.OpGet}), "A Key Snap"},
		{op(api.Op{Kind: api.OpScan}), "A Key To N Snap"},
		{op(api.Op{Kind: api.OpSnap}), "A"},
		{op(api.Op{Kind: api.OpRelease}), "A Snap"},
		{does(0), "A"},
		{tick, ""},
		{api.Step{Kind: api.StepFall}, "A Keep"},
		{api.Step{Kind: api.StepArm}, "A"},
		{api.Step{Kind: api.StepFail}, "A B C"},
	} {
		for field, change := range map[string]func(x *api.Step){
			"A":      func(x *api.Step) { x.A = 1 },
			"B":      func(x *api.Step) { x.B = 1 },
			"C":      func(x *api.Step) { x.C = -1 },
			"Keep":   func(x *api.Step) { x.Keep = []int{0} },
			"Writes": func(x *api.Step) { x.Op.Writes = []api.Write{{}} },
			"Sync":   func(x *api.Step) { x.Op.Sync = true },
			"Key":    func(x *api.Step) { x.Op.Key = "\x00" },
			"To":     func(x *api.Step) { x.Op.To = "\x00" },
			"N":      func(x *api.Step) { x.Op.N = 1 },
			"Snap":   func(x *api.Step) { x.Op.Snap = 1 },
		} {
			x := c.x
			change(&x)
			if !slices.Contains(strings.Fields(c.names), field) {
				hasNoText(t, "P20.8, it doesn't name "+field, tick, x)
			} else if text, err := Print([]api.Step{tick, x}); err != nil || !strings.HasPrefix(text, "tick\n") {
				t.Errorf("P20.8, it names %s: Print(%v): %q, %v", field, x, text, err)
			}
		}
		if c.x.Kind != api.StepSubmit {
			c.x.Op.Kind = api.OpSync
			hasNoText(t, "P20.8, it names no operation", c.x)
		}
	}
}

func TestNumbersThatAreTooGreatHaveNoText(t *testing.T) {
	for _, n := range []int{1<<40 + 1, -1<<40 - 1, math.MaxInt, math.MinInt} {
		for _, x := range []api.Step{
			does(n), {Kind: api.StepArm, A: n}, {Kind: api.StepFail, A: n}, {Kind: api.StepFail, B: n}, {Kind: api.StepFail, C: n}, {Kind: api.StepFall, A: n}, {Kind: api.StepFall, Keep: []int{0, n}},
			submits(n, api.Op{Kind: api.OpSync}), submits(0, api.Op{Kind: api.OpGet, Snap: n}), submits(0, api.Op{Kind: api.OpScan, N: n}), submits(0, api.Op{Kind: api.OpScan, Snap: n}), submits(0, api.Op{Kind: api.OpRelease, Snap: n}),
		} {
			hasNoText(t, "P20.8, "+strconv.Itoa(n), x)
		}
	}
}

func TestPrintHasABound(t *testing.T) {
	l := make([]api.Step, 13107)
	for i := range l {
		l[i] = does(0)
	}
	l[5] = does(10)
	if text, err := Print(l); len(text) != api.MaxScriptText || err != nil {
		t.Errorf("P20.8, 65536 bytes: %d, %v", len(text), err)
	}
	l[6] = does(10)
	hasNoText(t, "P20.8, 65537 bytes", l...)
	hasNoText(t, "P20.8, too many steps", make([]api.Step, api.MaxSteps+1)...)
	key := strings.Repeat("a", api.MaxScriptText-len("get 0 \"\"\n"))
	if text, err := Print([]api.Step{submits(0, api.Op{Kind: api.OpGet, Key: key})}); len(text) != api.MaxScriptText || err != nil {
		t.Errorf("P20.8, 65536 bytes of a key: %d, %v", len(text), err)
	}
	hasNoText(t, "P20.8, 65537 bytes of a key", submits(0, api.Op{Kind: api.OpGet, Key: key + "a"}))
	hasNoText(t, "P20.8, escapes count", submits(0, api.Op{Kind: api.OpGet, Key: key[1:] + "\""}), tick)
	great := strings.Repeat("\x00", 1<<24)
	for _, op := range []api.Op{{Kind: api.OpGet, Key: great}, {Kind: api.OpScan, To: great}, {Kind: api.OpWrite, Writes: []api.Write{put(great, "")}}, {Kind: api.OpWrite, Writes: []api.Write{put("", great)}}, {Kind: api.OpWrite, Writes: make([]api.Write, 1<<20)}} {
		if text, err := Print([]api.Step{submits(0, op)}); text != "" || err != error(api.ErrScriptPrint) {
			t.Errorf("P20.8, a great operation: %d bytes, %v", len(text), err)
		}
	}
	if text, err := Print([]api.Step{{Kind: api.StepFall, Keep: make([]int, 1<<20)}}); text != "" || err != error(api.ErrScriptPrint) {
		t.Errorf("P20.8, a great Keep: %d bytes, %v", len(text), err)
	}
}

func TestPrintAndParseGoBackAndForth(t *testing.T) {
	for seed := range int64(10000) {
		l := anySteps(rand.New(rand.NewSource(seed)))
		text, err := Print(l)
		if err != nil {
			t.Fatalf("P20.8: Print(%v): %v", l, err)
		}
		reads(t, "P20.10", text, l...)
		if again, err := Print(agrees(t, text)); again != text || err != nil {
			t.Fatalf("P20.8: the one text: %q, %q, %v", text, again, err)
		}
	}
	read := 0
	for seed := range int64(10000) {
		r := rand.New(rand.NewSource(seed))
		text, _ := Print(anySteps(r))
		l, err := Parse(bend(r, bend(r, text)))
		if err != nil || len(l) == 0 {
			continue
		}
		read++
		text, err = Print(l)
		if err != nil {
			t.Fatalf("P20.10: Print of what was read, %v: %v", l, err)
		}
		reads(t, "P20.10", text, l...)
	}
	if read < 500 {
		t.Errorf("hardly any text was read: %d", read)
	}
	long, _ := Parse(rep(1000, ticks(20)))
	hasNoText(t, "P20.10, too long a text", long...)
}

func TestPrintLeavesWhatItIsHanded(t *testing.T) {
	l := []api.Step{submits(0, api.Op{Kind: api.OpWrite, Writes: []api.Write{put("a", "b")}}), {Kind: api.StepFall, Keep: []int{3}}, {Kind: 9}}
	want := []api.Step{submits(0, api.Op{Kind: api.OpWrite, Writes: []api.Write{put("a", "b")}}), {Kind: api.StepFall, Keep: []int{3}}, {Kind: 9}}
	hasNoText(t, "P20.8", l...)
	prints(t, "P20.8", "write 0 put \"a\" \"b\"\nfall 0 3\n", l[:2]...)
	if !sameSteps(l, want) {
		t.Errorf("changed: %v", l)
	}
}
