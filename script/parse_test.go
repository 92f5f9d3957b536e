package script

import (
	"math/rand"
	"slices"
	"strconv"
	"strings"
	"testing"

	"scree/api"
)

func TestExampleOne(t *testing.T) {
	text := "write 0 put \"a\" \"1\" del \"b\\x00\" sync   # two writes\nrepeat 2\ndo 0\ntick\nend\nscan 1 \"\" \"z\" 10 snap 3\nfall 2 5 -1\n"
	want := []api.Step{
		submits(0, api.Op{Kind: api.OpWrite, Writes: []api.Write{put("a", "1"), del("b\x00")}, Sync: true}),
		does(0), tick, does(0), tick,
		submits(1, api.Op{Kind: api.OpScan, To: "z", N: 10, Snap: 3}),
		{Kind: api.StepFall, A: 2, Keep: []int{5, -1}},
	}
	reads(t, "example 1", text, want...)
	prints(t, "example 1", "write 0 put \"a\" \"1\" del \"b\\x00\" sync\ndo 0\ntick\ndo 0\ntick\nscan 1 \"\" \"z\" 10 snap 3\nfall 2 5 -1\n", want...)
}

func TestExampleTwo(t *testing.T) {
	for text, want := range map[string]string{
		"do": "1 2 204", "do x": "1 3 201", "do 01": "1 3 201", "do 1 2": "1 5 200", `get 0 a`: "1 6 200", `get 0 "a`: "1 6 200", "go 1": "1 0 200", "end": "1 0 200", "repeat 0": "1 7 201", "repeat 2": "1 8 204",
		`write 0 sync put "a" "b"`: "1 13 200", "fall 2 x": "1 7 201", `fall 2 "x`: "1 7 200", "write 0 x": "1 8 200", `get 0 "a" 3`: "1 10 200", `get 0 "a" snap`: "1 14 204", "": "ok",
	} {
		refuses(t, "example 2", text, want)
	}
}

func TestRows(t *testing.T) {
	op := func(op api.Op) api.Step { return submits(-3, op) }
	for text, want := range map[string]api.Step{
		`write -3`:                                op(api.Op{Kind: api.OpWrite}),
		`write -3 sync`:                           op(api.Op{Kind: api.OpWrite, Sync: true}),
		`write -3 put "a" "b"`:                    op(api.Op{Kind: api.OpWrite, Writes: []api.Write{put("a", "b")}}),
		`write -3 del "a"sync`:                    op(api.Op{Kind: api.OpWrite, Writes: []api.Write{del("a")}, Sync: true}),
		`write -3del""`:                           {},
		`write -3 del""del""`:                     op(api.Op{Kind: api.OpWrite, Writes: []api.Write{del(""), del("")}}),
		`write -3 put"""sync"sync`:                op(api.Op{Kind: api.OpWrite, Writes: []api.Write{put("", "sync")}, Sync: true}),
		`write -3 put "b" "" del "b" put "b" "c"`: op(api.Op{Kind: api.OpWrite, Writes: []api.Write{put("b", ""), del("b"), put("b", "c")}}),
		`sync -3`:                                 op(api.Op{Kind: api.OpSync}),
		`get -3 ""`:                               op(api.Op{Kind: api.OpGet}),
		`get -3 "a" snap 0`:                       op(api.Op{Kind: api.OpGet, Key: "a"}),
		`get -3 "a" snap -7`:                      op(api.Op{Kind: api.OpGet, Key: "a", Snap: -7}),
		`scan -3 "a" "b" 0`:                       op(api.Op{Kind: api.OpScan, Key: "a", To: "b"}),
		`scan -3 "" "" -2 snap 9`:                 op(api.Op{Kind: api.OpScan, N: -2, Snap: 9}),
		`snap -3`:                                 op(api.Op{Kind: api.OpSnap}),
		`release -3 4`:                            op(api.Op{Kind: api.OpRelease, Snap: 4}),
		`do -3`:                                   does(-3),
		`tick`:                                    tick,
		`fall -3`:                                 {Kind: api.StepFall, A: -3},
		`fall 0 1 0 -1 1099511627776`:             {Kind: api.StepFall, Keep: []int{1, 0, -1, 1 << 40}},
		`arm -3`:                                  {Kind: api.StepArm, A: -3},
		`fail -3 4 -5`:                            {Kind: api.StepFail, A: -3, B: 4, C: -5},
		"\t fail\t-3   4\t \t-5 \t# 6 \"":         {Kind: api.StepFail, A: -3, B: 4, C: -5},
	} {
		if want.Kind == 0 {
			refuses(t, "P20.5", text, "1 6 201")
			continue
		}
		reads(t, "P20.5", text, want)
		reads(t, "P20.5, line by line", "\n"+text+"\n\ntick\n"+text, want, tick, want)
	}
	many := "write 0" + strings.Repeat(` put "k" "v"`, 2000)
	if l, err := Parse(many); err != nil || len(l) != 1 || len(l[0].Op.Writes) != 2000 {
		t.Errorf("P20.5: a write of 2000 puts: %v", err)
	}
}

// whole: a line of each row, each with all that it may hold, and what is wanted at each of its pieces: `w` a word, `n` a number, `t` a text; great letters where the line may end ahead of it.
var whole = map[string]string{
	`write 0 put "a" "b" del "c" sync`: "wnWttWtW",
	`write 0 del "c" put "a" "b"`:      "wnWtWtt",
	`sync 0`:                           "wn",
	`get 0 "a" snap 1`:                 "wntWn",
	`scan 0 "a" "b" 2 snap 1`:          "wnttnWn",
	`snap 0`:                           "wn",
	`release 0 1`:                      "wnn",
	`do 0`:                             "wn",
	`tick`:                             "w",
	`fall 0 1 2`:                       "wnNN",
	`arm 0`:                            "wn",
	`fail 0 1 2`:                       "wnnn",
	`repeat 3`:                         "wn",
}

func TestEveryPieceMayBeWrong(t *testing.T) {
	for line, wants := range whole {
		pieces := strings.Fields(line)
		at := 0
		for i, want := range strings.ToLower(wants) {
			here := func(err int) string { return "1 " + strconv.Itoa(at) + " " + strconv.Itoa(err) }
			err := 200
			if want == 'n' {
				err = 201
			}
			head := strings.Join(pieces[:i], " ")
			if i > 0 {
				head += " "
			}
			refuses(t, "P20.3, a wrong word", head+"go \"", here(err))
			refuses(t, "P20.3, a broken text", head+`"\" x`, here(200))
			if want != 't' {
				refuses(t, "P20.3, a text", head+`"snap" x`, here(err))
			}
			if want != 'n' {
				refuses(t, "P20.3, a number", head+`0 x`, here(err))
			}
			if wants[i] >= 'a' && i > 0 {
				refuses(t, "P20.3, the line ends", head, here(204))
				refuses(t, "P20.3, the line ends, passed over", head+" #\u00e9\nx", "1 "+strconv.Itoa(at+4)+" 204")
			} else if i > 0 {
				refuses(t, "P20.5, the line may end", head, "ok")
			}
			at += len(pieces[i]) + 1
		}
		for _, behind := range []string{"x", `""`, `"`, "put", "snap", "0"} {
			want := "1 " + strconv.Itoa(at) + " 200"
			switch {
			case pieces[0] == "fall" && behind == "0":
				continue
			case pieces[0] == "fall" && behind != `"`:
				want = "1 " + strconv.Itoa(at) + " 201"
			case pieces[0] == "write" && !strings.HasSuffix(line, "sync") && behind == "put":
				want = "1 " + strconv.Itoa(at+3) + " 204"
			}
			refuses(t, "P20.3, behind the last", line+" "+behind, want)
		}
	}
}

func TestRepeats(t *testing.T) {
	reads(t, "P20.5", "repeat 1\ntick\nend", tick)
	reads(t, "P20.5, no body", "repeat 1000\n#\n\nend\n")
	reads(t, "P20.5, what stands around", "do 1\nrepeat 3\ndo 2\n\ndo 3 # x\nend # repeat\ndo 4\nrepeat 2\ntick\nend", does(1), does(2), does(3), does(2), does(3), does(2), does(3), does(4), tick, tick)
	if l, err := Parse("repeat 1000\ntick\nend"); len(l) != 1000 || err != nil {
		t.Errorf("P20.5: %d steps, %v", len(l), err)
	}
	for text, want := range map[string]string{
		"repeat": "1 6 204", "repeat 0": "1 7 201", "repeat -1": "1 7 201", "repeat 1001": "1 7 201", "repeat x": "1 7 201", `repeat "2"`: "1 7 201", `repeat "2`: "1 7 200", "repeat 2 2": "1 9 200", "repeat 0 x": "1 7 201", `repeat 2 "`: "1 9 200",
		"repeat 1000\n": "2 0 204", "repeat 2\ntick\n  ": "3 2 204", "repeat 2\n# end": "2 5 204", "repeat 2 # end": "1 14 204", "repeat 2\nend\nrepeat 2\n": "4 0 204",
		"repeat 2\nrepeat 2\nend\nend": "2 0 200", "repeat 2\n repeat": "2 1 200", "repeat 2\nrepeat 0": "2 0 200", "repeat 2\nx": "2 0 200", "repeat 2\ntick x": "2 5 200", "repeat 2\nend\nend": "3 0 200",
		"end": "1 0 200", "tick\n\tend x": "2 1 200", "end \"": "1 0 200", "repeat 2\nend 1": "2 4 200", "repeat 2\ntick\nend \"": "3 4 200", "repeat 2\nend\nrepeat 2\nend\n x": "5 1 200",
	} {
		refuses(t, "P20.5", text, want)
	}
}

func TestScriptTextHasABound(t *testing.T) {
	text := ticks(13107) + "#"
	if l, err := Parse(text); len(text) != api.MaxScriptText || len(l) != 13107 || err != nil {
		t.Errorf("P20.5, 65536 bytes: %d steps, %v", len(l), err)
	}
	refuses(t, "P20.5, 65537 bytes", text+"#", "1 0 202")
	refuses(t, "P20.5, 65537 bytes, whatever they are", "x"+text, "1 0 202")
	refuses(t, "P20.5, bytes, not runes", "#"+strings.Repeat("\u00e9", 1<<15), "1 0 202")
}

// rep: a body so often.
func rep(n int, body string) string { return "repeat " + strconv.Itoa(n) + "\n" + body + "end\n" }

func TestStepsHaveABound(t *testing.T) {
	full := rep(1000, ticks(20))
	at := func(text string, more int, behind string) string {
		return strconv.Itoa(strings.Count(text, "\n")+1+more) + behind
	}
	for _, text := range []string{full, rep(1, "") + full, rep(999, ticks(20)) + ticks(20), rep(1000, ticks(10)) + rep(1000, ticks(10))} {
		if l, err := Parse(text); len(l) != api.MaxSteps || err != nil {
			t.Errorf("P20.6: %d steps, %v", len(l), err)
		}
		for line, want := range map[string]string{
			"tick": " 0 203", "  tick x": " 2 203", "do x": " 0 203", "do": " 0 203", `get 0 "`: " 0 203", "write": " 0 203",
			"go 1": " 0 200", `"tick"`: " 0 200", `"tick`: " 0 200", "repeat x": " 7 201", "repeat 2 x": " 9 200", "end": " 0 200", "tick1": " 0 200",
		} {
			refuses(t, "P20.6, more steps", text+line, at(text, 0, want))
		}
		refuses(t, "P20.6, no more steps", text+"# tick\n"+rep(1000, ""), "ok")
		refuses(t, "P20.6, more within a repeat", text+"repeat 1\n\n tick \"\nx", at(text, 2, " 1 203"))
	}
	refuses(t, "P20.6, at the end", rep(1000, ticks(21)), "23 0 203")
	refuses(t, "P20.6, ahead of what is behind it", "repeat 1000\n"+ticks(21)+" end x", "23 1 203")
	refuses(t, "P20.6, another fault ahead", "repeat 1000\n"+ticks(21)+"x\nend", "23 0 200")
	refuses(t, "P20.6, no end", "repeat 1000\n"+ticks(21), "23 0 204")
	refuses(t, "P20.6, what stands ahead counts", "tick\n"+rep(1000, ticks(20)), "23 0 203")
	refuses(t, "P20.6, an end behind it", rep(1000, ticks(20))+"repeat 1\nend x", "24 4 200")
	almost := rep(999, ticks(20)) + ticks(10)
	refuses(t, "P20.6, a body once", almost+rep(1, ticks(10)), "ok")
	refuses(t, "P20.6, a body once, one step too many", almost+rep(1, ticks(11)), at(almost, 11, " 0 203"))
	refuses(t, "P20.6, a body twice", almost+rep(2, ticks(5)), "ok")
	refuses(t, "P20.6, a body twice, one step too many", almost+rep(2, ticks(6)), at(almost, 7, " 0 203"))
}

func TestStepsShareNoMemory(t *testing.T) {
	text := "repeat 3\nwrite 0 put \"a\" \"1\" del \"b\"\nfall 1 2 3 4\nwrite 1 del \"c\"\nend\nwrite 2 del \"d\"\nfall 0 9"
	for i := range 11 {
		l, err := Parse(text)
		again, _ := Parse(text)
		if err != nil || len(l) != 11 || !sameSteps(l, again) {
			t.Fatalf("P20.7: %v, %v", l, err)
		}
		for k := range l[i].Keep {
			l[i].Keep[k] = 77
		}
		for k := range l[i].Op.Writes {
			l[i].Op.Writes[k] = put("x", "y")
		}
		fill(l[i].Keep, 77)
		fill(l[i].Op.Writes, put("x", "y"))
		l[i], again[i] = tick, tick
		if !sameSteps(l, again) {
			t.Errorf("P20.7: step %d is another one's memory: %v", i, l)
		}
	}
}

// fill writes into a list's spare room.
func fill[T any](l []T, x T) {
	for rest := l[len(l):cap(l)]; len(rest) > 0; rest = rest[1:] {
		rest[0] = x
	}
}

func TestWhatStandsBehindAFaultDoesntBearOnIt(t *testing.T) {
	for _, text := range []string{"do x\n", "tick\n\tdo\n", "repeat 2\n\nrepeat\n", "get 0 \"a\n", "end\n", rep(1000, ticks(21)), rep(1000, ticks(20)) + "tick\n"} {
		_, err := Parse(text)
		want := place(t, err)
		for _, behind := range []string{"x", "end", "repeat 2", "\"", "tick\ndo 1\n#", "\x00\xff", "repeat 2\nend\nend"} {
			refuses(t, "P20.11", text+behind, want)
		}
		refuses(t, "P20.11, but for the bound", text+"#"+strings.Repeat("x", api.MaxScriptText), "1 0 202")
	}
}

func TestWhatIsPassedOverChangesNothing(t *testing.T) {
	for seed := range int64(2000) {
		r := rand.New(rand.NewSource(seed))
		l := anySteps(r)
		text, _ := Print(l)
		reads(t, "P20.10", text, l...)
		var b strings.Builder
		for line := range strings.Lines(text) {
			b.WriteString([]string{"", "\n", " \t# x \"\n", "#\n\n"}[r.Intn(4)])
			b.WriteString([]string{"", " ", "\t \t"}[r.Intn(3)])
			b.WriteString(strings.TrimSuffix(line, "\n"))
			b.WriteString([]string{"\n", " \n", "\t# y\n", "#\"\n"}[r.Intn(4)])
		}
		reads(t, "P20.10", b.String(), l...)
		n := 1 + r.Intn(3)
		reads(t, "P20.10, a repeat is its body so often", rep(n, text), slices.Repeat(l, n)...)
	}
}
