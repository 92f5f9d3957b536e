package script

import (
	"fmt"
	"math/rand"
	"regexp"
	"strconv"
	"strings"
	"testing"

	"scree/api"
)

// The model of Parse splits by regular expressions and reads each line by a small automaton.

var (
	modelSkipped = regexp.MustCompile(`^[ \t]*(#.*)?`)
	modelWord    = regexp.MustCompile(`^[^ \t#"]+`)
	modelQuoted  = regexp.MustCompile(`^"([ !#-\[\]-~]|\\["\\]|\\x[0-9a-f]{2})*"`)
	modelNumber  = regexp.MustCompile(`^(0|-?[1-9][0-9]{0,12})$`)
)

// token: 'w' a word, 'q' a quoted text, 'x' one that can't stand anywhere, 'e' the end.
type token struct {
	kind byte
	text string
	at   int
}

func tokens(line string) []token {
	var l []token
	for at := 0; ; {
		at += len(modelSkipped.FindString(line[at:]))
		rest := line[at:]
		if rest == "" {
			return append(l, token{'e', "", at})
		}
		w, q := modelWord.FindString(rest), modelQuoted.FindString(rest)
		switch {
		case w != "":
			l = append(l, token{'w', w, at})
			at += len(w)
		case q != "":
			said, err := strconv.Unquote(q)
			if err != nil {
				panic(err)
			}
			l = append(l, token{'q', said, at})
			at += len(q)
		default:
			l = append(l, token{'x', "", at})
			at = len(line)
		}
	}
}

func (k token) number() (int, bool) {
	if k.kind != 'w' || !modelNumber.MatchString(k.text) {
		return 0, false
	}
	n, _ := strconv.Atoi(k.text)
	return n, n >= -1<<40 && n <= 1<<40
}

// node: a place of an automaton: where a number, a text, a word leads; whether the line may end.
type node struct {
	number, text int // 0: it may not stand here
	words        map[string]int
	end          bool
}

var automata = map[string][]node{
	"write":   {{number: 1}, {words: map[string]int{"put": 2, "del": 4, "sync": 5}, end: true}, {text: 3}, {text: 1}, {text: 1}, {end: true}},
	"sync":    {{number: 1}, {end: true}},
	"get":     {{number: 1}, {text: 2}, {words: map[string]int{"snap": 3}, end: true}, {number: 4}, {end: true}},
	"scan":    {{number: 1}, {text: 2}, {text: 3}, {number: 4}, {words: map[string]int{"snap": 5}, end: true}, {number: 6}, {end: true}},
	"snap":    {{number: 1}, {end: true}},
	"release": {{number: 1}, {number: 2}, {end: true}},
	"do":      {{number: 1}, {end: true}},
	"tick":    {{end: true}},
	"fall":    {{number: 1}, {number: 1, end: true}},
	"arm":     {{number: 1}, {end: true}},
	"fail":    {{number: 1}, {number: 2}, {number: 3}, {end: true}},
	"repeat":  {{number: 1}, {end: true}},
	"end":     {{end: true}},
}

// goes goes through an automaton: the fault's place and number (0: none).
func goes(nodes []node, l []token) (int, int) {
	at := 0
	for _, k := range l {
		n := nodes[at]
		switch _, isNumber := k.number(); {
		case k.kind == 'e' && n.end:
			return 0, 0
		case k.kind == 'e':
			return k.at, 204
		case k.kind == 'x':
			return k.at, 200
		case n.number > 0 && !isNumber:
			return k.at, 201
		case n.number > 0:
			at = n.number
		case n.text > 0 && k.kind == 'q':
			at = n.text
		case k.kind == 'w' && n.words[k.text] > 0:
			at = n.words[k.text]
		default:
			return k.at, 200
		}
	}
	panic("no end")
}

// built makes the step of a line without a fault.
func built(l []token) api.Step {
	var n []int
	var texts []string
	var words []string
	var writes []api.Write
	for i, k := range l[1:] {
		if x, ok := k.number(); ok {
			n = append(n, x)
		} else if k.kind == 'q' {
			texts = append(texts, k.text)
		} else if k.kind == 'w' {
			words = append(words, k.text)
		}
		switch {
		case k.kind == 'w' && k.text == "put":
			writes = append(writes, api.Write{Key: l[i+2].text, Val: l[i+3].text})
		case k.kind == 'w' && k.text == "del":
			writes = append(writes, api.Write{Key: l[i+2].text, Del: true})
		}
	}
	n = append(n, 0, 0, 0, 0)
	texts = append(texts, "", "")
	x := api.Step{A: n[0]}
	switch l[0].text {
	case "write":
		x.Op = api.Op{Kind: 1, Writes: writes, Sync: len(words) > 0 && words[len(words)-1] == "sync"}
	case "sync":
		x.Op = api.Op{Kind: 2}
	case "get":
		x.Op = api.Op{Kind: 3, Key: texts[0], Snap: n[1]}
	case "scan":
		x.Op = api.Op{Kind: 4, Key: texts[0], To: texts[1], N: n[1], Snap: n[2]}
	case "snap":
		x.Op = api.Op{Kind: 5}
	case "release":
		x.Op = api.Op{Kind: 6, Snap: n[1]}
	case "do":
		return api.Step{Kind: 2, A: n[0]}
	case "tick":
		return api.Step{Kind: 3}
	case "fall":
		return api.Step{Kind: 4, A: n[0], Keep: n[1 : len(n)-4]}
	case "arm":
		return api.Step{Kind: 5, A: n[0]}
	case "fail":
		return api.Step{Kind: 6, A: n[0], B: n[1], C: n[2]}
	}
	x.Kind = 1
	return x
}

// modelParse tells the steps, and the fault as place does.
func modelParse(text string) ([]api.Step, string) {
	if len(text) > 65536 {
		return nil, "1 0 202"
	}
	lines := strings.Split(text, "\n")
	var ahead, body []api.Step
	times := 0
	for i, line := range lines {
		at, err, step := modelLine(tokens(line), len(ahead), len(body), times)
		if err != 0 {
			return nil, fmt.Sprint(i+1, " ", at, " ", err)
		}
		switch {
		case step == nil:
		case step[0].text == "repeat":
			times, _ = step[1].number()
		case step[0].text == "end":
			for range times {
				ahead = append(ahead, body...)
			}
			times, body = 0, nil
		case times > 0:
			body = append(body, built(step))
		default:
			ahead = append(ahead, built(step))
		}
	}
	if times > 0 {
		return nil, fmt.Sprint(len(lines), " ", len(lines[len(lines)-1]), " ", 204)
	}
	return ahead, "ok"
}

// modelLine tells a line's fault, or what stands in it.
func modelLine(l []token, ahead, body, times int) (int, int, []token) {
	first := l[0]
	if first.kind == 'e' {
		return 0, 0, nil
	}
	nodes := automata[first.text]
	switch {
	case first.kind != 'w' || nodes == nil:
		return first.at, 200, nil
	case first.text == "repeat" && times > 0 || first.text == "end" && times == 0:
		return first.at, 200, nil
	case first.text == "end" && ahead+times*body > 20000:
		return first.at, 203, nil
	case first.text != "repeat" && first.text != "end" && ahead+body+1 > 20000:
		return first.at, 203, nil
	}
	if n, ok := l[min(1, len(l)-1)].number(); first.text == "repeat" && ok && (n < 1 || n > 1000) {
		return l[1].at, 201, nil
	}
	if at, err := goes(nodes, l[1:]); err != 0 {
		return at, err, nil
	}
	return 0, 0, l
}

// agrees holds Parse against the model.
func agrees(t *testing.T, text string) []api.Step {
	t.Helper()
	l, err := Parse(text)
	want, fault := modelParse(text)
	if got := place(t, err); got != fault || !sameSteps(l, want) {
		t.Fatalf("P20.1 to P20.7: Parse(%.2000q): %.500s, %s, want %.500s, %s", text, fmt.Sprint(l), got, fmt.Sprint(want), fault)
	}
	return l
}

// words of random lines: all that a line may hold, and much that it may not.
var soup = strings.Fields(`write sync get scan snap release do tick fall arm fail repeat end put del put del snap sync 0 1 2 3 -1 10 1000 1001 01 -0 +1 1099511627776 1099511627777 -1099511627776 x "a" "a" "" "\x00" "\"" "\\" "\xff" "\xFF" "\q" "a#b" " # " #c " "` + " go Tick \"\u00e9\" \u00e9 \xff \"\xff\" 1x \"x")

func anySoup(r *rand.Rand) string {
	var b strings.Builder
	for range r.Intn(12) {
		for range r.Intn(7) {
			b.WriteString(soup[r.Intn(len(soup))])
			b.WriteString([]string{" ", " ", " ", "\t", "  ", ""}[r.Intn(6)])
		}
		b.WriteString("\n")
	}
	return b.String()
}

// anyText: a key or a value of any bytes.
func anyText(r *rand.Rand) string {
	b := make([]byte, r.Intn(4))
	for i := range b {
		b[i] = byte(r.Intn(256))
	}
	return string(b)
}

// anyNumber: one that a text may hold.
func anyNumber(r *rand.Rand) int {
	switch r.Intn(6) {
	case 0:
		return []int{1 << 40, -1 << 40, 0, -1}[r.Intn(4)]
	case 1:
		return r.Intn(1<<41) - 1<<40
	}
	return r.Intn(12)
}

// anyStep: a step that has a text.
func anyStep(r *rand.Rand) api.Step {
	n := func() int { return anyNumber(r) }
	switch kind := 1 + r.Intn(6); kind {
	case api.StepSubmit:
		return submits(n(), anyOp(r))
	case api.StepFall:
		x := api.Step{Kind: kind, A: n()}
		for range r.Intn(4) {
			x.Keep = append(x.Keep, n())
		}
		return x
	case api.StepTick:
		return tick
	case api.StepFail:
		return api.Step{Kind: kind, A: n(), B: n(), C: n()}
	default:
		return api.Step{Kind: kind, A: n()}
	}
}

func anyOp(r *rand.Rand) api.Op {
	op := api.Op{Kind: 1 + r.Intn(6)}
	switch op.Kind {
	case api.OpWrite:
		op.Sync = r.Intn(2) == 0
		for range r.Intn(4) {
			if w := put(anyText(r), anyText(r)); r.Intn(3) > 0 {
				op.Writes = append(op.Writes, w)
			} else {
				op.Writes = append(op.Writes, del(w.Key))
			}
		}
	case api.OpGet:
		op.Key, op.Snap = anyText(r), anyNumber(r)
	case api.OpScan:
		op.Key, op.To, op.N, op.Snap = anyText(r), anyText(r), anyNumber(r), anyNumber(r)
	case api.OpRelease:
		op.Snap = anyNumber(r)
	}
	return op
}

func anySteps(r *rand.Rand) []api.Step {
	var l []api.Step
	for range r.Intn(8) {
		l = append(l, anyStep(r))
	}
	return l
}

func TestAnyTextIsReadAsTheModelReadsIt(t *testing.T) {
	for seed := range int64(15000) {
		agrees(t, anySoup(rand.New(rand.NewSource(seed))))
	}
}

func TestBentScriptsAreReadAsTheModelReadsThem(t *testing.T) {
	faults := map[string]int{}
	for seed := range int64(15000) {
		r := rand.New(rand.NewSource(seed))
		text, err := Print(anySteps(r))
		if err != nil {
			t.Fatalf("P20.8: seed %d: %v", seed, err)
		}
		agrees(t, text)
		for range r.Intn(4) {
			text = bend(r, text)
		}
		agrees(t, text)
		_, fault := modelParse(text)
		faults[fault[strings.LastIndexByte(fault, ' ')+1:]]++
	}
	for _, fault := range []string{"ok", "200", "201", "204"} {
		if faults[fault] < 100 {
			t.Errorf("hardly any text of fault %s: %v", fault, faults)
		}
	}
}

// bend changes a text a little.
func bend(r *rand.Rand, text string) string {
	if text == "" {
		return "\n"
	}
	at := r.Intn(len(text))
	switch r.Intn(7) {
	case 0:
		return text[:at] + text[at+1:]
	case 1:
		return text[:at] + string([]byte{" \t#\"\\\n\rx019-\x00\x7f\x80"[r.Intn(15)]}) + text[at:]
	case 2:
		return text[:at]
	case 3:
		return text[:at] + " " + soup[r.Intn(len(soup))] + " " + text[at:]
	case 4:
		return text[at:] + text[:at]
	}
	lines := strings.SplitAfter(text, "\n")
	k := r.Intn(len(lines))
	switch r.Intn(3) {
	case 0:
		lines[k] = "repeat " + strconv.Itoa(r.Intn(5)) + "\n" + lines[k] + "end\n"
	case 1:
		lines[k] += "end\n"
	case 2:
		lines[k] += "repeat 3 # so often\n"
	}
	return strings.Join(lines, "")
}
