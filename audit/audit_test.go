package audit

import (
	"bytes"
	"math"
	"runtime"
	"slices"
	"strings"
	"testing"
	"time"

	"scree/api"
	"scree/log"
	"scree/manifest"
)

func TestEmpty(t *testing.T) {
	answers(t, "P21.1: no files", nil, "", "")
	l := []api.File{logFile(3, group(1, "a1")), made(t, 0, 4, put("a", 1, "x")).File, file("m-000000000002", []byte("?")), file("new", manifest.Current("m-000000000002")), file("Current", []byte("?")), {}}
	answers(t, "P21.1: no current, whatever else there is", l, "", "")
}

func TestNumbers(t *testing.T) {
	right := rooted(2, api.Roots{Log: 6}, made(t, 0, 5, put("a", 1, "x")))
	for _, kind := range []string{"l", "m", "t"} {
		at, above := number12(kind, lastFile), number12(kind, lastFile+1)
		answers(t, "P21.1: the greatest number", with(right, file(at, nil)), "a=x", "")
		answers(t, "P21.1: above it", with(right, file(above, nil)), "!180", short(above)+"!180")
		answers(t, "P21.1: above it, of an empty directory", []api.File{file(above, nil)}, "!180", short(above)+"!180")
	}
	answers(t, "P21.4: all names", []api.File{file("t-999999999999", nil), file("l-999000000000", nil), file("m-999999999998", nil)}, "!180", "l-999000000000!180 m-999999999998!180 t-999999999999!180")
	answers(t, "P21.1: no names of these kinds", with(right, file("k-999999999999", nil), file("l-9999999999999", nil), file("t-99999999999", nil), file("L-999999999999", nil)), "a=x", "")
	answers(t, "P21.4: a number, and current", []api.File{file("current", nil), file("t-999999999999", nil)}, "!180", "current!140 t-999999999999!180")
	answers(t, "P21.4: a number is told ahead of what is wrong with the file", []api.File{file("current", manifest.Current("m-999999999999")), file("m-999999999999", []byte("?"))}, "!180", "m-999999999999!180")
	far := append(rooted(999_999_999_999, api.Roots{Log: 6}, made(t, 0, 5, put("a", 1, "x"))), logFile(999_999_999_998, []byte{0x80}))
	answers(t, "P21.4: what such names lead to is read", changed(far, "t-000000000005", nil), "!180", "l-999999999998!180 m-999999999999!180 t-5!102")
}

func TestCurrent(t *testing.T) {
	right := rooted(2, api.Roots{}, made(t, 0, 5, put("a", 1, "x")))
	answers(t, "P21.3", right, "a=x", "")
	for what, b := range map[string][]byte{
		"no bytes":          nil,
		"three bytes":       {0, 0, 0},
		"a name alone":      []byte("m-000000000002"),
		"one byte more":     append(manifest.Current("m-000000000002"), 0),
		"one byte less":     manifest.Current("m-000000000002")[:18],
		"a log":             manifest.Current("l-000000000002"),
		"a name that isn't": manifest.Current("m-2"),
	} {
		answers(t, "P21.1: current: "+what, changed(right, "current", b), "!140", "current!140")
	}
	answers(t, "P21.1: no such manifest", without(right, "m-000000000002"), "!141", "current!141")
	answers(t, "P21.1: another one", with(without(right, "m-000000000002"), file("m-000000000003", right[1].Data)), "!141", "current!141")
	answers(t, "P21.4: nothing else is read then", without(right, "m-000000000002", "t-000000000005"), "!141", "current!141")
}

func TestManifest(t *testing.T) {
	right := rooted(2, api.Roots{}, made(t, 0, 5, put("a", 1, "x")))
	manifested := func(l ...api.Edit) []api.File {
		return changed(right, "m-000000000002", manifest.Bytes(0, l...))
	}
	whole := api.Edit{Pointers: make([]string, 3), In: []api.Placed{made(t, 0, 5, put("a", 1, "x")).Placed}}
	answers(t, "P21.1: no bytes", changed(right, "m-000000000002", nil), "!140", "m-2!140")
	answers(t, "P21.1: no edit", changed(right, "m-000000000002", records([]byte("?"))), "!140", "m-2!140")
	answers(t, "P21.1: an edit, and bytes behind it", changed(right, "m-000000000002", append(slices.Clone(right[1].Data), 9)), "a=x", "")
	answers(t, "P21.1: a table goes out that isn't there", manifested(whole, api.Edit{Out: []api.Place{{Level: 1, Number: 5}}, Pointers: make([]string, 3)}), "!130", "m-2!130")
	answers(t, "P21.1: a table comes in twice", manifested(whole, whole), "!131", "m-2!131")
	answers(t, "P21.1: a wrong number of pointers", manifested(api.Edit{Pointers: make([]string, 4)}), "!133", "m-2!133")
	inLevel := func(level int, number uint64) api.Edit {
		x := whole.In[0].Table
		x.Number = number
		return api.Edit{Pointers: make([]string, 3), In: []api.Placed{{Level: level, Table: x}}}
	}
	answers(t, "P21.1: tables that overlap", manifested(inLevel(1, 5), inLevel(1, 6)), "!132", "m-2!132")
	answers(t, "P21.1: no such level", manifested(inLevel(3, 5)), "!133", "m-2!133")
	five := conf
	five.Levels = 5
	l := manifested(api.Edit{Pointers: make([]string, 5), In: inLevel(4, 5).In})
	if a, b := both(five, l); a != "a=x" || b != "" {
		t.Errorf("P21.1: the configuration's levels: %q, %q", a, b)
	}
	answers(t, "P21.1: not so many levels", l, "!133", "m-2!133")
	for _, x := range []struct {
		what    string
		at, far api.Roots
	}{
		{"Log", api.Roots{Log: lastEntry}, api.Roots{Log: lastEntry + 1}},
		{"Next", api.Roots{Next: lastEntry}, api.Roots{Next: lastEntry + 1}},
		{"Seq", api.Roots{Seq: lastEntry}, api.Roots{Seq: lastEntry + 1}},
		{"all", api.Roots{Log: lastEntry, Next: lastEntry, Seq: lastEntry}, api.Roots{Log: math.MaxUint64, Next: math.MaxUint64, Seq: math.MaxUint64}},
	} {
		answers(t, "P21.1: the greatest number of "+x.what, rooted(2, x.at), "", "")
		answers(t, "P21.1: one above, of "+x.what, rooted(2, x.far), "!180", "m-2!180")
	}
	far := rooted(2, api.Roots{Seq: lastEntry + 1})
	more := manifest.Bytes(len(far[1].Data), api.Edit{Pointers: make([]string, 3)})
	answers(t, "P21.1: the last edit's roots count", changed(far, "m-000000000002", append(far[1].Data, more...)), "", "")
	answers(t, "P21.1: the greatest number of a table", manifested(inLevel(2, lastFile)), "!181", "t-"+short(number12("t", lastFile))[2:]+"!181")
	answers(t, "P21.1: one above", manifested(inLevel(0, 5), inLevel(2, lastFile+1)), "!180", "m-2!180")
	gone := inLevel(2, lastFile+1)
	gone.Out, gone.In = []api.Place{{Level: 2, Number: lastFile + 1}}, nil
	answers(t, "P21.1: one above that went out again", manifested(inLevel(0, 5), inLevel(2, lastFile+1), gone), "a=x", "")
}

// shelves: tables of all levels.
func shelves(t *testing.T) []shelf {
	return []shelf{
		made(t, 0, 9, put("a", 1, "x"), put("b", 2, "x")),
		made(t, 0, 4, put("b", 3, "y")),
		made(t, 1, 8, put("c", 1, "z")),
		made(t, 1, 3, put("d", 1, "z")),
		made(t, 2, 5, put("a", 0, "w"), put("e", 1, "w")),
	}
}

func TestTables(t *testing.T) {
	right := rooted(2, api.Roots{}, shelves(t)...)
	answers(t, "P21.3", right, "a=x b=y c=z d=z e=w", "")
	name := func(number uint64) string { return number12("t", number) }
	answers(t, "P21.1: a table that isn't there", without(right, name(8)), "!181", "t-8!181")
	answers(t, "P21.1: an orphan of another kind instead", with(without(right, name(8)), file("l-000000000008", nil)), "!181", "t-8!181")
	answers(t, "P21.1: no bytes", changed(right, name(8), nil), "!102", "t-8!102")
	answers(t, "P21.1: nine bytes", changed(right, name(8), make([]byte, 9)), "!103", "t-8!103")
	turned := slices.Clone(right[4].Data)
	turned[0] ^= 1
	answers(t, "P21.1: a bit", changed(right, name(8), turned), "!103", "t-8!103")
	answers(t, "P21.1: another table's bytes", changed(right, name(8), right[5].Data), "!181", "t-8!181")
	answers(t, "P21.4: all tables", without(right, name(9), name(4), name(8), name(3), name(5)), "!181", "t-3!181 t-4!181 t-5!181 t-8!181 t-9!181")
	answers(t, "P21.1: the first in the order of the levels", changed(changed(without(right, name(3)), name(9), nil), name(8), make([]byte, 9)), "!102", "t-3!181 t-8!103 t-9!102")
	answers(t, "P21.1: the first in the order of a level", changed(changed(right, name(4), make([]byte, 9)), name(9), nil), "!102", "t-4!103 t-9!102")
	answers(t, "P21.1: level 1's order is that of the keys", changed(without(right, name(3)), name(8), nil), "!102", "t-3!181 t-8!102")
	answers(t, "P21.4: as if stage 1 had refused nothing", with(without(right, name(3)), file("m-999999999999", nil)), "!180", "m-999999999999!180 t-3!181")
}

// TestSaidOfTables: a table that isn't just as the version says of it.
func TestSaidOfTables(t *testing.T) {
	for what, change := range map[string]func(*api.Table){
		"Weight":   func(x *api.Table) { x.Weight++ },
		"Bytes":    func(x *api.Table) { x.Bytes-- },
		"Entries":  func(x *api.Table) { x.Entries++ },
		"Least":    func(x *api.Table) { x.Least = "A" },
		"Greatest": func(x *api.Table) { x.Greatest = "bb" },
	} {
		l := shelves(t)[:1]
		change(&l[0].Table)
		answers(t, "P21.1: another "+what, rooted(2, api.Roots{}, l...), "!181", "t-9!181")
	}
}

func TestManyTables(t *testing.T) {
	var l []shelf
	var words []string
	for i := range 200 {
		key := strings.Repeat("k", i/26) + string(rune('a'+i%26))
		l = append(l, made(t, 0, uint64(1000-i), put(key, uint64(i), "v")))
		words = append(words, key+"=v")
	}
	slices.Sort(words)
	right := rooted(2, api.Roots{}, l...)
	answers(t, "P21.3: many tables", right, strings.Join(words, " "), "")
	wrong := changed(without(right, "t-000000000801", "t-000000000950"), "t-000000001000", make([]byte, 9))
	answers(t, "P21.4: many tables", wrong, "!103", "t-801!181 t-950!181 t-1000!103")
}

func TestLogs(t *testing.T) {
	right := rooted(2, api.Roots{Log: 6}, made(t, 0, 5, put("a", 2, "x")))
	answers(t, "P21.2: a log", with(right, logFile(6, group(3, "b1", "", "c2 b-"))), "a=x c=2", "")
	answers(t, "P21.1: logs of lesser numbers aren't wanted", with(right, logFile(5, group(9, "a1"), []byte("?")), logFile(7, group(3, "b1"))), "a=x b=1", "")
	answers(t, "P21.1: logs rise by number, however they are handed in", with([]api.File{logFile(10, group(4, "b2")), logFile(7, group(3, "b1"))}, right...), "a=x b=2", "")
	answers(t, "P21.1: a log of no bytes", with(right, logFile(6), logFile(7, group(3, "b1"))), "a=x b=1", "")
	torn := file("l-000000000006", append(records(group(3, "b1")), 7))
	answers(t, "P21.1: behind a torn log no further one is read", with(right, torn, logFile(7, group(9, "a1"))), "a=x b=1", "l-6!70")
	answers(t, "P21.4: a torn log, no record behind it", with(right, torn, logFile(7), file("l-000000000008", []byte("?"))), "a=x b=1", "")
	answers(t, "P21.4: a torn log, a record far behind it", with(right, torn, logFile(7), file("l-000000000008", append(records(nil), 1))), "a=x b=1", "l-6!70")
	answers(t, "P21.4: a torn log, a record ahead of it", with(right, logFile(6, group(3, "b1")), file("l-000000000007", []byte("?"))), "a=x b=1", "")
	answers(t, "P21.4: a torn log, a record in one that isn't wanted", with(right, torn, logFile(5, group(3, "b1"))), "a=x b=1", "")
	answers(t, "P21.4: the reading ends at the first torn log", with(right, torn, file("l-000000000007", torn.Data), logFile(8, group(3, "c1"))), "a=x b=1", "l-6!70")
	refused := logFile(6, group(3, "b1"), []byte{1, 1, 17}, group(9, "a1"))
	answers(t, "P21.1: a record that is refused", with(right, refused, logFile(7, group(9, "a1"))), "a=x b=1", "l-6!22")
	answers(t, "P21.4: a record that is refused, nothing behind it", with(right, refused), "a=x b=1", "l-6!22")
	both := file("l-000000000006", append(refused.Data, 1))
	answers(t, "P21.4: Get's error comes ahead of ErrLogTorn", with(right, both, logFile(7, group(9, "a1"))), "a=x b=1", "l-6!22")
	answers(t, "P21.4: Get is asked up to the first that it refuses", with(right, logFile(6, []byte{1, 1, 17}, []byte{0x80})), "a=x", "l-6!22")
	for what, x := range map[string]struct {
		rec  []byte
		want string
	}{
		"short":    {group(3, "b1")[:5], "l-6!20"},
		"no bytes": {nil, "l-6!20"},
		"more":     {append(group(3, "b1"), 0), "l-6!21"},
		"no key":   {log.Put(3, [][]api.Write{{{}}}), "l-6!21"},
		"a number": {group(1<<56, "b1"), "l-6!22"},
	} {
		answers(t, "P21.4: a record: "+what, with(right, logFile(6, x.rec)), "a=x", x.want)
	}
	answers(t, "P21.4: logs, whatever tables are refused", with(without(right, "t-000000000005"), refused), "!181", "l-6!22 t-5!181")
}

func TestLogNumbers(t *testing.T) {
	right := rooted(2, api.Roots{Log: 6}, made(t, 0, 5, put("a", 2, "x")))
	answers(t, "P21.1: the greatest number", with(right, logFile(6, group(lastEntry-1, "b1", "c1"))), "a=x b=1 c=1", "")
	far := logFile(6, group(3, "d1"), group(lastEntry-1, "b1", "c1 d1"))
	answers(t, "P21.1: one above", with(right, far), "!180", "l-6!180")
	answers(t, "P21.1: a number without an entry", with(right, logFile(6, group(lastEntry+1, "", ""))), "a=x", "")
	answers(t, "P21.4: no further log is read", with(right, far, logFile(7, []byte{0x80}), far), "!180", "l-6!180")
	answers(t, "P21.1: a number behind a record that is refused", with(right, logFile(6, []byte{0x80}, group(lastEntry+1, "b1"))), "a=x", "l-6!20")
	answers(t, "P21.4: ErrOpenNumber comes ahead of Get's error", with(right, logFile(6, group(lastEntry+1, "b1"), []byte{0x80})), "!180", "l-6!180")
	answers(t, "P21.4: ErrOpenNumber comes ahead of ErrLogTorn", with(right, file("l-000000000006", append(far.Data, 1)), logFile(7, group(3, "b1"))), "!180", "l-6!180")
	answers(t, "P21.1: a log behind a torn one isn't read", with(right, file("l-000000000005", nil), file("l-000000000006", []byte{1}), logFile(7, group(lastEntry+1, "b1"))), "a=x", "l-6!70")
	answers(t, "P21.1: tables come ahead of logs", with(without(right, "t-000000000005"), far), "!181", "l-6!180 t-5!181")
	answers(t, "P21.4: a log of a number too great is read, too", with(right, logFile(999_999_999_998, []byte{0x80}), logFile(999_999_999_999, group(3, "b1"))), "!180", "l-999999999998!180 l-999999999999!180")
	answers(t, "P21.4: a torn log ahead of one of a number too great", with(right, file("l-000000000006", []byte{1}), logFile(999_999_999_999, group(3, "b1"))), "!180", "l-6!70 l-999999999999!180")
}

// TestNewest: which entry of a key counts.
func TestNewest(t *testing.T) {
	for _, x := range []struct {
		what  string
		files []api.File
		want  string
	}{
		{"the greatest number, wherever it stands", rooted(2, api.Roots{}, made(t, 0, 5, put("a", 2, "x")), made(t, 1, 6, put("a", 3, "y")), made(t, 2, 7, put("a", 1, "z"))), "a=y"},
		{"the greatest number is in the last level", rooted(2, api.Roots{}, made(t, 0, 5, put("a", 2, "x")), made(t, 2, 7, put("a", 1<<56-1, "z"))), "a=z"},
		{"the newest is deleted", rooted(2, api.Roots{}, made(t, 0, 5, put("a", 2, "x")), made(t, 2, 6, del("a", 3))), ""},
		{"an older one is deleted", rooted(2, api.Roots{}, made(t, 0, 5, del("a", 2)), made(t, 2, 6, put("a", 3, ""))), "a="},
		{"of one number, level 0's last table", rooted(2, api.Roots{}, made(t, 0, 9, put("a", 2, "x")), made(t, 0, 5, put("a", 2, "y")), made(t, 1, 6, put("a", 2, "z"))), "a=y"},
		{"of one number, level 1 ahead of level 2", rooted(2, api.Roots{}, made(t, 2, 9, put("a", 2, "x")), made(t, 1, 5, del("a", 2))), ""},
		{"of one number, a log ahead of level 0", with(rooted(2, api.Roots{}, made(t, 0, 9, put("a", 2, "x"))), logFile(3, group(2, "ay"))), "a=y"},
		{"of one number, the last log", with(rooted(2, api.Roots{}), logFile(3, group(2, "ax")), logFile(4, group(2, "ay")), logFile(5, group(1, "az"))), "a=y"},
		{"of one number, the last log, that is deleted", with(rooted(2, api.Roots{}), logFile(3, group(2, "ax")), logFile(4, group(2, "a-"))), ""},
		{"of one number in one log, the first", with(rooted(2, api.Roots{}), logFile(3, group(2, "ax"), group(2, "ay"), group(1, "aw", "az"))), "a=x"},
		{"of one number in one log, the first, that is deleted", with(rooted(2, api.Roots{}), logFile(3, group(2, "a-"), group(2, "ay"))), ""},
		{"a lesser number in a later record", with(rooted(2, api.Roots{}), logFile(3, group(9, "ax"), group(2, "ay"))), "a=x"},
		{"a greater number in a log that was read first", with(rooted(2, api.Roots{}), logFile(3, group(9, "ax")), logFile(4, group(8, "ay"))), "a=x"},
		{"later writes of a batch are newer", with(rooted(2, api.Roots{}), logFile(3, group(2, "ax b1 a-", "b2 ay"))), "a=y b=2"},
		{"each key by itself", with(rooted(2, api.Roots{}, made(t, 0, 5, put("a", 9, "x"), put("b", 1, "x"), del("c", 5))), logFile(3, group(2, "ay by cy"))), "a=x b=y"},
	} {
		answers(t, "P21.2: "+x.what, x.files, x.want, "")
	}
}

func TestMapRises(t *testing.T) {
	l := with(rooted(2, api.Roots{}, made(t, 0, 5, put("\x00", 1, "0"), put("a", 1, "1"), put("\xff", 1, "4"))), file("l-000000000003", records(log.Put(2, [][]api.Write{{{Key: "ab", Val: "3"}, {Key: "a\x00", Val: "2"}}}))))
	answers(t, "P21.3: byte by byte", l, "\x00=0 a=1 a\x00=2 ab=3 \xff=4", "")
}

// TestExamples: those of the chapter that stand above by other numbers.
func TestExamples(t *testing.T) {
	answers(t, "P21: example 1", []api.File{file("l-999999999999", nil)}, "!180", "l-999999999999!180")
	answers(t, "P21: example 1", []api.File{file("current", []byte{0, 0, 0})}, "!140", "current!140")
	answers(t, "P21: example 1", []api.File{file("current", manifest.Current("m-000000000002"))}, "!141", "current!141")
	l := with(rooted(2, api.Roots{Log: 1, Next: 3}), logFile(1, group(1, "a1 b a-")))
	answers(t, "P21: example 2", l, "b=", "")
}

// TestFirstOfOneName: of files of one name the first one counts.
func TestFirstOfOneName(t *testing.T) {
	l := with(rooted(2, api.Roots{Log: 3}, made(t, 0, 5, put("a", 1, "x"))), logFile(3, group(2, "b1")))
	for i := range l {
		other := file(l[i].Name, []byte("?"))
		answers(t, "P21.1: first "+other.Name, with(l, other, other), "a=x b=1", "")
		if a, b := both(conf, with([]api.File{other}, l...)); a == "a=x b=1" {
			t.Errorf("P21.1: a second %s counts: %q, %q", other.Name, a, b)
		}
	}
	answers(t, "P21.1: the first log", with([]api.File{logFile(3, group(2, "b2"))}, l...), "a=x b=2", "")
	answers(t, "P21.4: a name is told once", []api.File{file("l-999999999999", nil), file("l-999999999999", nil)}, "!180", "l-999999999999!180")
}

// TestNothingElseShows: P21.6.
func TestNothingElseShows(t *testing.T) {
	right := with(rooted(2, api.Roots{Log: 6}, shelves(t)...), logFile(6, group(7, "a1")), logFile(7, group(8, "b1")))
	wantMap, wantFaults := both(conf, right)
	same := func(what string, files []api.File) {
		t.Helper()
		answers(t, "P21.6: "+what, files, wantMap, wantFaults)
	}
	same("other names", with(right, file("x", []byte("?")), file("", nil), file("t-1", nil), file("current2", nil), file("l-0000000000060", records(group(99, "a9")))))
	same("names that aren't wanted", with(right, file("new", []byte("?")), file("l-000000000005", records(group(99, "a9"))), file("m-000000000009", []byte("?")), file("t-000000000999", []byte("?"))))
	unsure := slices.Clone(right)
	for i := range unsure {
		unsure[i].Sure = i - 3
	}
	same("what is sure", unsure)
	backward := slices.Clone(right)
	slices.Reverse(backward)
	same("the order", backward)
	last := right[len(right)-1].Data
	whole := log.Append(len(last), group(9, "a9"))
	for n := range whole {
		same("bytes behind the last whole record", changed(right, "l-000000000007", slices.Concat(last, whole[:n])))
	}
	other := conf
	other.BlockBytes, other.Restart, other.BloomBits, other.Clients, other.MemBytes = -1, math.MinInt, math.MaxInt, 99, 7
	if a, b := both(other, right); a != wantMap || b != wantFaults {
		t.Errorf("P21.6: Levels alone counts: %q, %q", a, b)
	}
}

// TestNothingIsKept: what is handed in stays as it is, what is answered hangs on nothing, and no worker stays.
func TestNothingIsKept(t *testing.T) {
	l := with(rooted(2, api.Roots{Log: 6}, shelves(t)...), logFile(7, group(8, "b1"), []byte{0x80}), logFile(6, group(7, "a1")), file("m-999999999999", []byte("?")), file("current", []byte("second")))
	kept := slices.Clone(l)
	for i := range kept {
		kept[i].Data = slices.Clone(kept[i].Data)
	}
	goroutines := runtime.NumGoroutine()
	faults := Faults(conf, l)
	Map(conf, l)
	for i, f := range l {
		if f.Name != kept[i].Name || !bytes.Equal(f.Data, kept[i].Data) || f.Sure != kept[i].Sure {
			t.Errorf("DOC: %s was changed", kept[i].Name)
		}
	}
	want := faultsText(faults)
	if want != "l-7!20 m-999999999999!180" {
		t.Errorf("P21.4: %s", want)
	}
	clear(faults[:cap(faults)])
	if got := faultsText(Faults(conf, l)); got != want {
		t.Errorf("DOC: the second answer %q, the first one %q", got, want)
	}
	l = without(l, "m-999999999999")
	pairs, _ := Map(conf, l)
	want = pairsText(pairs)
	clear(pairs[:cap(pairs)])
	again, _ := Map(conf, l)
	for i := range l {
		clear(l[i].Data)
	}
	if got := pairsText(again); got != want || want == "" {
		t.Errorf("DOC: the second answer %q, the first one %q", got, want)
	}
	for range 100 {
		Faults(conf, kept)
	}
	for range 100 {
		if runtime.NumGoroutine() <= goroutines {
			return
		}
		time.Sleep(time.Millisecond)
	}
	t.Errorf("LANGUAGE: %d goroutines, %d were there", runtime.NumGoroutine(), goroutines)
}

// TestAnyLevels: both calls end, whatever Levels is.
func TestAnyLevels(t *testing.T) {
	l := with(rooted(2, api.Roots{Log: 6}, shelves(t)...), logFile(6, group(7, "a1")))
	for _, levels := range []int{math.MinInt, -1, 0, 1, 2, 6, 1 << 40, math.MaxInt} {
		c := api.Config{Levels: levels}
		both(c, l)
		both(c, nil)
	}
}
