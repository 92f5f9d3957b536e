package script

import (
	"fmt"
	"math/rand"
	"strings"
	"testing"

	"scree/api"
	"scree/store"
)

// plays holds a script to be answered by these lines.
func plays(t *testing.T, promise, config, text string, want ...string) {
	t.Helper()
	got, err := Play(config, text, []byte{3, 1, 4})
	if err != nil {
		t.Fatalf("%s: %v", promise, err)
	}
	lines := strings.Split(got, "\n")
	for i := range max(len(lines), len(want)+1) {
		switch {
		case i == len(want) && i == len(lines)-1 && lines[i] == "":
		case i >= len(want) || i >= len(lines)-1 || lines[i] != want[i]:
			t.Fatalf("%s: line %d of\n%s, want\n%s", promise, i+1, got, strings.Join(want, "\n"))
		}
	}
}

// wants unfolds: a word with a number ahead of `*` is so many lines; `:` is a blank.
func wants(words string) []string {
	var l []string
	for _, w := range strings.Fields(words) {
		n := 1
		if a, b, ok := strings.Cut(w, "*"); ok {
			fmt.Sscan(a, &n)
			w = b
		}
		for range n {
			l = append(l, strings.ReplaceAll(w, ":", " "))
		}
	}
	return l
}

func TestExampleFour(t *testing.T) {
	plays(t, "example 4", small, "get 0 \"a\"\ndo 0\ntick", "refused err 190", "idle", "tick")
}

// storeSmall: the configuration of the examples of chapter 19.
const storeSmall = "clients 2 flushers 1 compactors 1 memory 4096 frozen 1 trigger 1 slow 1 stop 2 levels 3 base 4096 mult 2 file 2048 fan 1 block 64 restart 1 bloom 0 chunk 1088 rate 1088 burst 1088 slowrate 20000 slowburst 17408 group 1088 debt 17408 debtstop 86013 snapshots 1 scan 2 manifest 4096"

func TestStoreExamplesArePlayed(t *testing.T) {
	v := `"` + strings.Repeat("v", 512) + `"`
	text := rep(6, "do 4\n") + "write 0 put \"a\" \"1\"\n" + rep(6, "do 0\n") +
		"write 0 put \"b\" \"2\"\nwrite 1 put \"c\" \"3\" sync\ndo 1\ndo 0\ndo 1\n" + rep(7, "do 0\n") + "do 1\nsnap 0\ndo 0\n"
	want := wants("4*open up idle take admit lead append insert publish done take take wait:turn 2*admit lead append sync 2*insert publish done done take done:snap:1")
	for _, key := range []string{"d", "e", "f", "g", "h"} {
		text += "write 0 put \"" + key + "\" " + v + "\n" + rep(6+b2i(key == "g"), "do 0\n")
		want = append(want, wants(map[bool]string{false: "take admit lead append insert publish done", true: "take admit lead switch append insert publish done"}[key == "g"])...)
	}
	text += rep(10, "do 2\n") + rep(10, "do 3\n") + "tick\n" + rep(11, "do 3\n")
	want = append(want, wants("claim 2*fill make write:wrote:1088 fill write:wrote:598 seal install idle claim 2*fill make write:wrote:600 seal fill make write:wrote:1088 wait:tokens tick write:wrote:25 seal install claim 2*fill make write:wrote:600 seal install idle")...)
	text += "get 1 \"e\"\ndo 1\ndo 1\nget 1 \"x\"\ndo 1\ndo 1\nscan 1 \"\" \"\" 2 snap 1\ndo 1\ndo 1\nscan 1 \"x\" \"\" 2\ndo 1\ndo 1\nrelease 1 1\ndo 1\nget 1 \"a\" snap 1\n"
	want = append(want, "take", "pin", "done found "+v, "take", "pin", "done", "take", "pin", `done pair "a" "1" pair "b" "2"`, "take", "pin", "done", "take", "done", "refused err 194")
	text += "fail 0 1 0\nwrite 0 put \"z\" \"\"\n" + rep(4, "do 0\n") + "write 0 put \"z\" \"\"\ndo 0\narm 1\nfall 9 9999 9999 9999 9999 9999 9999 9999 9999\n" + rep(15, "do 4\n") + "do 9\n"
	want = append(want, wants("rig take admit lead readonly:err:31 done:err:193 take done:err:192 rig fall 14*open up nothing")...)
	plays(t, "P20.9", storeSmall, text, want...)
}

func b2i(b bool) int {
	if b {
		return 1
	}
	return 0
}

func TestRepliesAreTold(t *testing.T) {
	dids := strings.Fields("nothing idle wait refused take admit lead switch append sync insert publish pin look done claim make fill write seal roll install open up tick fall rig readonly")
	whys := strings.Fields("turn pending debt stop slow lead room locks tokens")
	for did, want := range dids {
		tells(t, api.Reply{Did: did}, want)
		tells(t, api.Reply{Did: did, Err: api.ErrDiskDown}, want+" err 30")
	}
	for i, want := range whys {
		tells(t, api.Reply{Did: api.DidWait, Why: i + 1}, "wait "+want)
	}
	if len(dids) != api.DidReadOnly+1 || len(whys) != api.WaitTokens {
		t.Errorf("%d and %d words", len(dids), len(whys))
	}
	tells(t, api.Reply{Did: api.DidDone, Found: true}, `done found ""`)
	tells(t, api.Reply{Did: api.DidDone, Found: true, Val: "a \"\\\x00\xff\n"}, `done found "a \"\\\x00\xff\x0a"`)
	tells(t, api.Reply{Did: api.DidDone, Pairs: []api.Pair{}}, `done`)
	tells(t, api.Reply{Did: api.DidDone, Pairs: []api.Pair{{Key: "a"}, {Key: "\t", Val: "~"}}}, `done pair "a" "" pair "\x09" "~"`)
	tells(t, api.Reply{Did: api.DidDone, Snap: 12}, "done snap 12")
	tells(t, api.Reply{Did: api.DidWrite, Wrote: 1088}, "write wrote 1088")
	tells(t, api.Reply{Did: api.DidWait, Why: 9, Err: 1, Found: true, Pairs: []api.Pair{{}}, Snap: -2, Wrote: 3}, `wait tokens err 1 found "" pair "" "" snap -2 wrote 3`)
}

// tells holds a reply to be that line.
func tells(t *testing.T, r api.Reply, want string) {
	t.Helper()
	var p printer
	p.reply(r)
	if string(p.text) != want {
		t.Errorf("P20.9: %+v: %q, want %q", r, p.text, want)
	}
}

func TestPlayIsRefused(t *testing.T) {
	for _, c := range []struct{ config, text, want string }{
		{"", "", "1 0 204"},
		{"clients", "x", "1 7 204"},
		{small + "\nx", "y", "2 0 200"},
		{strings.Replace(small, "clients 1", "clients 9", 1), "x", "1 8 150"},
		{small, "x", "1 0 200"},
		{small, "tick\nrepeat 2\ntick", "3 4 204"},
		{small, "tick\ntick x", "2 5 200"},
		{small, ticks(13108), "1 0 202"},
		{small, rep(1000, ticks(21)), "23 0 203"},
		{strings.Repeat(" ", 2001), ticks(13108), "1 0 202"},
	} {
		s, err := Play(c.config, c.text, nil)
		if got := place(t, err); s != "" || got != c.want {
			t.Errorf("P20.9: Play(%.300q, %.100q): %q, %s, want %s", c.config, c.text, s, got, c.want)
		}
	}
	plays(t, "P20.9, no step", small, "# nothing\n")
}

// anyPlay: a script that a store has much to do with.
func anyPlay(r *rand.Rand, machines int) string {
	var b strings.Builder
	key := func() string { return quote(string([]byte{byte(r.Intn(9)) * 29})) }
	for range 40 + r.Intn(300) {
		client := r.Intn(3)
		switch r.Intn(24) {
		case 0, 1, 2, 3:
			client %= 2
			fmt.Fprintf(&b, "write %d put %s %s\nrepeat %d\ndo %d\nend\n", client, key(), quote(strings.Repeat("z\x01z", r.Intn(171))), 4+r.Intn(5), client)
		case 4:
			fmt.Fprintf(&b, "write %d del %s put %s \"x\" sync\n", client, key(), key())
		case 5:
			fmt.Fprintf(&b, "sync %d\n", client)
		case 6:
			fmt.Fprintf(&b, "get %d %s\nget %d %s snap %d\n", client, key(), client, key(), r.Intn(4))
		case 7:
			fmt.Fprintf(&b, "scan %d %s \"\" %d snap %d\n", client, key(), r.Intn(4), r.Intn(4))
		case 8:
			fmt.Fprintf(&b, "snap %d\nrelease %d %d\n", client, 1-client, r.Intn(3))
		case 9:
			switch r.Intn(12) {
			case 0, 1, 2:
				fmt.Fprintf(&b, "fall %d %d 0 %d\n", r.Intn(9), r.Intn(2000), anyNumber(r))
			case 3:
				fmt.Fprintf(&b, "arm %d\n", r.Intn(4000))
			case 4:
				fmt.Fprintf(&b, "fail %d %d %d\n", r.Intn(30), r.Intn(2), r.Intn(100))
			}
		case 11:
			b.WriteString("tick\n")
		case 10, 12:
			fmt.Fprintf(&b, "repeat %d\ndo %d\nend\n", 15+r.Intn(20), machines-1)
		default:
			fmt.Fprintf(&b, "repeat %d\ndo %d\nend\n", 1+r.Intn(12), r.Intn(machines+1))
		}
	}
	return b.String()
}

// told tells a reply as a line, by itself.
func told(r api.Reply) string {
	var b strings.Builder
	b.WriteString(didWords[r.Did])
	if r.Why > 0 {
		b.WriteString(" " + whyWords[r.Why])
	}
	if r.Err > 0 {
		fmt.Fprintf(&b, " err %d", int(r.Err))
	}
	if r.Found {
		b.WriteString(" found " + quote(r.Val))
	}
	for _, p := range r.Pairs {
		b.WriteString(" pair " + quote(p.Key) + " " + quote(p.Val))
	}
	if r.Snap > 0 {
		fmt.Fprintf(&b, " snap %d", r.Snap)
	}
	if r.Wrote > 0 {
		fmt.Fprintf(&b, " wrote %d", r.Wrote)
	}
	return b.String() + "\n"
}

func TestPlayTellsWhatAStoreAnswers(t *testing.T) {
	seen, heads := map[int]bool{}, 0
	for seed := range int64(300) {
		r := rand.New(rand.NewSource(seed))
		text := anyPlay(r, 5)
		c, err := Config(storeSmall)
		steps, err2 := Parse(text)
		if err != nil || err2 != nil {
			t.Fatalf("%v, %v", err, err2)
		}
		s, _ := store.New(c, 0, nil, nil)
		var want strings.Builder
		cut, head := r.Intn(len(steps)), ""
		for i, x := range steps {
			if i == cut {
				head = want.String()
			}
			reply := s.Step(x)
			seen[reply.Did] = true
			want.WriteString(told(reply))
		}
		got, err := Play(storeSmall, text, []byte{byte(seed), 7, 13})
		if got != want.String() || err != nil {
			t.Fatalf("P20.9: seed %d: %s, %v, want %s", seed, got, err, want.String())
		}
		if first, err := Print(steps[:cut]); err == nil {
			heads++
			if got, err := Play(storeSmall, first, nil); got != head || err != nil {
				t.Fatalf("P20.11: seed %d: %s, %v, want %s", seed, got, err, head)
			}
		}
	}
	if heads < 200 {
		t.Errorf("hardly any first part had a text: %d", heads)
	}
	for did, word := range didWords {
		if !seen[did] && did != api.DidRoll {
			t.Errorf("no script had a reply of %s", word)
		}
	}
}
