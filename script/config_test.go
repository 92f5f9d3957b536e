package script

import (
	"reflect"
	"strconv"
	"strings"
	"testing"

	"scree/api"
	"scree/pace"
)

var smallConfig = api.Config{
	Clients: 1, Flushers: 1, Compactors: 1, MemBytes: 4096, MaxImm: 1, L0Trigger: 1, L0Slow: 1, L0Stop: 2,
	Levels: 3, Base: 4096, Mult: 2, FileBytes: 2048, Fan: 1, BlockBytes: 64, Restart: 1, BloomBits: 0,
	MaxChunk: 1088, Rate: 1, Burst: 1088, SlowRate: 1, SlowBurst: 17408, MaxGroup: 1088, MaxDebt: 17408,
	DebtStop: 86013, Snapshots: 0, ScanLimit: 1, MaxManifest: 4096,
}

const fieldWords = "clients flushers compactors memory frozen trigger slow stop levels base mult file fan block restart bloom chunk rate burst slowrate slowburst group debt debtstop snapshots scan manifest"

// configText tells a configuration as a text of one line, and where each field's number stands.
func configText(c api.Config) (string, []int) {
	var b strings.Builder
	var at []int
	v := reflect.ValueOf(c)
	for i, word := range strings.Fields(fieldWords) {
		if i > 0 {
			b.WriteString(" ")
		}
		b.WriteString(word + " ")
		at = append(at, b.Len())
		b.WriteString(strconv.FormatInt(v.Field(i).Int(), 10))
	}
	return b.String(), at
}

func readsConfig(t *testing.T, promise, text string, want api.Config) {
	t.Helper()
	if c, err := Config(text); c != want || err != nil {
		t.Errorf("%s: Config(%.300q): %v, %v, want %v", promise, text, c, err, want)
	}
}

func TestConfigIsRead(t *testing.T) {
	readsConfig(t, "P20.4", small, smallConfig)
	other := api.Config{
		Clients: 8, Flushers: 2, Compactors: 3, MemBytes: 4097, MaxImm: 4, L0Trigger: 5, L0Slow: 6, L0Stop: 7,
		Levels: 4, Base: 4098, Mult: 9, FileBytes: 2049, Fan: 10, BlockBytes: 65, Restart: 11, BloomBits: 12,
		MaxChunk: 1089, Rate: 13, Burst: 1090, SlowRate: 14, SlowBurst: 17409, MaxGroup: 1091, MaxDebt: 17410,
		DebtStop: 1 << 30, Snapshots: 3, ScanLimit: 15, MaxManifest: 4099,
	}
	text, _ := configText(other)
	readsConfig(t, "P20.4, each field another number", text, other)
	readsConfig(t, "P20.4, a line a word", strings.ReplaceAll(small, " ", "\n"), smallConfig)
	readsConfig(t, "P20.10, blanks and comments", "# it\n\n\t "+strings.ReplaceAll(small, " ", " \t#\"x\n")+"# end\n\n", smallConfig)
	readsConfig(t, "P20.4, a comment right behind", small+"#", smallConfig)
}

func TestConfigIsRefused(t *testing.T) {
	for text, want := range map[string]string{
		"": "1 0 204", "\n": "2 0 204", " ": "1 1 204", "# x": "1 3 204", "\n\n ": "3 1 204", "#\n": "2 0 204",
		"clients": "1 7 204", "clients\n": "2 0 204", "clients\n\t#": "2 2 204", "clients 1": "1 9 204", "clients 1\n flushers": "2 9 204",
		"Clients 1": "1 0 200", "client 1": "1 0 200", "clientss 1": "1 0 200", " 1": "1 1 200", "flushers 1": "1 0 200", "clients1": "1 0 200",
		"\"clients\" 1": "1 0 200", "\"clients": "1 0 200", "clients\"": "1 7 200", "clients \"1": "1 8 200",
		"clients -1": "1 8 201", "clients x": "1 8 201", "clients 01": "1 8 201", "clients -0": "1 8 201", "clients +1": "1 8 201", "clients \"1\"": "1 8 201",
		"clients\n\n  clients": "3 2 201", "clients 1099511627777": "1 8 201", "clients 1099511627776": "1 21 204", "clients 99999999999999999999": "1 8 201",
		"clients 1 clients 1": "1 10 200", "clients 1 2": "1 10 200", "clients\n1\n\"": "3 0 200", "clients\r 1": "1 0 200", "clients 1\r": "1 8 201",
	} {
		refusesConfig(t, "P20.4", text, want)
	}
}

func TestConfigEndsAnywhere(t *testing.T) {
	_, at := configText(smallConfig)
	pieces := strings.Fields(small)
	for i := range pieces {
		text := strings.Join(pieces[:i], " ")
		refusesConfig(t, "P20.4, too short", text, "1 "+strconv.Itoa(len(text))+" 204")
		refusesConfig(t, "P20.4, too short, and lines", text+" # x\n\t\n ", "3 1 204")
		refusesConfig(t, "P20.4, a text", text+" \"\"", "1 "+strconv.Itoa(len(text)+1)+" "+[]string{"200", "201"}[i%2])
		refusesConfig(t, "P20.4, a broken text", text+" \"", "1 "+strconv.Itoa(len(text)+1)+" 200")
	}
	for i := range at {
		words := strings.Fields(small)
		words[2*i] += "s"
		refusesConfig(t, "P20.4, a wrong word", strings.Join(words, " "), "1 "+strconv.Itoa(at[i]-len(pieces[2*i])-1)+" 200")
		words = strings.Fields(small)
		words[2*i+1] = "-1"
		refusesConfig(t, "P20.4, below 0", strings.Join(words, " "), "1 "+strconv.Itoa(at[i])+" 201")
	}
	for behind, want := range map[string]string{" 1": "200", " x": "200", " clients": "200", " \"\"": "200", " \"": "200"} {
		refusesConfig(t, "P20.3, behind the last", small+behind, "1 "+strconv.Itoa(len(small)+1)+" "+want)
		refusesConfig(t, "P20.3, behind the last, on a line", small+"\n"+behind, "2 1 "+want)
	}
}

func TestConfigIsntRight(t *testing.T) {
	at := func(c api.Config, i int) string {
		_, places := configText(c)
		return "1 " + strconv.Itoa(places[i]) + " 150"
	}
	for i := range reflect.TypeFor[api.Config]().NumField() {
		for _, n := range []int64{0, 1 << 40} {
			c := smallConfig
			reflect.ValueOf(&c).Elem().Field(i).SetInt(n)
			text, _ := configText(c)
			field, err := pace.Check(c)
			if err == api.OK {
				readsConfig(t, "P20.4", text, c)
			} else {
				refusesConfig(t, "P20.4", text, at(c, field))
			}
		}
	}
	c := smallConfig
	c.Clients, c.Rate = 0, 0
	text, _ := configText(c)
	refusesConfig(t, "P20.4, the first field is told", text, at(c, 0))
	refusesConfig(t, "P20.4, all is read ahead of the check", text+" x", "1 "+strconv.Itoa(len(text)+1)+" 200")
	refusesConfig(t, "P20.4, all is read ahead of the check", strings.TrimSuffix(text, " 4096"), "1 "+strconv.Itoa(len(text)-5)+" 204")
	refusesConfig(t, "P20.4, its line and byte", strings.Replace(strings.Replace(small, "rate 1", "rate\n#\n \t0", 1), "base", "\nbase", 1), "4 2 150")
}

func TestConfigTextHasABound(t *testing.T) {
	filled := small + "#" + strings.Repeat("x", api.MaxConfigText-len(small)-1)
	readsConfig(t, "P20.4, 2000 bytes", filled, smallConfig)
	refusesConfig(t, "P20.4, 2001 bytes", filled+"x", "1 0 202")
	refusesConfig(t, "P20.4, 2001 bytes, whatever they are", "\n\"x"+filled, "1 0 202")
	refusesConfig(t, "P20.4, bytes, not runes", small+"#"+strings.Repeat("\u00e9", 1000), "1 0 202")
}
