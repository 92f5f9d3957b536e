package pace

import (
	"math"
	"math/big"
	"math/rand"
	"reflect"
	"strings"
	"testing"
	"text/scanner"

	"scree/api"
)

// rule: what a field must be, as the chapter says it; a bound is a number or a formula of earlier fields.
type rule struct{ name, least, most string }

var rules = []rule{
	{"Clients", "1", "8"},
	{"Flushers", "1", "2"},
	{"Compactors", "1", "3"},
	{"MemBytes", "4096", "1048576"},
	{"MaxImm", "1", "4"},
	{"L0Trigger", "1", "16"},
	{"L0Slow", "L0Trigger", "16"},
	{"L0Stop", "max(L0Slow, Flushers + 1)", "16"},
	{"Levels", "3", "5"},
	{"Base", "4096", "16777216"},
	{"Mult", "2", "10"},
	{"FileBytes", "2048", "1048576"},
	{"Fan", "1", "16"},
	{"BlockBytes", "64", "4096"},
	{"Restart", "1", "16"},
	{"BloomBits", "0", "16"},
	{"MaxChunk", "1088", "65536"},
	{"Rate", "1", "1073741824"},
	{"Burst", "MaxChunk", "1073741824"},
	{"SlowRate", "1", "1073741824"},
	{"SlowBurst", "17408", "1073741824"},
	{"MaxGroup", "1088", "1048576"},
	{"MaxDebt", "17408", "16777216"},
	{"DebtStop", "(L0Trigger + MaxImm + 2) * MemCap + 1", "1073741824"},
	{"Snapshots", "0", "8"},
	{"ScanLimit", "1", "256"},
	{"MaxManifest", "4096", "1048576"},
}

// formula: what a name stands for, of which arguments, as the document has it.
type formula struct {
	args []string
	text string
}

var formulas = map[string]formula{
	"MemCap":  {nil, "MemBytes - 1 + max(MaxGroup, 17408)"},
	"FileCap": {nil, "FileBytes - 1 + 1088"},
	"J":       {nil, "(Fan + 1) * FileCap"},
	"DebtCap": {nil, "DebtStop - 1 + MaxDebt"},
	"D":       {[]string{"d"}, "min(d + MaxDebt + (Clients - 1) * 17408, DebtCap)"},
	"G":       {nil, "Compactors * (MaxChunk / Rate + 3)"},
	"TF":      {[]string{"x"}, "2 * (x / MaxChunk + 2) + 16"},
	"TC":      {[]string{"x"}, "x / MaxChunk + 2 + (x / MaxChunk + x / FileBytes + 3) * G + 2 * (x / FileBytes + 3) + 16"},
	"Y":       {[]string{"d"}, "LimitSum + D(d)"},
	"T0":      {[]string{"d"}, "2 * TC(J) + 2 * TC(Y(d)) + 16"},
	"Q":       {nil, "MaxDebt / MemBytes + MaxImm + 2"},
	"TD":      {[]string{"d"}, "(Levels * Y(d) / 450 + 2) * (TC(Y(d)) + TC(J) + TF(MemCap) + 8)"},
	"B1":      {[]string{"d"}, "Clients * ((Q + 2) * (T0(d) + 2) + TD(d) + (MaxImm + 1) * (T0(d) + TF(MemCap) + 2) + 17408 / SlowRate + 18 * Clients + 24)"},
	"N":       {[]string{"n"}, "n + MaxDebt + Clients * 17408"},
	"B2":      {[]string{"n"}, "B1(n) + (MaxImm + 2) * (TF(MemCap) + TC(N(n)) + TC(J) + 8) + (Levels * N(n) / 450 + 2) * (TC(N(n)) + TC(J) + 2) + N(n) / MaxChunk + Levels + 40"},
	"A":       {[]string{"x", "y"}, "4 * x + y + 16 * (LimitSum + DebtCap) + (MaxImm + 4) * MemCap + 2 * MaxManifest + 131072"},
}

var greatest, lowest = big.NewInt(math.MaxInt), big.NewInt(math.MinInt)

// held keeps a number of any size among the ints.
func held(x *big.Int) *big.Int {
	switch {
	case x.Cmp(greatest) > 0:
		return greatest
	case x.Cmp(lowest) < 0:
		return lowest
	default:
		return x
	}
}

// model reckons a formula's text from the left, with numbers of any size that are held at each sum and product.
type model struct {
	t    *testing.T
	c    api.Config
	args map[string]*big.Int
	in   scanner.Scanner
	next string
}

// told tells what a name stands for, at these arguments.
func told(t *testing.T, c api.Config, name string, args ...int) int {
	t.Helper()
	var l []*big.Int
	for _, a := range args {
		l = append(l, big.NewInt(int64(max(a, 0))))
	}
	return int(byName(t, c, name, l).Int64())
}

func byName(t *testing.T, c api.Config, name string, args []*big.Int) *big.Int {
	f, ok := formulas[name]
	if !ok || len(f.args) != len(args) {
		t.Fatalf("no formula %s of %d arguments", name, len(args))
	}
	named := map[string]*big.Int{}
	for i, a := range f.args {
		named[a] = args[i]
	}
	return byText(t, c, f.text, named)
}

func byText(t *testing.T, c api.Config, text string, args map[string]*big.Int) *big.Int {
	m := &model{t: t, c: c, args: args}
	m.in.Init(strings.NewReader(text))
	m.step()
	x := m.sum()
	if m.next != "" {
		t.Fatalf("%q: %q is left", text, m.next)
	}
	return x
}

func (m *model) step() {
	m.in.Scan()
	m.next = m.in.TokenText()
}

// takes goes past a sign, if it stands there.
func (m *model) takes(sign string) bool {
	if m.next != sign {
		return false
	}
	m.step()
	return true
}

func (m *model) sum() *big.Int {
	x := m.product()
	for {
		switch {
		case m.takes("+"):
			x = held(new(big.Int).Add(x, m.product()))
		case m.takes("-"):
			x = held(new(big.Int).Sub(x, m.product()))
		default:
			return x
		}
	}
}

func (m *model) product() *big.Int {
	x := m.one()
	for {
		switch {
		case m.takes("*"):
			x = held(new(big.Int).Mul(x, m.one()))
		case m.takes("/"):
			x = new(big.Int).Div(x, m.one())
		default:
			return x
		}
	}
}

func (m *model) one() *big.Int {
	if m.takes("(") {
		x := m.sum()
		m.takes(")")
		return x
	}
	name := m.next
	m.step()
	if x, ok := new(big.Int).SetString(name, 10); ok {
		return x
	}
	var args []*big.Int
	if m.takes("(") {
		args = append(args, m.sum())
		for m.takes(",") {
			args = append(args, m.sum())
		}
		m.takes(")")
	}
	return m.named(name, args)
}

func (m *model) named(name string, args []*big.Int) *big.Int {
	if x, ok := m.args[name]; ok {
		return x
	}
	field := reflect.ValueOf(m.c).FieldByName(name)
	switch {
	case field.IsValid():
		return big.NewInt(field.Int())
	case name == "min" && args[0].Cmp(args[1]) > 0, name == "max" && args[0].Cmp(args[1]) < 0:
		return args[1]
	case name == "min" || name == "max":
		return args[0]
	case name == "LimitSum":
		return big.NewInt(int64(limits(m.c)))
	default:
		return byName(m.t, m.c, name, args)
	}
}

// limits adds up the limits of a right configuration: they are far below the greatest int.
func limits(c api.Config) int {
	all, one := 0, c.Base
	for level := 1; level < c.Levels-1; level++ {
		all += one
		one *= c.Mult
	}
	return all
}

// set puts a number into the field of a place.
func set(c api.Config, place, x int) api.Config {
	reflect.ValueOf(&c).Elem().Field(place).SetInt(int64(x))
	return c
}

// bounds tells what the field of a place must be, the fields ahead of it being right.
func bounds(t *testing.T, c api.Config, place int) (least, most int) {
	t.Helper()
	r := rules[place]
	return int(byText(t, c, r.least, nil).Int64()), int(byText(t, c, r.most, nil).Int64())
}

// firstWrong tells what Check has to answer.
func firstWrong(t *testing.T, c api.Config) (int, api.Errno) {
	t.Helper()
	for place := range rules {
		least, most := bounds(t, c, place)
		if x := int(reflect.ValueOf(c).Field(place).Int()); x < least || x > most {
			return place, api.ErrConfig
		}
	}
	return 0, api.OK
}

// smallest: the configuration of example 1.
func smallest() api.Config {
	return api.Config{
		Clients: 1, Flushers: 1, Compactors: 1, MemBytes: 4096, MaxImm: 1, L0Trigger: 1, L0Slow: 1, L0Stop: 2,
		Levels: 3, Base: 4096, Mult: 2, FileBytes: 2048, Fan: 1, BlockBytes: 64, Restart: 1, BloomBits: 0,
		MaxChunk: 1088, Rate: 1, Burst: 1088, SlowRate: 1, SlowBurst: 17408, MaxGroup: 1088, MaxDebt: 17408,
		DebtStop: 86013, Snapshots: 0, ScanLimit: 1, MaxManifest: 4096,
	}
}

// largest: every field is the greatest that it may be.
func largest() api.Config {
	return api.Config{
		Clients: 8, Flushers: 2, Compactors: 3, MemBytes: 1 << 20, MaxImm: 4, L0Trigger: 16, L0Slow: 16, L0Stop: 16,
		Levels: 5, Base: 1 << 24, Mult: 10, FileBytes: 1 << 20, Fan: 16, BlockBytes: 4096, Restart: 16, BloomBits: 16,
		MaxChunk: 1 << 16, Rate: 1 << 30, Burst: 1 << 30, SlowRate: 1 << 30, SlowBurst: 1 << 30, MaxGroup: 1 << 20, MaxDebt: 1 << 24,
		DebtStop: 1 << 30, Snapshots: 8, ScanLimit: 256, MaxManifest: 1 << 20,
	}
}

// slowest: the formulas come to the most.
func slowest() api.Config {
	c := largest()
	c.FileBytes, c.MaxChunk, c.Rate, c.SlowRate, c.MemBytes = 2048, 1088, 1, 1, 4096
	return c
}

// drawn makes some right configuration, its fields often at their bounds.
func drawn(t *testing.T, r *rand.Rand) api.Config {
	t.Helper()
	var c api.Config
	for place := range rules {
		least, most := bounds(t, c, place)
		// MemCap hangs on MaxGroup, which stands ahead of DebtStop: what this bound needs is there already.
		switch r.Intn(5) {
		case 0:
			c = set(c, place, least)
		case 1:
			c = set(c, place, most)
		case 2:
			c = set(c, place, min(most, least+r.Intn(4)))
		default:
			c = set(c, place, least+r.Intn(most-least+1))
		}
	}
	return c
}
