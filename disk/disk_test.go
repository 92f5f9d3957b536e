package disk

import (
	"bytes"
	"math"
	"slices"
	"strconv"
	"strings"
	"testing"

	"scree/api"
)

// made: a disk that New takes.
func made(t *testing.T, room int, files ...api.File) *Disk {
	t.Helper()
	d, err := New(room, files)
	if d == nil || err != api.OK {
		t.Fatalf("P3.1: New(%d, %v): %d", room, files, err)
	}
	return d
}

// tell: files as a text: a name, its sure bytes, behind a stroke the others.
func tell(files []api.File) string {
	var told []string
	for _, f := range files {
		told = append(told, f.Name+"="+string(f.Data[:f.Sure])+"|"+string(f.Data[f.Sure:]))
	}
	return strings.Join(told, " ")
}

func text(name, sure, others string) api.File {
	return api.File{Name: name, Data: []byte(sure + others), Sure: len(sure)}
}

// shows fails if the files aren't these.
func shows(t *testing.T, what string, got []api.File, want string) {
	t.Helper()
	if told := tell(got); told != want {
		t.Errorf("%s: %q, not %q", what, told, want)
	}
}

// answers fails if a call's answer isn't this.
func answers(t *testing.T, what string, got, want api.Errno) {
	t.Helper()
	if got != want {
		t.Errorf("%s: %d, not %d", what, got, want)
	}
}

func TestNewRefuses(t *testing.T) {
	rows := []struct {
		what  string
		room  int
		files []api.File
	}{
		{"a room below 0", -1, nil},
		{"the least room", math.MinInt, nil},
		{"no name", 0, []api.File{text("", "", "")}},
		{"a name of 25 bytes", 0, []api.File{text(strings.Repeat("z", 25), "", "")}},
		{"a name with a great letter", 0, []api.File{text("aB", "", "")}},
		{"a wrong name behind a right one", 0, []api.File{text("a", "", ""), text("a b", "", "")}},
		{"Sure below 0", 0, []api.File{{Name: "a", Data: []byte("x"), Sure: -1}}},
		{"the least Sure", 0, []api.File{{Name: "a", Data: []byte("x"), Sure: math.MinInt}}},
		{"Sure above the bytes", 0, []api.File{{Name: "a", Data: []byte("x"), Sure: 2}}},
		{"the greatest Sure", 0, []api.File{{Name: "a", Sure: math.MaxInt}}},
		{"one name twice", 0, []api.File{text("a", "", ""), text("b", "", ""), text("a", "", "")}},
		{"one file twice", 0, []api.File{text("a", "x", "y"), text("a", "x", "y")}},
		{"a byte more than the room", 2, []api.File{text("a", "xyz", "")}},
		{"a byte more in two files", 3, []api.File{text("a", "xy", ""), text("b", "", "zw")}},
	}
	for _, r := range rows {
		if d, err := New(r.room, r.files); d != nil || err != api.ErrDiskFiles {
			t.Errorf("P3.1: New of %s: %v, %d, not nil, %d", r.what, d != nil, err, api.ErrDiskFiles)
		}
	}
}

func TestNew(t *testing.T) {
	rows := []struct {
		room  int
		files []api.File
		want  string
	}{
		{0, nil, ""},
		{0, []api.File{}, ""},
		{1, nil, ""},
		{math.MaxInt, nil, ""},
		{0, []api.File{text("b", "x", "yz"), text("a", "", ""), text("-", "", "u")}, "-=|u a=| b=x|yz"},
		{4, []api.File{text("b", "xyz", ""), text("a", "", "u")}, "a=|u b=xyz|"},
		{math.MaxInt, []api.File{text("a", "xyz", "")}, "a=xyz|"},
		{1, []api.File{{Name: "a"}, {Name: "b", Data: []byte{}}}, "a=| b=|"},
		{0, []api.File{text(strings.Repeat("z", 24), "", "")}, strings.Repeat("z", 24) + "=|"},
	}
	for _, r := range rows {
		d := made(t, r.room, r.files...)
		shows(t, "P3.1, P3.6: Files", d.Files(), r.want)
		if d.Down() {
			t.Error("P3.1: a new machine is down")
		}
	}
}

func TestNewOfAnyOrder(t *testing.T) {
	files := []api.File{text("a", "1", "2"), text("b", "", "3"), text("c", "4", ""), text("d", "", "")}
	want := tell(made(t, 0, files...).Files())
	for range len(files) {
		files = append(files[1:], files[0])
		shows(t, "P3.1: the files turned", made(t, 0, files...).Files(), want)
	}
	slices.Reverse(files)
	shows(t, "P3.1: the files the other way", made(t, 0, files...).Files(), want)
}

func TestNewDirectoryIsSure(t *testing.T) {
	d := made(t, 0, text("a", "xy", "zw"), text("b", "", "u"))
	shows(t, "P3.1: no change, none kept", d.Image(0, nil), "a=xy| b=|")
	shows(t, "P3.1: no change, all kept", d.Image(math.MaxInt, []int{9}), "a=xyzw| b=u|")
	answers(t, "P3.1: nothing is rigged: Create", d.Create("c"), api.OK)
	answers(t, "P3.1: nothing is rigged: Append", d.Append("c", make([]byte, 5000)), api.OK)
	answers(t, "P3.1: nothing is rigged: SyncDir", d.SyncDir(), api.OK)
}

// wrongNames: names that may not be.
func wrongNames() []string {
	l := []string{"", strings.Repeat("a", 25), strings.Repeat("a", 5000), "a b", "\u00e4", "a\xff", "a\x00", "a/b", ".", "A", "Z", "_"}
	for c := range 256 {
		if !strings.ContainsRune("abcdefghijklmnopqrstuvwxyz0123456789-", rune(c)) {
			l = append(l, string([]byte{byte(c)}), string([]byte{'a', byte(c)}), string([]byte{byte(c), '9'}))
		}
	}
	return l
}

func TestNames(t *testing.T) {
	for _, c := range "abcdefghijklmnopqrstuvwxyz0123456789-" {
		for _, n := range []int{1, 2, 23, 24} {
			d := made(t, 0)
			answers(t, "P3.2: Create of a right name", d.Create(strings.Repeat(string(c), n)), api.OK)
		}
	}
	for _, name := range wrongNames() {
		d := made(t, 0, text("a", "x", "y"))
		answers(t, "P3.2: Create "+strconv.Quote(name), d.Create(name), api.ErrDiskName)
		answers(t, "P3.2: Append "+strconv.Quote(name), d.Append(name, []byte("u")), api.ErrDiskName)
		answers(t, "P3.2: Sync "+strconv.Quote(name), d.Sync(name), api.ErrDiskName)
		answers(t, "P3.2: Rename to "+strconv.Quote(name), d.Rename("a", name), api.ErrDiskName)
		answers(t, "P3.2: Rename none to "+strconv.Quote(name), d.Rename("b", name), api.ErrDiskName)
		answers(t, "P3.2: Rename "+strconv.Quote(name), d.Rename(name, "b"), api.ErrDiskName)
		answers(t, "P3.2: Rename to itself "+strconv.Quote(name), d.Rename(name, name), api.ErrDiskName)
		answers(t, "P3.2: Delete "+strconv.Quote(name), d.Delete(name), api.ErrDiskName)
		b, err := d.Read(name)
		answers(t, "P3.5: Read "+strconv.Quote(name), err, api.ErrDiskName)
		if len(b) != 0 {
			t.Errorf("P3.5: Read of a wrong name tells %q", b)
		}
		if d, err := New(0, []api.File{{Name: name}}); d != nil || err != api.ErrDiskFiles {
			t.Errorf("P3.1: New with the name %q: %d", name, err)
		}
		shows(t, "P3.2: nothing changed", d.Files(), "a=x|y")
	}
}

// change calls of each kind, as a table: all of them on a file "a", which is there, with "n" to be made.
type call struct {
	what string
	do   func(*Disk) api.Errno
	want string // the files behind it, if they were a=x|y alone
}

func calls() []call {
	return []call{
		{"Create", func(d *Disk) api.Errno { return d.Create("n") }, "a=x|y n=|"},
		{"Append", func(d *Disk) api.Errno { return d.Append("a", []byte("uvw")) }, "a=x|yuvw"},
		{"Append of nothing", func(d *Disk) api.Errno { return d.Append("a", nil) }, "a=x|y"},
		{"Sync", func(d *Disk) api.Errno { return d.Sync("a") }, "a=xy|"},
		{"Rename", func(d *Disk) api.Errno { return d.Rename("a", "n") }, "n=x|y"},
		{"Rename to itself", func(d *Disk) api.Errno { return d.Rename("a", "a") }, "a=x|y"},
		{"Delete", func(d *Disk) api.Errno { return d.Delete("a") }, ""},
		{"SyncDir", func(d *Disk) api.Errno { return d.SyncDir() }, "a=x|y"},
	}
}

// wrongCalls: those that place 4 or 5 refuses, on a disk of room 4 with a=x|y.
func wrongCalls() []struct {
	call
	err api.Errno
} {
	return []struct {
		call
		err api.Errno
	}{
		{call{what: "Create of one that is there", do: func(d *Disk) api.Errno { return d.Create("a") }}, api.ErrDiskTwice},
		{call{what: "Append to none", do: func(d *Disk) api.Errno { return d.Append("n", []byte("u")) }}, api.ErrDiskNone},
		{call{what: "Append of too much to none", do: func(d *Disk) api.Errno { return d.Append("n", []byte("uvwxyz")) }}, api.ErrDiskNone},
		{call{what: "Append of too much", do: func(d *Disk) api.Errno { return d.Append("a", []byte("uvw")) }}, api.ErrDiskFull},
		{call{what: "Sync of none", do: func(d *Disk) api.Errno { return d.Sync("n") }}, api.ErrDiskNone},
		{call{what: "Rename of none", do: func(d *Disk) api.Errno { return d.Rename("n", "a") }}, api.ErrDiskNone},
		{call{what: "Rename of none to itself", do: func(d *Disk) api.Errno { return d.Rename("n", "n") }}, api.ErrDiskNone},
		{call{what: "Delete of none", do: func(d *Disk) api.Errno { return d.Delete("n") }}, api.ErrDiskNone},
	}
}

func TestEachCall(t *testing.T) {
	for _, c := range calls() {
		d := made(t, 0, text("a", "x", "y"))
		answers(t, "P3.2: "+c.what, c.do(d), api.OK)
		shows(t, "P3.3: behind "+c.what, d.Files(), c.want)
		d = made(t, 5, text("a", "x", "y"))
		answers(t, "P3.2: just room: "+c.what, c.do(d), api.OK)
		shows(t, "P3.3: just room: behind "+c.what, d.Files(), c.want)
	}
}

func TestEachWrongCall(t *testing.T) {
	for _, c := range wrongCalls() {
		d := made(t, 4, text("a", "x", "y"))
		answers(t, "P3.2: "+c.what, c.do(d), c.err)
		shows(t, "P3.2: behind "+c.what, d.Files(), "a=x|y")
		shows(t, "P3.2: no change by "+c.what, d.Image(9, []int{9}), "a=xy|")
	}
}

func TestDownComesFirst(t *testing.T) {
	down := func() *Disk {
		d := made(t, 4, text("a", "x", "y"))
		d.Arm(1)
		d.SyncDir()
		d.Fail(0, 99, 9)
		return d
	}
	for _, c := range calls() {
		d := down()
		answers(t, "P3.2: down: "+c.what, c.do(d), api.ErrDiskDown)
		shows(t, "P3.2: down: behind "+c.what, d.Files(), "a=x|y")
	}
	for _, c := range wrongCalls() {
		answers(t, "P3.2: down: "+c.what, c.do(down()), api.ErrDiskDown)
	}
	for _, name := range []string{"", "A"} {
		d := down()
		answers(t, "P3.2: down: Create of a wrong name", d.Create(name), api.ErrDiskDown)
		answers(t, "P3.2: down: Append to a wrong name", d.Append(name, nil), api.ErrDiskDown)
		answers(t, "P3.2: down: Rename of a wrong name", d.Rename(name, name), api.ErrDiskDown)
		_, err := d.Read(name)
		answers(t, "P3.5: down: Read of a wrong name", err, api.ErrDiskDown)
	}
}

func TestRoom(t *testing.T) {
	d := made(t, 5, text("a", "12", ""), text("b", "", "3"))
	answers(t, "P3.2: three bytes into a room for two", d.Append("b", []byte("456")), api.ErrDiskFull)
	shows(t, "P3.2: nothing laid", d.Files(), "a=12| b=|3")
	answers(t, "P3.2: two bytes into a room for two", d.Append("b", []byte("45")), api.OK)
	answers(t, "P3.2: none into a full disk", d.Append("a", nil), api.OK)
	answers(t, "P3.2: one into a full disk", d.Append("a", []byte("6")), api.ErrDiskFull)
	answers(t, "P3.2: a name on a full disk", d.Create("c"), api.OK)
	answers(t, "Rename over a file", d.Rename("c", "a"), api.OK)
	answers(t, "P3.3: what stood there has room no more: 3", d.Append("a", []byte("678")), api.ErrDiskFull)
	answers(t, "P3.3: what stood there has room no more: 2", d.Append("a", []byte("67")), api.OK)
	answers(t, "Delete", d.Delete("b"), api.OK)
	answers(t, "P3.3: a deleted file takes no room: 4", d.Append("a", []byte("8901")), api.ErrDiskFull)
	answers(t, "P3.3: a deleted file takes no room: 3", d.Append("a", []byte("890")), api.OK)
	shows(t, "P3.3: behind all that", d.Files(), "a=|67890")
	d.Fall(9, []int{1})
	answers(t, "P3.7: what a fall took takes no room: 5", d.Append("a", []byte("12345")), api.ErrDiskFull)
	answers(t, "P3.7: what a fall took takes no room: 4", d.Append("a", []byte("1234")), api.OK)
}

// A fall can leave more bytes than there is room for: a file that was deleted comes back beside what has grown since.
func TestRoomExceededByAFall(t *testing.T) {
	d := made(t, 3, text("a", "", ""), text("b", "", ""))
	answers(t, "Append", d.Append("a", []byte("123")), api.OK)
	answers(t, "Delete", d.Delete("a"), api.OK)
	answers(t, "Append", d.Append("b", []byte("456")), api.OK)
	d.Fall(0, []int{3, 2})
	shows(t, "P3.7: both", d.Files(), "a=123| b=45|")
	answers(t, "P3.2: even no byte has room", d.Append("b", nil), api.ErrDiskFull)
	answers(t, "Delete", d.Delete("b"), api.OK)
	answers(t, "P3.2: none", d.Append("a", nil), api.OK)
	answers(t, "P3.2: one", d.Append("a", []byte("4")), api.ErrDiskFull)
}

func TestRoomOfZeroAndTheGreatest(t *testing.T) {
	for _, room := range []int{0, math.MaxInt} {
		d := made(t, room, text("a", "", ""))
		answers(t, "P3.1: Append", d.Append("a", make([]byte, 1<<20)), api.OK)
		answers(t, "P3.1: Append", d.Append("a", make([]byte, 1<<20)), api.OK)
		if b, err := d.Read("a"); err != api.OK || len(b) != 1<<21 {
			t.Errorf("P3.5: room %d: %d bytes, %d", room, len(b), err)
		}
	}
}

func TestMaxFile(t *testing.T) {
	big := make([]byte, api.MaxFile+1)
	if d, err := New(0, []api.File{{Name: "a", Data: big}}); d != nil || err != api.ErrDiskFiles {
		t.Errorf("P3.1: a file above MaxFile: %d", err)
	}
	if n, right := measure([]api.File{{Name: "a", Data: big[1:], Sure: api.MaxFile}, {Name: "b", Data: big[1:]}}); !right || n != 2*api.MaxFile {
		t.Errorf("P3.1: files of MaxFile bytes: %v, %d", right, n)
	}
	d := made(t, 0, text("a", "", "x"), text("b", "", ""))
	answers(t, "P3.2: Append of more than MaxFile", d.Append("b", big), api.ErrDiskFull)
	answers(t, "P3.2: Append of MaxFile behind a byte", d.Append("a", big[1:]), api.ErrDiskFull)
	if !d.hasRoom(d.files["b"], api.MaxFile) || !d.hasRoom(d.files["a"], api.MaxFile-1) {
		t.Error("P3.2: MaxFile bytes have no room")
	}
	d.Fail(0, 2, math.MaxInt)
	answers(t, "P3.9: Append of more than MaxFile", d.Append("b", big), api.ErrDiskFault)
	answers(t, "P3.9: Append of MaxFile behind a byte", d.Append("a", big[1:]), api.ErrDiskFault)
	d.Fail(0, 1, 2)
	answers(t, "P3.9: Append of more than MaxFile, two bytes of it", d.Append("b", big), api.ErrDiskFault)
	shows(t, "P3.9: only what has room is laid", d.Files(), "a=|x b=|\x00\x00")
}

func TestMaxFiles(t *testing.T) {
	files := make([]api.File, api.MaxFiles+1)
	for i := range files {
		files[i].Name = strconv.FormatInt(int64(i), 36)
	}
	if d, err := New(0, files); d != nil || err != api.ErrDiskFiles {
		t.Errorf("P3.1: more than MaxFiles files: %d", err)
	}
	d := made(t, 0, files[:api.MaxFiles]...)
	answers(t, "P3.2: Create beside MaxFiles files", d.Create("-"), api.ErrDiskFull)
	answers(t, "P3.2: Create of one that is there", d.Create("0"), api.ErrDiskTwice)
	d.Arm(1)
	answers(t, "P3.2: what is refused costs nothing", d.Create("-"), api.ErrDiskFull)
	d.Arm(0)
	answers(t, "P3.2: Rename beside MaxFiles files", d.Rename("0", "-0"), api.OK)
	answers(t, "P3.2: Create beside MaxFiles files", d.Create("0"), api.ErrDiskFull)
	answers(t, "Delete", d.Delete("1"), api.OK)
	answers(t, "P3.2: Create beside one less", d.Create("0"), api.OK)
	answers(t, "P3.2: Create beside MaxFiles files", d.Create("1"), api.ErrDiskFull)
}

func TestRead(t *testing.T) {
	d := made(t, 0, text("a", "x", "yz"), text("b", "", ""))
	rows := []struct {
		name, want string
		err        api.Errno
	}{
		{"a", "xyz", api.OK},
		{"b", "", api.OK},
		{"c", "", api.ErrDiskNone},
		{"", "", api.ErrDiskName},
		{"B", "", api.ErrDiskName},
	}
	for _, r := range rows {
		b, err := d.Read(r.name)
		if string(b) != r.want || err != r.err {
			t.Errorf("P3.5: Read(%q): %q, %d, not %q, %d", r.name, b, err, r.want, r.err)
		}
	}
	d.Fail(0, 9, 0)
	if b, err := d.Read("a"); string(b) != "xyz" || err != api.OK {
		t.Errorf("P3.5: Read of a rigged machine: %q, %d", b, err)
	}
	answers(t, "P3.9: Read isn't counted", d.Sync("a"), api.ErrDiskFault)
	d.Fail(0, 0, 0)
	d.Arm(1)
	d.Read("a")
	answers(t, "P3.8: Read costs nothing", d.Sync("a"), api.ErrDiskDown)
	if b, err := d.Read("a"); b != nil || err != api.ErrDiskDown {
		t.Errorf("P3.5: Read while down: %q, %d", b, err)
	}
	shows(t, "P3.6: Files while down", d.Files(), "a=x|yz b=|")
}

func TestFilesRise(t *testing.T) {
	d := made(t, 0)
	names := []string{"t-000000000002", "z", "-", "a0", "a", "9", "a-", "0", "l-000000000001", "aa", "-a", "current", "new"}
	for _, name := range names {
		answers(t, "Create", d.Create(name), api.OK)
	}
	slices.Sort(names)
	for i, f := range d.Files() {
		if f.Name != names[i] {
			t.Errorf("P3.6: the %dth file is %q, not %q", i, f.Name, names[i])
		}
	}
	for i, f := range d.Image(len(names), nil) {
		if f.Name != names[i] {
			t.Errorf("P3.7: the %dth file is %q, not %q", i, f.Name, names[i])
		}
	}
}

func TestNothingIsShared(t *testing.T) {
	room := []byte("0123456789")
	files := []api.File{{Name: "a", Data: room[:3], Sure: 2}, {Name: "b", Data: room[:0]}, {Name: "c", Data: room[:3], Sure: 1}}
	d := made(t, 0, files...)
	answers(t, "Append", d.Append("a", room[3:5]), api.OK)
	answers(t, "Append", d.Append("b", room[5:6]), api.OK)
	if string(room) != "0123456789" || len(files) != 3 || string(files[0].Data) != "012" || files[0].Sure != 2 {
		t.Fatalf("DOC 3: what was handed in is changed: %q", room)
	}
	for i := range room {
		room[i] = '?'
	}
	clear(files)
	const now = "a=01|234 b=|5 c=0|12"
	shows(t, "DOC 3: what was handed in is kept", d.Files(), now)
	got, _ := d.Read("a")
	again, _ := d.Read("a")
	for _, b := range [][]byte{got, again} {
		if string(b) != "01234" {
			t.Errorf("DOC 3: two answers share: %q", b)
		}
		spoil(b)
	}
	for _, told := range [][]api.File{d.Files(), d.Image(0, []int{9}), d.Image(0, nil), d.Files()} {
		for _, f := range told {
			if strings.Contains(string(f.Data), "!") {
				t.Errorf("DOC 3: two answers, or two lists of one, share: %q", f.Data)
			}
			spoil(f.Data)
		}
		clear(told[:cap(told)])
	}
	answers(t, "Append", d.Append("a", []byte("6")), api.OK)
	shows(t, "DOC 3: an answer is the disk's own", d.Files(), "a=01|2346 b=|5 c=0|12")
}

// spoil overwrites a list with the spare room behind it.
func spoil(b []byte) {
	b = b[:cap(b)]
	for i := range b {
		b[i] = '!'
	}
}

// Behind a fall the bytes that were cut off must not come back, nor be overwritten in an earlier answer.
func TestCutBytesAreGone(t *testing.T) {
	d := made(t, 0)
	answers(t, "Create", d.Create("a"), api.OK)
	for range 10 {
		answers(t, "Append", d.Append("a", []byte("12345")), api.OK)
	}
	image := d.Image(1, []int{7})
	d.Fall(1, []int{7})
	answers(t, "Append", d.Append("a", []byte("xyz")), api.OK)
	shows(t, "P3.7: behind the fall", d.Files(), "a=1234512|xyz")
	shows(t, "DOC 3: the earlier image", image, "a=1234512|")
	d.Fall(0, []int{1})
	shows(t, "P3.7: a second fall", d.Files(), "a=1234512x|")
}

func TestExamples(t *testing.T) {
	d := made(t, 0)
	answers(t, "example 1: Create", d.Create("a"), api.OK)
	answers(t, "example 1: Append", d.Append("a", []byte("123")), api.OK)
	answers(t, "example 1: Sync", d.Sync("a"), api.OK)
	answers(t, "example 1: Append", d.Append("a", []byte("45")), api.OK)
	shows(t, "example 1: Files", d.Files(), "a=123|45")
	shows(t, "example 1: Image(0, none)", d.Image(0, nil), "")
	shows(t, "example 1: Image(1, none)", d.Image(1, nil), "a=123|")
	shows(t, "example 1: Image(1, {1})", d.Image(1, []int{1}), "a=1234|")
	answers(t, "example 2: SyncDir", d.SyncDir(), api.OK)
	answers(t, "example 2: Rename", d.Rename("a", "b"), api.OK)
	answers(t, "example 2: Create", d.Create("a"), api.OK)
	shows(t, "example 2: Image(0, none)", d.Image(0, nil), "a=123|")
	shows(t, "example 2: Image(1, {9})", d.Image(1, []int{9}), "b=12345|")
	shows(t, "example 2: Image(2, {9})", d.Image(2, []int{9}), "a=| b=12345|")
	d.Arm(4)
	answers(t, "example 3: Append", d.Append("b", []byte("67890")), api.ErrDiskDown)
	if !d.Down() {
		t.Error("example 3: not down")
	}
	shows(t, "example 3: Files", d.Files(), "a=| b=123|45678")
	d.Fall(2, []int{0, 4})
	shows(t, "example 3: behind Fall", d.Files(), "a=| b=1234567|")
	d = made(t, 0)
	d.Fail(1, 2, 2)
	answers(t, "example 4: Create", d.Create("x"), api.OK)
	answers(t, "example 4: Append", d.Append("x", []byte("12345")), api.ErrDiskFault)
	shows(t, "example 4: Files", d.Files(), "x=|12")
	answers(t, "example 4: Delete", d.Delete("y"), api.ErrDiskFault)
	answers(t, "example 4: Delete", d.Delete("y"), api.ErrDiskNone)
}

func TestSync(t *testing.T) {
	d := made(t, 0, text("a", "x", "y"), text("b", "", "z"))
	answers(t, "Sync", d.Sync("a"), api.OK)
	shows(t, "P3.3: of one file alone", d.Files(), "a=xy| b=|z")
	answers(t, "Append", d.Append("a", []byte("u")), api.OK)
	shows(t, "P3.3: what comes behind it is unsure", d.Files(), "a=xy|u b=|z")
	answers(t, "SyncDir", d.SyncDir(), api.OK)
	shows(t, "P3.3: SyncDir makes no bytes sure", d.Files(), "a=xy|u b=|z")
}

func TestRename(t *testing.T) {
	d := made(t, 0, text("a", "x", "y"), text("b", "z", ""))
	answers(t, "Rename to itself", d.Rename("a", "a"), api.OK)
	shows(t, "P3.3: to the same name", d.Files(), "a=x|y b=z|")
	answers(t, "Rename over a file", d.Rename("a", "b"), api.OK)
	shows(t, "P3.3: over a file", d.Files(), "b=x|y")
	answers(t, "Append", d.Append("b", []byte("u")), api.OK)
	answers(t, "Sync", d.Sync("b"), api.OK)
	answers(t, "Append", d.Append("b", []byte("v")), api.OK)
	shows(t, "P3.7: the file is the bytes it has now, under its earlier name", d.Image(0, nil), "a=xyu| b=z|")
	shows(t, "P3.4: to the same name is no change", d.Image(1, nil), "b=xyu|")
	answers(t, "Rename to a free name", d.Rename("b", "c"), api.OK)
	shows(t, "P3.7: none of two", d.Image(0, []int{9, 0}), "a=xyuv| b=z|")
	shows(t, "P3.7: one of two", d.Image(1, []int{9, 0}), "b=xyuv|")
	shows(t, "P3.7: two of two", d.Image(2, []int{9, 0}), "c=xyuv|")
}

func TestChangesOfTheDirectory(t *testing.T) {
	d := made(t, 0, text("a", "1", ""))
	answers(t, "Delete", d.Delete("a"), api.OK)
	answers(t, "Create", d.Create("a"), api.OK)
	answers(t, "Append", d.Append("a", []byte("2")), api.OK)
	answers(t, "Sync", d.Sync("a"), api.OK)
	answers(t, "Create", d.Create("b"), api.OK)
	answers(t, "Create twice", d.Create("b"), api.ErrDiskTwice)
	answers(t, "Delete of none", d.Delete("c"), api.ErrDiskNone)
	answers(t, "Rename to itself", d.Rename("b", "b"), api.OK)
	answers(t, "Rename over a file", d.Rename("a", "b"), api.OK)
	answers(t, "Delete", d.Delete("b"), api.OK)
	want := []string{"a=1|", "", "a=2|", "a=2| b=|", "b=2|", ""}
	for i, w := range want {
		shows(t, "P3.4, P3.7: the first "+strconv.Itoa(i)+" changes", d.Image(i, nil), w)
	}
	for _, i := range []int{6, 7, 1000, math.MaxInt} {
		shows(t, "P3.7: more than there are", d.Image(i, nil), "")
	}
	for _, i := range []int{-1, -5, math.MinInt} {
		shows(t, "P3.7: below none", d.Image(i, nil), "a=1|")
	}
	answers(t, "SyncDir", d.SyncDir(), api.OK)
	shows(t, "P3.4: SyncDir ends them", d.Image(0, nil), "")
	answers(t, "Create", d.Create("c"), api.OK)
	d.Fall(9, nil)
	shows(t, "P3.4: coming up ends them", d.Image(0, nil), "c=|")
}

func TestFailedCallsAreNoChanges(t *testing.T) {
	for _, c := range calls() {
		d := made(t, 0, text("a", "x", "y"))
		d.Fail(0, 1, 0)
		answers(t, "P3.9: "+c.what, c.do(d), api.ErrDiskFault)
		shows(t, "P3.9: behind "+c.what, d.Files(), "a=x|y")
		shows(t, "P3.4: no change by "+c.what, d.Image(1, nil), "a=x|")
		d.Arm(1)
		answers(t, "P3.8: "+c.what, c.do(d), api.ErrDiskDown)
		shows(t, "P3.8: behind "+c.what, d.Files(), "a=x|y")
		shows(t, "P3.4: no change by "+c.what, d.Image(1, nil), "a=x|")
	}
}

func TestAFailedSyncDirKeepsTheChanges(t *testing.T) {
	d := made(t, 0)
	answers(t, "Create", d.Create("a"), api.OK)
	d.Fail(0, 1, 0)
	answers(t, "P3.9: SyncDir", d.SyncDir(), api.ErrDiskFault)
	shows(t, "P3.9: not sure", d.Image(0, nil), "")
	d.Arm(1)
	answers(t, "P3.8: SyncDir", d.SyncDir(), api.ErrDiskDown)
	shows(t, "P3.8: not sure", d.Image(0, nil), "")
	shows(t, "P3.8: but there", d.Image(1, nil), "a=|")
}

func TestKeep(t *testing.T) {
	fresh := func() *Disk {
		return made(t, 0, text("a", "1", "234"), text("b", "", "567"), text("c", "89", ""), text("d", "", "0xyz"))
	}
	rows := []struct {
		keep []int
		want string
	}{
		{nil, "a=1| b=| c=89| d=|"},
		{[]int{}, "a=1| b=| c=89| d=|"},
		{[]int{0}, "a=1| b=| c=89| d=|"},
		{[]int{1}, "a=12| b=5| c=89| d=0|"},
		{[]int{2, 1}, "a=123| b=5| c=89| d=0|"},
		{[]int{0, 3, 7}, "a=1| b=567| c=89| d=|"},
		{[]int{1, 2, 3, 4}, "a=12| b=56| c=89| d=0xyz|"},
		{[]int{3, 3, 3, 3, 0}, "a=1234| b=567| c=89| d=0xy|"},
		{[]int{4}, "a=1234| b=567| c=89| d=0xyz|"},
		{[]int{math.MaxInt}, "a=1234| b=567| c=89| d=0xyz|"},
		{[]int{math.MinInt, -1, 9, 2}, "a=1| b=| c=89| d=0x|"},
	}
	for _, r := range rows {
		d := fresh()
		before := slices.Clone(r.keep)
		shows(t, "P3.7: Image", d.Image(0, r.keep), r.want)
		shows(t, "P3.7: nothing changes by Image", d.Files(), tell(fresh().Files()))
		d.Fall(0, r.keep)
		shows(t, "P3.7: Fall", d.Files(), r.want)
		if !slices.Equal(r.keep, before) {
			t.Errorf("DOC 3: keep was %v, is %v", before, r.keep)
		}
	}
}

// The i-th file is counted among those that have a name behind the fall, by the name that it has then.
func TestKeepCountsTheNamesOfThen(t *testing.T) {
	d := made(t, 0, text("b", "", "123"), text("c", "", "456"))
	answers(t, "Create", d.Create("a"), api.OK)
	answers(t, "Append", d.Append("a", []byte("789")), api.OK)
	answers(t, "Rename", d.Rename("b", "d"), api.OK)
	keep := []int{1, 2, 3}
	shows(t, "P3.7: two names", d.Image(0, keep), "b=1| c=45|")
	shows(t, "P3.7: three names", d.Image(1, keep), "a=7| b=12| c=456|")
	shows(t, "P3.7: others", d.Image(2, keep), "a=7| c=45| d=123|")
}

func TestFallClearsTheRigs(t *testing.T) {
	d := made(t, 0, text("a", "", ""))
	d.Arm(1)
	d.Fail(0, 9, 9)
	d.Fall(0, nil)
	answers(t, "P3.7: Append behind Fall", d.Append("a", []byte("x")), api.OK)
	d.Arm(1)
	answers(t, "P3.8: Append", d.Append("a", []byte("y")), api.ErrDiskDown)
	d.Arm(1)
	d.Fail(0, 9, 9)
	d.Fall(0, nil)
	for range 3 {
		answers(t, "P3.7: rigged while it was down", d.Append("a", []byte("x")), api.OK)
	}
	d.Fall(0, nil)
	d.Fall(0, nil)
	answers(t, "P3.7: Fall of a machine that is up", d.Sync("a"), api.OK)
}

func TestAFallWithinACallClearsFail(t *testing.T) {
	d := made(t, 0, text("a", "", ""))
	d.Fail(1, 9, 9)
	d.Arm(1)
	answers(t, "P3.8: Sync", d.Sync("a"), api.ErrDiskDown)
	if (d.rig != rig{}) {
		t.Errorf("P3.8: still rigged: %v", d.rig)
	}
}

func TestDown(t *testing.T) {
	d := made(t, 0, text("a", "", ""))
	steps := []struct {
		what string
		do   func()
		want bool
	}{
		{"nothing", func() {}, false},
		{"Fall", func() { d.Fall(0, nil) }, false},
		{"Arm", func() { d.Arm(1) }, false},
		{"a call that is refused", func() { d.Create("a") }, false},
		{"a call that falls", func() { d.Sync("a") }, true},
		{"Arm(0)", func() { d.Arm(0) }, true},
		{"Fail", func() { d.Fail(0, 0, 0) }, true},
		{"Image", func() { d.Image(0, nil) }, true},
		{"calls while down", func() { d.Sync("a"); d.Read("a"); d.Files() }, true},
		{"Fall", func() { d.Fall(0, nil) }, false},
		{"a call", func() { d.Sync("a") }, false},
	}
	for _, s := range steps {
		s.do()
		if d.Down() != s.want {
			t.Errorf("P3.10: behind %s: %v", s.what, d.Down())
		}
	}
}

func TestUnitsOfEachCall(t *testing.T) {
	costs := []int{1, 4, 1, 1, 1, 1, 1, 1}
	for i, c := range calls() {
		for units := 1; units <= costs[i]+1; units++ {
			d := made(t, 0, text("a", "x", "y"))
			d.Arm(units)
			err := c.do(d)
			want := "a=x|y"
			switch {
			case units > costs[i]:
				answers(t, "P3.8: "+c.what+" has its units", err, api.OK)
				shows(t, "P3.8: behind "+c.what, d.Files(), c.want)
				answers(t, "P3.8: behind "+c.what+" one is left", d.SyncDir(), api.ErrDiskDown)
				continue
			case c.what == "Append":
				want += "uvw"[:units-1]
			}
			answers(t, "P3.8: "+c.what+" falls at unit "+strconv.Itoa(units), err, api.ErrDiskDown)
			shows(t, "P3.8: behind "+c.what, d.Files(), want)
			if !d.Down() {
				t.Errorf("P3.10: behind %s not down", c.what)
			}
		}
	}
}

func TestUnitsAreCountedOn(t *testing.T) {
	d := made(t, 0)
	d.Arm(9)
	answers(t, "P3.8: unit 1", d.Create("a"), api.OK)
	answers(t, "P3.8: units 2 to 4", d.Append("a", []byte("12")), api.OK)
	answers(t, "P3.8: no unit for a wrong name", d.Sync("?"), api.ErrDiskName)
	answers(t, "P3.8: no unit for none", d.Sync("b"), api.ErrDiskNone)
	answers(t, "P3.8: unit 5", d.Sync("a"), api.OK)
	answers(t, "P3.8: units 6 to 9", d.Append("a", []byte("3456")), api.ErrDiskDown)
	shows(t, "P3.8: three bytes laid", d.Files(), "a=12|345")
}

func TestRefusedCallsCostNothing(t *testing.T) {
	for _, c := range wrongCalls() {
		d := made(t, 4, text("a", "x", "y"))
		d.Arm(1)
		answers(t, "P3.8: armed: "+c.what, c.do(d), c.err)
		answers(t, "P3.8: a call that goes on, behind "+c.what, d.Sync("a"), api.ErrDiskDown)
		d = made(t, 4, text("a", "x", "y"))
		d.Arm(1)
		d.Fail(0, 1, 0)
		answers(t, "P3.2: a fault comes ahead of "+c.what, c.do(d), api.ErrDiskFault)
		answers(t, "P3.8: a fault costs nothing", d.Sync("a"), api.ErrDiskDown)
	}
}

func TestArmAgain(t *testing.T) {
	for _, units := range []int{0, -1, math.MinInt} {
		d := made(t, 0, text("a", "", ""))
		d.Arm(1)
		d.Arm(units)
		answers(t, "P3.8: not armed any more", d.Append("a", make([]byte, 100)), api.OK)
	}
	d := made(t, 0, text("a", "", ""))
	d.Arm(1)
	d.Arm(3)
	answers(t, "P3.8: the second Arm holds", d.Append("a", []byte("1")), api.OK)
	answers(t, "P3.8: the second Arm holds", d.Append("a", []byte("2")), api.ErrDiskDown)
	shows(t, "P3.8: it counts from its call on", d.Files(), "a=|1")
	d = made(t, 0, text("a", "", ""))
	d.Arm(math.MaxInt)
	for range 100 {
		answers(t, "P3.8: the greatest number of units", d.Append("a", []byte("1")), api.OK)
	}
}

func TestFail(t *testing.T) {
	rows := []struct {
		after, calls int
		want         string // of five calls: + for OK, - for a fault
	}{
		{0, 0, "+++++"},
		{0, 1, "-++++"},
		{0, 2, "--+++"},
		{1, 1, "+-+++"},
		{2, 2, "++--+"},
		{4, 9, "++++-"},
		{5, 9, "+++++"},
		{3, 0, "+++++"},
		{-1, 2, "--+++"},
		{2, -1, "+++++"},
		{math.MinInt, math.MaxInt, "-----"},
		{math.MaxInt, math.MaxInt, "+++++"},
		{1, math.MinInt, "+++++"},
	}
	for _, r := range rows {
		d := made(t, 0)
		d.Fail(r.after, r.calls, 0)
		got := ""
		for range 5 {
			got += map[api.Errno]string{api.OK: "+", api.ErrDiskFault: "-"}[d.SyncDir()]
		}
		if got != r.want {
			t.Errorf("P3.9: Fail(%d, %d): %s, not %s", r.after, r.calls, got, r.want)
		}
	}
}

// Which calls are counted: those with right names, while the machine is up, whatever becomes of them.
func TestFailCounts(t *testing.T) {
	for _, c := range wrongCalls() {
		d := made(t, 4, text("a", "x", "y"))
		d.Fail(1, 1, 9)
		answers(t, "P3.9: it goes on: "+c.what, c.do(d), c.err)
		answers(t, "P3.9: it was counted: "+c.what, d.SyncDir(), api.ErrDiskFault)
		answers(t, "P3.9: behind them: "+c.what, d.SyncDir(), api.OK)
	}
	d := made(t, 0, text("a", "", ""))
	d.Fail(1, 1, 9)
	for _, name := range []string{"", "A"} {
		answers(t, "P3.9: Create of a wrong name", d.Create(name), api.ErrDiskName)
		answers(t, "P3.9: Rename to a wrong name", d.Rename("a", name), api.ErrDiskName)
		answers(t, "P3.9: Append to a wrong name", d.Append(name, []byte("x")), api.ErrDiskName)
	}
	answers(t, "P3.9: the first that is counted", d.SyncDir(), api.OK)
	answers(t, "P3.9: the second", d.SyncDir(), api.ErrDiskFault)
}

func TestFailAgain(t *testing.T) {
	d := made(t, 0, text("a", "", ""))
	d.Fail(0, 9, 9)
	d.Fail(1, 1, 1)
	answers(t, "P3.9: the second Fail holds", d.Append("a", []byte("12")), api.OK)
	answers(t, "P3.9: the second Fail holds", d.Append("a", []byte("34")), api.ErrDiskFault)
	answers(t, "P3.9: the second Fail holds", d.Append("a", []byte("56")), api.OK)
	shows(t, "P3.9: and its part", d.Files(), "a=|12356")
	d.Fail(0, 9, 9)
	d.Fail(0, 0, 0)
	answers(t, "P3.9: none any more", d.Sync("a"), api.OK)
}

func TestFailedAppend(t *testing.T) {
	rows := []struct {
		room, part int
		b, want    string
	}{
		{0, 0, "12345", "a=x|y"},
		{0, 1, "12345", "a=x|y1"},
		{0, 4, "12345", "a=x|y1234"},
		{0, 5, "12345", "a=x|y12345"},
		{0, 6, "12345", "a=x|y12345"},
		{0, math.MaxInt, "12345", "a=x|y12345"},
		{0, -1, "12345", "a=x|y"},
		{0, math.MinInt, "12345", "a=x|y"},
		{0, 3, "", "a=x|y"},
		{4, 2, "12345", "a=x|y12"},
		{4, 3, "12345", "a=x|y"},
		{4, 9, "12", "a=x|y12"},
		{4, 9, "123", "a=x|y"},
		{2, 1, "1", "a=x|y"},
		{2, 0, "1", "a=x|y"},
	}
	for _, r := range rows {
		d := made(t, r.room, text("a", "x", "y"))
		d.Fail(0, 1, r.part)
		what := "P3.9: room " + strconv.Itoa(r.room) + ", part " + strconv.Itoa(r.part) + " of " + r.b
		answers(t, what, d.Append("a", []byte(r.b)), api.ErrDiskFault)
		shows(t, what, d.Files(), r.want)
		answers(t, "P3.9: what was laid counts", d.Append("a", make([]byte, 3)), map[bool]api.Errno{true: api.OK, false: api.ErrDiskFull}[r.room == 0])
	}
	d := made(t, 0, text("a", "x", "y"))
	d.Fail(0, 1, 9)
	answers(t, "P3.9: to none", d.Append("b", []byte("1")), api.ErrDiskFault)
	shows(t, "P3.9: to none", d.Files(), "a=x|y")
	d.Arm(2)
	d.Fail(0, 2, 1)
	answers(t, "P3.9: armed", d.Append("a", []byte("12")), api.ErrDiskFault)
	answers(t, "P3.9: armed", d.Append("a", []byte("34")), api.ErrDiskFault)
	shows(t, "P3.9: what a fault lays costs no units", d.Files(), "a=x|y13")
	answers(t, "P3.8: armed still", d.Sync("a"), api.OK)
}

func TestSureStaysSure(t *testing.T) {
	d := made(t, 0)
	answers(t, "Create", d.Create("a"), api.OK)
	answers(t, "Append", d.Append("a", []byte("123")), api.OK)
	answers(t, "Sync", d.Sync("a"), api.OK)
	answers(t, "SyncDir", d.SyncDir(), api.OK)
	answers(t, "Append", d.Append("a", []byte("45")), api.OK)
	answers(t, "Rename", d.Rename("a", "b"), api.OK)
	answers(t, "Delete", d.Delete("b"), api.OK)
	for dir, want := range []string{"a=123|", "b=123|", ""} {
		shows(t, "P3.11: whatever is lost", d.Image(dir, nil), want)
	}
	d.Arm(2)
	answers(t, "Create", d.Create("a"), api.OK)
	answers(t, "Append", d.Append("a", []byte("9")), api.ErrDiskDown)
	shows(t, "P3.11: another file of the name", d.Image(0, []int{-1}), "a=123|")
	shows(t, "P3.11: another file of the name", d.Image(3, []int{-1}), "a=|")
	d.Fall(0, []int{-1})
	if b, err := d.Read("a"); !bytes.Equal(b, []byte("123")) || err != api.OK {
		t.Errorf("P3.11: Read: %q, %d", b, err)
	}
}
