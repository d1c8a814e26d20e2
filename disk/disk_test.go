package disk

import (
	"fmt"
	"math"
	"math/rand"
	"slices"
	"strings"
	"testing"
	"unsafe"

	"duepost/api"
)

// x answers so many letters.
func x(n int) string { return strings.Repeat("x", n) }

// on answers a new disk of so much room.
func on(t *testing.T, room int) *Disk {
	t.Helper()
	d, e := New(room)
	if d == nil || e != api.OK {
		t.Fatalf("New(%d): %v, %d", room, d, e)
	}
	return d
}

// with answers a new disk with files, given as names and bytes in turn, that are synced.
func with(t *testing.T, files ...string) *Disk {
	t.Helper()
	d := on(t, api.MaxQuota)
	for i := 0; i < len(files); i += 2 {
		must(t, api.OK, d.Append(files[i], files[i+1]))
		must(t, api.OK, d.Sync(files[i]))
	}
	return d
}

// must holds an error against what it is to be.
func must(t *testing.T, want, e api.Errno) {
	t.Helper()
	if e != want {
		t.Fatalf("%d, not %d", e, want)
	}
}

// reads holds a file's bytes, and how many of them wait, against what they are to be.
func reads(t *testing.T, d *Disk, name, want string, waits int) {
	t.Helper()
	if s, e := d.Read(name); s != want || e != api.OK || d.Waits(name) != waits {
		t.Fatalf("Read(%q): %.40q, %d, of which %d wait, not %.40q, of which %d", name, s, e, d.Waits(name), want, waits)
	}
}

// lacks holds that there is no such file.
func lacks(t *testing.T, d *Disk, name string) {
	t.Helper()
	if s, e := d.Read(name); s != "" || e != api.ErrNone || d.Waits(name) != 0 || slices.Contains(d.List(), name) {
		t.Fatalf("Read(%q): %.40q, %d; %d; %q", name, s, e, d.Waits(name), d.List())
	}
}

// tells answers all that a disk tells without an error.
func tells(d *Disk) string {
	s := fmt.Sprint(d.List(), d.Used(), d.Changes(), d.Down())
	for _, name := range d.List() {
		s += fmt.Sprint(" ", d.Waits(name))
	}
	return s
}

// holds answers all that a disk tells, and, if it is on, what is in its files.
func holds(d *Disk) string {
	s := tells(d)
	for _, name := range d.List() {
		bytes, e := d.Read(name)
		s += fmt.Sprintf(" %q %d", bytes, e)
	}
	return s
}

// P9.1: a room of 1 to 2^20 bytes.
func TestNew(t *testing.T) {
	for _, room := range []int{1, 2, 128, 4096, api.MaxQuota - 1, api.MaxQuota} {
		d := on(t, room)
		if s := tells(d); s != "[] 0 0 false" {
			t.Errorf("New(%d): %s", room, s)
		}
		must(t, api.ErrFull, d.Append("a", x(room+1)))
		must(t, api.OK, d.Append("a", x(room)))
		must(t, api.ErrFull, d.Append("a", "y"))
	}
	for _, room := range []int{0, -1, api.MaxQuota + 1, math.MinInt, math.MaxInt, 1 << 32} {
		if d, e := New(room); d != nil || e != api.ErrRange {
			t.Errorf("New(%d): %v, %d", room, d, e)
		}
	}
}

// named: texts that are names.
func named() []string {
	return []string{"a", "!", "~", "m.1", "h", "a/b", "..", "\"", strings.Repeat("n", 31), strings.Repeat("n", 32), strings.Repeat("~", 32)}
}

// unnamed: texts that are none.
func unnamed() []string {
	return []string{"", " ", "a b", " a", "a ", "\x7f", "a\x7f", "\x00", "a\x00", "\x20", "\n", "a\r", "\x80", "\xff", "a\xff", "é", "a\u00a1", "世", "\u0141", strings.Repeat("n", 33), strings.Repeat("n", 1000), strings.Repeat("é", 16)}
}

// each answers all answers of what has an error, of a file with a name.
func each(d *Disk, name string) []api.Errno {
	l := []api.Errno{d.Append(name, "x"), d.Sync(name), d.Rename(name, name)}
	_, e := d.Read(name)
	return append(l, e, d.Remove(name))
}

// P9.1: names of 1 to 32 bytes 33 to 126.
func TestNames(t *testing.T) {
	d := on(t, 1000)
	for _, name := range named() {
		if l := each(d, name); !slices.Equal(l, make([]api.Errno, 5)) {
			t.Errorf("%q: %d", name, l)
		}
	}
	for b := range 256 {
		want := api.ErrForm
		if b >= 33 && b <= 126 {
			want = api.OK
		}
		for _, name := range []string{string([]byte{byte(b)}), "a" + string([]byte{byte(b)}), string([]byte{byte(b)}) + "a"} {
			if l := each(d, name); !slices.Equal(l, slices.Repeat([]api.Errno{want}, 5)) {
				t.Errorf("%q: %d", name, l)
			}
		}
	}
	must(t, api.OK, d.Append("a", "b"))
	before := holds(d)
	for _, name := range unnamed() {
		if l := each(d, name); !slices.Equal(l, slices.Repeat([]api.Errno{api.ErrForm}, 5)) {
			t.Errorf("%q: %d", name, l)
		}
		must(t, api.ErrForm, d.Rename("a", name))
		must(t, api.ErrForm, d.Rename("none", name))
		must(t, api.ErrForm, d.Append(name, x(1001)))
		if s, e := d.Read(name); s != "" || e != api.ErrForm || d.Waits(name) != 0 {
			t.Errorf("Read(%q): %q, %d, %d", name, s, e, d.Waits(name))
		}
	}
	if s := holds(d); s != before {
		t.Errorf("%s, not %s", s, before)
	}
}

// P9.1, P9.2: bytes stand behind one another, and wait till they are synced.
func TestAppend(t *testing.T) {
	d := on(t, 100)
	must(t, api.OK, d.Append("a", "xy"))
	reads(t, d, "a", "xy", 2)
	must(t, api.OK, d.Append("a", "\x00\xffz"))
	reads(t, d, "a", "xy\x00\xffz", 5)
	must(t, api.OK, d.Append("a", ""))
	reads(t, d, "a", "xy\x00\xffz", 5)
	must(t, api.OK, d.Sync("a"))
	reads(t, d, "a", "xy\x00\xffz", 0)
	must(t, api.OK, d.Append("a", "1"))
	reads(t, d, "a", "xy\x00\xffz1", 1)
	must(t, api.OK, d.Append("b", ""))
	reads(t, d, "b", "", 0)
	must(t, api.OK, d.Append("B", "b"))
	reads(t, d, "b", "", 0)
	reads(t, d, "B", "b", 1)
	must(t, api.OK, d.Sync("B"))
	reads(t, d, "a", "xy\x00\xffz1", 1)
	if s := tells(d); s != "[B a b] 7 8 false 0 1 0" {
		t.Error(s)
	}
}

// P9.1: no more bytes than room, in all files together.
func TestRoom(t *testing.T) {
	d := on(t, 10)
	must(t, api.OK, d.Append("a", x(4)))
	must(t, api.OK, d.Sync("a"))
	must(t, api.OK, d.Append("b", x(3)))
	for _, name := range []string{"a", "b", "c"} {
		before := holds(d)
		must(t, api.ErrFull, d.Append(name, x(4)))
		must(t, api.ErrFull, d.Append(name, x(api.MaxQuota)))
		if s := holds(d); s != before {
			t.Fatalf("%s, not %s", s, before)
		}
	}
	must(t, api.OK, d.Append("c", x(3)))
	must(t, api.ErrFull, d.Append("c", "x"))
	must(t, api.ErrFull, d.Append("d", "x"))
	must(t, api.OK, d.Append("c", ""))
	must(t, api.OK, d.Append("d", ""))
	must(t, api.OK, d.Remove("b"))
	must(t, api.OK, d.Append("d", x(3)))
	must(t, api.OK, d.Rename("d", "a"))
	must(t, api.ErrFull, d.Append("d", x(5)))
	must(t, api.OK, d.Append("d", x(4)))
	d.Crash(1)
	d.Start()
	if s := tells(d); s != "[a c d] 3 10 false 0 0 0" {
		t.Error(s)
	}
	must(t, api.ErrFull, d.Append("d", x(8)))
	must(t, api.OK, d.Append("d", x(7)))
}

// P9.1: no more than 128 files.
func TestFiles(t *testing.T) {
	d := on(t, 200)
	for n := range 128 {
		must(t, api.OK, d.Append(fmt.Sprint("f", n), strings.Repeat("x", n%2)))
	}
	before := holds(d)
	must(t, api.ErrFull, d.Append("g", ""))
	must(t, api.ErrFull, d.Append("g", "x"))
	if s := holds(d); s != before || len(d.List()) != 128 || d.Used() != 64 {
		t.Fatalf("%s, not %s", s, before)
	}
	must(t, api.OK, d.Append("f0", "x"))
	must(t, api.OK, d.Rename("f1", "g"))
	must(t, api.ErrFull, d.Append("f1", ""))
	must(t, api.OK, d.Rename("g", "f2"))
	must(t, api.OK, d.Append("f1", ""))
	must(t, api.ErrFull, d.Append("g", ""))
	must(t, api.OK, d.Remove("f3"))
	must(t, api.OK, d.Append("g", ""))
	must(t, api.ErrFull, d.Append("f3", ""))
}

// P9.1: what isn't there.
func TestNone(t *testing.T) {
	for _, name := range append(named(), "b") {
		d := with(t, "q", "x")
		_, read := d.Read(name)
		for _, e := range []api.Errno{d.Sync(name), d.Remove(name), read, d.Rename(name, "q"), d.Rename(name, "c"), d.Rename(name, name)} {
			must(t, api.ErrNone, e)
		}
		lacks(t, d, name)
		if s := holds(d); s != `[q] 1 2 false 0 "x" 0` {
			t.Errorf("%q: %s", name, s)
		}
	}
	d := with(t, "a", "x")
	must(t, api.OK, d.Remove("a"))
	lacks(t, d, "a")
	must(t, api.ErrNone, d.Remove("a"))
}

// P9.1: a file of another name, and what waits with it.
func TestRename(t *testing.T) {
	d := with(t, "a", "old", "b", "gone", "c", "c")
	must(t, api.OK, d.Append("a", "new"))
	must(t, api.OK, d.Append("b", "gone, too"))
	must(t, api.OK, d.Rename("a", "b"))
	lacks(t, d, "a")
	reads(t, d, "b", "oldnew", 3)
	reads(t, d, "c", "c", 0)
	must(t, api.OK, d.Rename("b", "d"))
	lacks(t, d, "b")
	reads(t, d, "d", "oldnew", 3)
	must(t, api.OK, d.Append("b", "b"))
	reads(t, d, "d", "oldnew", 3)
	reads(t, d, "b", "b", 1)
	before, count := d.List(), d.Changes()
	must(t, api.OK, d.Rename("d", "d"))
	reads(t, d, "d", "oldnew", 3)
	if !slices.Equal(d.List(), before) || d.Changes() != count+1 || d.Used() != 8 {
		t.Errorf("%q, %d, %d", d.List(), d.Changes(), d.Used())
	}
	must(t, api.OK, d.Sync("d"))
	reads(t, d, "d", "oldnew", 0)
}

// P9.1: a disk that is off says so ahead of all others.
func TestDown(t *testing.T) {
	d := with(t, "a", "xy")
	must(t, api.OK, d.Append("a", "z"))
	d.Crash(0)
	before := tells(d)
	for _, name := range append(append(named(), unnamed()...), "a", "b") {
		if l := each(d, name); !slices.Equal(l, slices.Repeat([]api.Errno{api.ErrDown}, 5)) {
			t.Errorf("%q: %d", name, l)
		}
		must(t, api.ErrDown, d.Append(name, x(api.MaxQuota+1)))
		must(t, api.ErrDown, d.Rename("a", name))
		must(t, api.ErrDown, d.Rename(name, "a"))
		if s, e := d.Read(name); s != "" || e != api.ErrDown {
			t.Errorf("Read(%q): %q, %d", name, s, e)
		}
	}
	if s := tells(d); s != before || s != "[a] 2 3 true 0" {
		t.Errorf("%s, not %s", s, before)
	}
	d.Start()
	reads(t, d, "a", "xy", 0)
	d.Start()
	reads(t, d, "a", "xy", 0)
	must(t, api.OK, d.Append("a", "z"))
}

// P9.2, P9.3: a failure keeps what was synced, and so many bytes of what waits.
func TestCrash(t *testing.T) {
	for _, c := range []struct {
		keep       int
		a, b, c, e string
	}{
		{0, "", "syn", "xy", ""}, {1, "x", "sync", "xy", ""}, {2, "xy", "synce", "xy", ""}, {3, "xy", "synced", "xy", ""}, {4, "xy", "synced", "xy", ""},
		{-1, "", "syn", "xy", ""}, {math.MinInt, "", "syn", "xy", ""}, {math.MaxInt, "xy", "synced", "xy", ""}, {math.MaxInt - 2, "xy", "synced", "xy", ""}, {1 << 32, "xy", "synced", "xy", ""},
	} {
		d := with(t, "b", "syn", "c", "xy")
		must(t, api.OK, d.Append("a", "xy"))
		must(t, api.OK, d.Append("b", "c"))
		must(t, api.OK, d.Append("b", "ed"))
		must(t, api.OK, d.Append("e", ""))
		d.Crash(c.keep)
		used := len(c.a) + len(c.b) + len(c.c)
		if s := tells(d); s != fmt.Sprintf("[a b c e] %d 8 true 0 0 0 0", used) {
			t.Errorf("Crash(%d): %s", c.keep, s)
		}
		d.Start()
		reads(t, d, "a", c.a, 0)
		reads(t, d, "b", c.b, 0)
		reads(t, d, "c", c.c, 0)
		reads(t, d, "e", c.e, 0)
		// What a failure left isn't lost by the next one, and what comes behind it stands there.
		must(t, api.OK, d.Append("b", "!?"))
		reads(t, d, "b", c.b+"!?", 2)
		d.Crash(1)
		d.Start()
		reads(t, d, "a", c.a, 0)
		reads(t, d, "b", c.b+"!", 0)
	}
}

// P9.2: a disk that is off can't fail.
func TestCrashTwice(t *testing.T) {
	d := on(t, 10)
	must(t, api.OK, d.Append("a", "xyz"))
	d.Crash(2)
	d.Arm(api.Cut{At: 1, Keep: 1})
	d.Crash(0)
	if s := tells(d); s != "[a] 2 0 true 0" {
		t.Error(s)
	}
	d.Start()
	reads(t, d, "a", "xy", 0)
	must(t, api.ErrDown, d.Append("a", "123"))
	d.Start()
	reads(t, d, "a", "xy1", 0)
}

// P9.3: names are as they were made at once, whatever becomes of bytes.
func TestNamesLast(t *testing.T) {
	d := with(t, "a", "a", "b", "b", "c", "c")
	must(t, api.OK, d.Append("new", "lost"))
	must(t, api.OK, d.Append("a", "lost"))
	must(t, api.OK, d.Rename("a", "moved"))
	must(t, api.OK, d.Remove("b"))
	must(t, api.OK, d.Append("over", "lost"))
	must(t, api.OK, d.Rename("over", "c"))
	d.Crash(0)
	d.Start()
	if s := holds(d); s != `[c moved new] 1 12 false 0 0 0 "" 0 "a" 0 "" 0` {
		t.Error(s)
	}
}

// shift: a change, and what a disk holds behind it, if it is done, and if the power fails at it, keeping 1.
type shift struct {
	do        func(d *Disk) api.Errno
	done, cut string
}

// shifts: changes of each kind.
func shifts() []shift {
	return []shift{
		{func(d *Disk) api.Errno { return d.Append("a", "12") }, `[a b] 7 5 false 4 1 "xy12" 0 "syn" 0`, `[a b] 4 5 false 0 0 "x" 0 "syn" 0`},
		{func(d *Disk) api.Errno { return d.Append("b", "12") }, `[a b] 7 5 false 2 3 "xy" 0 "syn12" 0`, `[a b] 4 5 false 0 0 "x" 0 "syn" 0`},
		{func(d *Disk) api.Errno { return d.Append("c", "12") }, `[a b c] 7 5 false 2 1 2 "xy" 0 "syn" 0 "12" 0`, `[a b c] 5 5 false 0 0 0 "x" 0 "syn" 0 "1" 0`},
		{func(d *Disk) api.Errno { return d.Append("c", "") }, `[a b c] 5 5 false 2 1 0 "xy" 0 "syn" 0 "" 0`, `[a b c] 4 5 false 0 0 0 "x" 0 "syn" 0 "" 0`},
		{func(d *Disk) api.Errno { return d.Sync("a") }, `[a b] 5 5 false 0 1 "xy" 0 "syn" 0`, `[a b] 4 5 false 0 0 "x" 0 "syn" 0`},
		{func(d *Disk) api.Errno { return d.Sync("b") }, `[a b] 5 5 false 2 0 "xy" 0 "syn" 0`, `[a b] 4 5 false 0 0 "x" 0 "syn" 0`},
		{func(d *Disk) api.Errno { return d.Rename("a", "b") }, `[b] 2 5 false 2 "xy" 0`, `[a b] 4 5 false 0 0 "x" 0 "syn" 0`},
		{func(d *Disk) api.Errno { return d.Rename("a", "c") }, `[b c] 5 5 false 1 2 "syn" 0 "xy" 0`, `[a b] 4 5 false 0 0 "x" 0 "syn" 0`},
		{func(d *Disk) api.Errno { return d.Rename("a", "a") }, `[a b] 5 5 false 2 1 "xy" 0 "syn" 0`, `[a b] 4 5 false 0 0 "x" 0 "syn" 0`},
		{func(d *Disk) api.Errno { return d.Remove("a") }, `[b] 3 5 false 1 "syn" 0`, `[a b] 4 5 false 0 0 "x" 0 "syn" 0`},
	}
}

// start answers a disk with a file that was never synced, and one whose end waits.
func start(t *testing.T) *Disk {
	t.Helper()
	d := with(t, "b", "sy")
	must(t, api.OK, d.Append("b", "n"))
	must(t, api.OK, d.Append("a", "xy"))
	return d
}

// P9.1, P9.2: each change, done and cut.
func TestChanges(t *testing.T) {
	for i, c := range shifts() {
		d := start(t)
		must(t, api.OK, c.do(d))
		if s := holds(d); s != c.done {
			t.Errorf("%d: %s, not %s", i, s, c.done)
		}
		d = start(t)
		d.Arm(api.Cut{At: 5, Keep: 1})
		for range 4 {
			must(t, api.OK, d.Rename("a", "a"))
		}
		must(t, api.ErrDown, c.do(d))
		if !d.Down() {
			t.Errorf("%d: it is on", i)
		}
		d.Start()
		if s := holds(d); s != c.cut {
			t.Errorf("%d, cut: %s, not %s", i, s, c.cut)
		}
	}
}

// P9.1: what an armed failure at an Append keeps.
func TestKeep(t *testing.T) {
	for _, keep := range []int{math.MinInt, -1, 0, 1, 2, 3, 4, 5, 6, math.MaxInt} {
		d := with(t, "a", "123", "b", "")
		must(t, api.OK, d.Append("a", "45"))
		must(t, api.OK, d.Append("b", "abcd"))
		d.Arm(api.Cut{At: 1, Keep: keep})
		must(t, api.ErrDown, d.Append("a", "678"))
		d.Start()
		most := max(keep, 0)
		reads(t, d, "a", "123"+"45678"[:min(most, 5)], 0)
		reads(t, d, "b", "abcd"[:min(most, 4)], 0)
	}
}

// P9.1, P9.2: what has an error is no change.
func TestNoChange(t *testing.T) {
	d, _ := New(4)
	must(t, api.OK, d.Append("a", "xyz"))
	must(t, api.OK, d.Append("b", ""))
	d.Arm(api.Cut{At: 1, Keep: 0})
	_, read := d.Read("a")
	must(t, api.OK, read)
	_, read = d.Read("c")
	must(t, api.ErrNone, read)
	for _, e := range []api.Errno{d.Sync("c"), d.Rename("c", "a"), d.Remove("c")} {
		must(t, api.ErrNone, e)
	}
	for _, e := range []api.Errno{d.Append("", ""), d.Sync(" "), d.Rename("a", ""), d.Rename("", "a"), d.Remove("\n")} {
		must(t, api.ErrForm, e)
	}
	must(t, api.ErrFull, d.Append("b", "12"))
	d.Start()
	if s := holds(d); s != `[a b] 3 0 false 3 0 "xyz" 0 "" 0` {
		t.Fatal(s)
	}
	must(t, api.ErrDown, d.Sync("b"))
	must(t, api.ErrDown, d.Sync("b"))
	if s := tells(d); s != "[a b] 0 1 true 0 0" {
		t.Error(s)
	}
}

// P9.2: changes are counted from when the disk was armed last, and on behind a failure.
func TestCount(t *testing.T) {
	d := start(t)
	for n := range 3 {
		must(t, api.OK, d.Sync("a"))
		if d.Changes() != n+5 {
			t.Fatalf("%d, not %d", d.Changes(), n+5)
		}
	}
	d.Arm(api.Cut{At: 3})
	for n := range 2 {
		if d.Changes() != n {
			t.Fatalf("%d, not %d", d.Changes(), n)
		}
		must(t, api.OK, d.Append("a", "x"))
	}
	must(t, api.ErrDown, d.Append("a", "x"))
	if d.Changes() != 3 {
		t.Fatal(d.Changes())
	}
	must(t, api.ErrDown, d.Append("a", "x"))
	d.Start()
	// It was disarmed: no later change has the number again.
	for n := range 10 {
		if d.Changes() != n+3 {
			t.Fatalf("%d, not %d", d.Changes(), n+3)
		}
		must(t, api.OK, d.Append("a", "x"))
	}
	d.Arm(api.Cut{At: 5})
	must(t, api.OK, d.Sync("a"))
	d.Arm(api.Cut{At: 2})
	must(t, api.OK, d.Sync("a"))
	must(t, api.ErrDown, d.Sync("a"))
}

// P9.1: a number below 1 arms nothing, and a disk that was armed isn't any more.
func TestUnarmed(t *testing.T) {
	for _, at := range []int{0, -1, -5, math.MinInt} {
		d := start(t)
		d.Arm(api.Cut{At: 2, Keep: 9})
		d.Arm(api.Cut{At: at, Keep: 9})
		for n := range 20 {
			if d.Changes() != n {
				t.Fatalf("%d, not %d", d.Changes(), n)
			}
			must(t, api.OK, d.Append("a", "x"))
		}
	}
}

// P9.1: a failure that wasn't the armed one disarms, too.
func TestDisarmed(t *testing.T) {
	d := start(t)
	d.Arm(api.Cut{At: 2, Keep: 9})
	must(t, api.OK, d.Append("a", "z"))
	d.Crash(0)
	d.Start()
	for range 5 {
		must(t, api.OK, d.Append("a", "z"))
	}
	reads(t, d, "a", "zzzzz", 5)
	d.Crash(0)
	d.Arm(api.Cut{At: 1, Keep: 2}) // while it is off
	must(t, api.ErrDown, d.Append("a", "z"))
	if d.Changes() != 0 {
		t.Errorf("%d changes", d.Changes())
	}
	d.Start()
	must(t, api.ErrDown, d.Append("a", "xyz"))
	d.Start()
	reads(t, d, "a", "xy", 0)
}

// plainFile and plain: a disk as the chapter tells it, by other means: bytes that last and bytes that wait, in a row of files by name.
type plainFile struct{ name, lasts, waits string }

type plain struct {
	room, at, keep, changes int
	off                     bool
	files                   []plainFile
}

// find answers where a file stands.
func (p *plain) find(name string) int {
	return slices.IndexFunc(p.files, func(f plainFile) bool { return f.name == name })
}

// named answers if a text is a name.
func (p *plain) named(name string) bool {
	for i := range len(name) {
		if name[i] <= ' ' || name[i] >= 127 {
			return false
		}
	}
	return name != "" && len(name) < 33
}

// used answers how many bytes there are.
func (p *plain) used() int {
	n := 0
	for _, f := range p.files {
		n += len(f.lasts + f.waits)
	}
	return n
}

// fail cuts the power.
func (p *plain) fail(keep int) {
	if p.off {
		return
	}
	for i, f := range p.files {
		for n := 0; n < keep && n < len(f.waits); n++ {
			p.files[i].lasts += f.waits[n : n+1]
		}
		p.files[i].waits = ""
	}
	p.off, p.at = true, 0
}

// drop takes a file away.
func (p *plain) drop(name string) {
	if i := p.find(name); i >= 0 {
		p.files = slices.Delete(p.files, i, i+1)
	}
}

// act does what a verb says, and answers what is to be answered.
func (p *plain) act(verb, name, more string) (string, api.Errno) {
	if p.off {
		return "", api.ErrDown
	}
	if !p.named(name) || verb == "rename" && !p.named(more) {
		return "", api.ErrForm
	}
	i := p.find(name)
	if verb == "append" {
		if p.used()+len(more) > p.room || i < 0 && len(p.files) == 128 {
			return "", api.ErrFull
		}
	} else if i < 0 {
		return "", api.ErrNone
	}
	if verb == "read" {
		return p.files[i].lasts + p.files[i].waits, api.OK
	}
	p.changes++
	cut := p.at > 0 && p.changes == p.at
	switch {
	case verb == "append":
		if i < 0 {
			p.files, i = append(p.files, plainFile{name: name}), len(p.files)
		}
		p.files[i].waits += more
	case cut:
	case verb == "sync":
		p.files[i].lasts, p.files[i].waits = p.files[i].lasts+p.files[i].waits, ""
	case verb == "remove":
		p.drop(name)
	case name != more:
		p.drop(more)
		p.files[p.find(name)].name = more
	}
	if cut {
		p.fail(p.keep)
		return "", api.ErrDown
	}
	return "", api.OK
}

// tells answers all that it tells without an error.
func (p *plain) tells() string {
	files := slices.SortedFunc(slices.Values(p.files), func(a, b plainFile) int { return strings.Compare(a.name, b.name) })
	var names []string
	waits := ""
	for _, f := range files {
		names = append(names, f.name)
		waits += fmt.Sprint(" ", len(f.waits))
	}
	return fmt.Sprint(names, p.used(), p.changes, p.off) + waits
}

// act does what a verb says to the disk.
func act(d *Disk, verb, name, more string) (string, api.Errno) {
	switch verb {
	case "append":
		return "", d.Append(name, more)
	case "sync":
		return "", d.Sync(name)
	case "rename":
		return "", d.Rename(name, more)
	case "remove":
		return "", d.Remove(name)
	}
	return d.Read(name)
}

// beside holds what a verb is answered, by the disk and by the plain one, against each other.
func beside(t *testing.T, d *Disk, p *plain, verb, name, more string) {
	t.Helper()
	s, e := act(d, verb, name, more)
	if want, err := p.act(verb, name, more); s != want || e != err || tells(d) != p.tells() {
		t.Fatalf("%s %q %.40q: %.80q, %d, %s, not %.80q, %d, %s", verb, name, more, s, e, tells(d), want, err, p.tells())
	}
}

// P9.1 to P9.3: long rows of all that may be said, held against the plain disk.
func TestRows(t *testing.T) {
	draw := rand.New(rand.NewSource(9))
	verbs := []string{"append", "append", "append", "sync", "rename", "remove", "read", "read"}
	names := []string{"a", "b", "c", "m.1", "m.10", "m.2", "~", "!", strings.Repeat("n", 32), "", " ", "\xff", strings.Repeat("n", 33)}
	for row := range 400 {
		room := 1 + draw.Intn(60)
		d, p := on(t, room), &plain{room: room}
		for range 150 {
			name, other := names[draw.Intn(len(names))], names[draw.Intn(len(names))]
			verb := verbs[draw.Intn(len(verbs))]
			if verb == "append" {
				other = "0123456789abcdefghijklmnopqrstuvwxyz"[draw.Intn(20):][:draw.Intn(16)]
			}
			beside(t, d, p, verb, name, other)
			keep := draw.Intn(12) - 2
			switch draw.Intn(12) {
			case 0:
				p.at, p.keep, p.changes = draw.Intn(9)-2, keep, 0
				d.Arm(api.Cut{At: p.at, Keep: p.keep})
			case 1:
				p.fail(keep)
				d.Crash(keep)
			case 2, 3, 4:
				p.off = false
				d.Start()
			}
			if tells(d) != p.tells() {
				t.Fatalf("row %d: %s, not %s", row, tells(d), p.tells())
			}
		}
	}
}

// P9.3: one row of changes, cut at each of them, keeping any number: what was synced is there, and a beginning of what wasn't.
func TestCuts(t *testing.T) {
	row := []struct{ verb, name, more string }{
		{"append", "t", "one"}, {"sync", "t", ""}, {"append", "t", "two"}, {"rename", "t", "m"}, {"append", "s", "four"}, {"append", "m", "!"}, {"sync", "s", ""},
		{"append", "s", "five"}, {"sync", "m", ""}, {"append", "c", "seven"}, {"sync", "c", ""}, {"rename", "c", "s"}, {"remove", "m", ""}, {"append", "m", "m"}, {"remove", "s", ""},
	}
	for at := 1; at <= len(row)+1; at++ {
		for keep := range 12 {
			d, p := on(t, 100), &plain{room: 100, at: at, keep: keep}
			d.Arm(api.Cut{At: at, Keep: keep})
			for _, step := range row {
				beside(t, d, p, step.verb, step.name, step.more)
			}
			if d.Down() != (at <= len(row)) {
				t.Fatalf("%d: off is %v", at, d.Down())
			}
			d.Start()
			p.off = false
			for _, name := range []string{"t", "m", "s", "c"} {
				beside(t, d, p, "read", name, "")
			}
		}
	}
}

// P9.2: disks have nothing to do with each other, and what is asked changes nothing.
func TestAlone(t *testing.T) {
	a, b := on(t, 10), on(t, 10)
	must(t, api.OK, a.Append("a", "xyz"))
	must(t, api.OK, b.Append("a", "1"))
	a.Arm(api.Cut{At: 1})
	must(t, api.OK, b.Append("b", "2"))
	a.Crash(0)
	if s := holds(b); s != `[a b] 2 2 false 1 1 "1" 0 "2" 0` || s != holds(b) {
		t.Error(s)
	}
}

// Rule 3: what is answered is new, and nothing that was handed in is kept.
func TestApart(t *testing.T) {
	given := []byte("namename and bytes")
	name, bytes := unsafe.String(&given[0], 4), unsafe.String(&given[9], 9)
	other := unsafe.String(&given[4], 2)
	d := on(t, 1000)
	must(t, api.OK, d.Append(name, bytes))
	must(t, api.OK, d.Append("old", bytes))
	must(t, api.OK, d.Rename("old", other))
	copy(given, strings.Repeat("?", len(given)))
	if s := holds(d); s != `[na name] 18 3 false 9 9 "and bytes" 0 "and bytes" 0` {
		t.Fatal(s)
	}
	l, m := d.List(), d.List()
	for i := range l {
		if unsafe.StringData(l[i]) == unsafe.StringData(m[i]) {
			t.Errorf("%q is in two lists", l[i])
		}
		l[i] = "changed"
	}
	s, _ := d.Read("name")
	must(t, api.OK, d.Append("name", "!"))
	d.Crash(0)
	d.Start()
	must(t, api.OK, d.Append("name", "other bytes"))
	if s != "and bytes" || !slices.Equal(m, []string{"na", "name"}) || !slices.Equal(d.List(), m) {
		t.Errorf("%q, %q, %q", s, m, d.List())
	}
	reads(t, d, "name", "other bytes", 11)
}

// Rule 5: a great disk, byte by byte.
func TestGreat(t *testing.T) {
	d := on(t, api.MaxQuota)
	for range 1 << 14 {
		must(t, api.OK, d.Append("a", "x"))
		must(t, api.OK, d.Append("b", x(63)))
	}
	must(t, api.ErrFull, d.Append("c", "x"))
	must(t, api.OK, d.Sync("b"))
	d.Crash(1000)
	d.Start()
	reads(t, d, "a", x(1000), 0)
	reads(t, d, "b", x(63<<14), 0)
}
