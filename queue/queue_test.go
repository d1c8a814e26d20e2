package queue

import (
	"encoding/binary"
	"fmt"
	"hash/crc32"
	"math"
	"math/rand"
	"slices"
	"strings"
	"testing"
	"time"
	"unsafe"

	"duepost/api"
	"duepost/disk"
	"duepost/envelope"
	"duepost/param"
	"duepost/path"
)

// to answers a recipient of whom nothing is said.
func to(local, domain string) envelope.Rcpt {
	return envelope.Rcpt{Path: path.Path{Local: local, Domain: domain}}
}

// message answers one with a number, to so many recipients, that tells it from others.
func message(id, rcpts int) envelope.Message {
	m := envelope.Message{Id: id, At: id % 100, Release: id%100 + 5, From: path.Path{Local: "a", Domain: "b"}, Lines: []string{fmt.Sprint("Subject: ", id), "", ".", "x"}}
	for n := range rcpts {
		m.Rcpts = append(m.Rcpts, to(fmt.Sprint("c", n), "d"))
	}
	return m
}

// full answers a message of which all is said that can be.
func full(id int) envelope.Message {
	return envelope.Message{
		Id: id, At: 1 << 40, Release: 1<<40 + 1<<20, From: path.Path{Local: `a "b\ `, Domain: "c.d"},
		Mail: param.Mail{Has: param.Has{Size: true, HoldFor: true, By: true, Priority: true}, Size: 3, HoldFor: 22, By: -5, Priority: -9, Mode: "NT", Body: "8BITMIME", Ret: "FULL", Envid: "x y\r\n"},
		Rcpts: []envelope.Rcpt{
			{Path: path.Path{Local: "e", Domain: "f"}, Rcpt: param.Rcpt{Notify: "SFD", Kind: "RFC822", Orcpt: "e@f =\x00"}},
			to("postmaster", ""),
			{Path: path.Path{Local: "g", Domain: "1-2.h"}, Rcpt: param.Rcpt{Notify: "N"}},
		},
		Lines: []string{"Subject: x", "", ".", "..", " \t\xff\x01", ""},
	}
}

// status answers one of a recipient's that was tried so often.
func status(place, tries int) envelope.Status {
	return envelope.Status{Place: place, State: "R", Tries: tries, Next: 10 * tries, Told: tries % 8}
}

// start answers what a message's statuses are at first.
func start(m envelope.Message) []envelope.Status {
	l := make([]envelope.Status, len(m.Rcpts))
	for i := range l {
		l[i].Place, l[i].State, l[i].Next = i, "R", m.Release
	}
	return l
}

// framed answers a record's frame by other means than layer 8.
func framed(record string) string {
	b := binary.LittleEndian.AppendUint16(nil, uint16(len(record)))
	b = binary.LittleEndian.AppendUint32(b, crc32.ChecksumIEEE(b))
	return string(binary.LittleEndian.AppendUint32(append(b, record...), crc32.ChecksumIEEE([]byte(record))))
}

// letter answers the bytes that a message's file has.
func letter(t *testing.T, m envelope.Message) string {
	t.Helper()
	record, e := envelope.Print(m)
	must(t, api.OK, e)
	return framed(record)
}

// slips answers the bytes that a file of statuses has.
func slips(l ...envelope.Status) string {
	var s strings.Builder
	for _, k := range l {
		s.WriteString(framed(fmt.Sprintf("S %d %s %d %d %d", k.Place, k.State, k.Tries, k.Next, k.Told)))
	}
	return s.String()
}

// must holds an error against what it is to be.
func must(t *testing.T, want, e api.Errno) {
	t.Helper()
	if e != want {
		t.Fatalf("%d, not %d", e, want)
	}
}

// on answers a new disk of so much room.
func on(t *testing.T, room int) *disk.Disk {
	t.Helper()
	d, e := disk.New(room)
	must(t, api.OK, e)
	return d
}

// with answers a new disk with files, given as names and bytes in turn, that are synced.
func with(t *testing.T, files ...string) *disk.Disk {
	t.Helper()
	d := on(t, api.MaxQuota)
	for i := 0; i < len(files); i += 2 {
		must(t, api.OK, d.Append(files[i], files[i+1]))
		must(t, api.OK, d.Sync(files[i]))
	}
	d.Arm(api.Cut{})
	return d
}

// opened answers the queue that is on a disk.
func opened(t *testing.T, d *disk.Disk) *Queue {
	t.Helper()
	q, e := Open(d)
	if q == nil || e != api.OK {
		t.Fatalf("Open: %v, %d", q, e)
	}
	return q
}

// fresh answers a queue, and the disk that it is on.
func fresh(t *testing.T) (*Queue, *disk.Disk) {
	t.Helper()
	d := on(t, api.MaxQuota)
	return opened(t, d), d
}

// has holds a disk's files, and that none of their bytes wait, against what they are to be, given as names and bytes in turn, by names.
func has(t *testing.T, d *disk.Disk, files ...string) {
	t.Helper()
	var got []string
	for _, name := range d.List() {
		s, e := d.Read(name)
		must(t, api.OK, e)
		got = append(got, name, s)
		if d.Waits(name) != 0 {
			t.Fatalf("of %q %d bytes wait", name, d.Waits(name))
		}
	}
	if !slices.Equal(got, files) {
		t.Fatalf("%.2000q, not %.2000q", got, files)
	}
}

// files answers a disk's files, as has takes them.
func files(d *disk.Disk) []string {
	var l []string
	for _, name := range d.List() {
		s, _ := d.Read(name)
		l = append(l, name, s)
	}
	return l
}

// is holds a message, and its statuses, against what they are to be.
func is(t *testing.T, q *Queue, want envelope.Message, statuses ...envelope.Status) {
	t.Helper()
	m, l, e := q.Get(want.Id)
	if !envelope.Same(m, want) || !slices.Equal(l, statuses) || e != api.OK {
		t.Fatalf("Get(%d): %.500q, %v, %d, not %.500q, %v", want.Id, fmt.Sprint(m), l, e, fmt.Sprint(want), statuses)
	}
}

// lacks holds that there is no such message.
func lacks(t *testing.T, q *Queue, id int) {
	t.Helper()
	m, l, e := q.Get(id)
	if !envelope.Same(m, envelope.Message{}) || len(l) != 0 || e != api.ErrNone || slices.Contains(q.Ids(), id) {
		t.Fatalf("Get(%d): %v, %v, %d; %d", id, m, l, e, q.Ids())
	}
}

// tells answers all that a queue tells.
func tells(q *Queue) string {
	s := fmt.Sprint(q.Ids(), q.Next())
	for _, id := range q.Ids() {
		m, l, e := q.Get(id)
		s += fmt.Sprintf(" %+v %v %d", m, l, e)
	}
	return s
}

// P11.1: a letter, a ., and the number in digits.
func TestName(t *testing.T) {
	for _, k := range []struct {
		letter string
		id     int
		want   string
	}{
		{"m", 1, "m.1"}, {"s", 10, "s.10"}, {"t", 2147483647, "t.2147483647"}, {"c", 0, "c.0"}, {"h", 123, "h.123"}, {"m", 100, "m.100"}, {"", 7, ".7"}, {"xy", 7, "xy.7"},
	} {
		if s := Name(k.letter, k.id); s != k.want {
			t.Errorf("Name(%q, %d): %q, not %q", k.letter, k.id, s, k.want)
		}
	}
}

// P11.1, P11.3: nothing on a disk.
func TestEmpty(t *testing.T) {
	q, d := fresh(t)
	if len(q.Ids()) != 0 || q.Next() != 1 || d.Changes() != 0 {
		t.Errorf("%d, %d, %d", q.Ids(), q.Next(), d.Changes())
	}
	has(t, d)
	for _, id := range []int{0, 1, -1, math.MaxInt, math.MinInt} {
		lacks(t, q, id)
		must(t, api.ErrNone, q.Drop(id))
		must(t, api.ErrNone, q.Mark(id, status(0, 1)))
	}
	if d.Changes() != 0 {
		t.Error(d.Changes())
	}
	has(t, d)
}

// all: messages of many kinds, by rising numbers.
func all() []envelope.Message {
	null := message(9, 1)
	null.From, null.Lines = path.Path{}, nil
	great := message(10, 8)
	great.Lines = slices.Repeat([]string{strings.Repeat("x", 998)}, 4)
	return []envelope.Message{message(1, 1), message(2, 8), full(3), null, great, message(100, 2), full(2147483646), message(math.MaxInt32, 3)}
}

// P11.2, P11.3: what was added is there, as a file that lasts, and each recipient as at first.
func TestAdd(t *testing.T) {
	for _, m := range all() {
		q, d := fresh(t)
		must(t, api.OK, q.Add(m))
		has(t, d, fmt.Sprint("m.", m.Id), letter(t, m))
		if d.Changes() != 3 || !slices.Equal(q.Ids(), []int{m.Id}) || q.Next() != m.Id+1 {
			t.Errorf("%d: %d changes, %d, %d", m.Id, d.Changes(), q.Ids(), q.Next())
		}
		is(t, q, m, start(m)...)
		d.Crash(0)
		d.Start()
		d.Arm(api.Cut{})
		again := opened(t, d)
		is(t, again, m, start(m)...)
		has(t, d, fmt.Sprint("m.", m.Id), letter(t, m))
		if d.Changes() != 0 || tells(q) != tells(again) {
			t.Errorf("%d changes, %s, not %s", d.Changes(), tells(again), tells(q))
		}
	}
	l := start(full(3))
	if want := (envelope.Status{Place: 2, State: "R", Tries: 0, Next: 1<<40 + 1<<20, Told: 0}); l[2] != want {
		t.Errorf("%v", l)
	}
}

// P11.3: many messages, added in any order.
func TestIds(t *testing.T) {
	draw := rand.New(rand.NewSource(11))
	for range 50 {
		q, d := fresh(t)
		var want []int
		for _, n := range draw.Perm(40)[:32] {
			m := message(n*n+1, 1+n%8)
			must(t, api.OK, q.Add(m))
			want = append(want, m.Id)
			slices.Sort(want)
			if !slices.Equal(q.Ids(), want) || q.Next() != want[len(want)-1]+1 {
				t.Fatalf("%d, %d, not %d", q.Ids(), q.Next(), want)
			}
		}
		if s := tells(opened(t, d)); s != tells(q) {
			t.Fatalf("%s, not %s", s, tells(q))
		}
		for len(want) > 0 {
			n := draw.Intn(len(want))
			must(t, api.OK, q.Drop(want[n]))
			lacks(t, q, want[n])
			want = slices.Delete(want, n, n+1)
			next := 1
			if len(want) > 0 {
				next = want[len(want)-1] + 1
			}
			if !slices.Equal(q.Ids(), want) || q.Next() != next {
				t.Fatalf("%d, %d, not %d, %d", q.Ids(), q.Next(), want, next)
			}
		}
	}
}

// wrong: messages that are none, and why.
func wrong() map[api.Errno]envelope.Message {
	number, form, long, kind := message(1, 1), message(1, 1), message(1, 9), message(1, 1)
	number.Release = number.At - 1
	form.Lines = []string{"\n"}
	kind.Mail = param.Mail{Has: param.Has{HoldFor: true, HoldUntil: true}, HoldFor: 1}
	return map[api.Errno]envelope.Message{api.ErrRange: number, api.ErrForm: form, api.ErrLong: long, api.ErrState: kind}
}

// P11.2: what is wrong with a message is told ahead of that its number is there, and that ahead of that there is no room.
func TestAddWrong(t *testing.T) {
	q, d := fresh(t)
	isWrong := func() {
		t.Helper()
		before, changes, told := files(d), d.Changes(), tells(q)
		for want, m := range wrong() {
			must(t, want, q.Add(m))
			if id := m.Id; id != 1 {
				t.Fatal(id)
			}
		}
		must(t, api.ErrRange, q.Add(envelope.Message{}))
		for _, id := range []int{0, -1, math.MaxInt32 + 1, math.MinInt} {
			m := message(1, 1)
			m.Id = id
			must(t, api.ErrRange, q.Add(m))
		}
		for _, id := range q.Ids() {
			must(t, api.ErrExists, q.Add(message(id, 2)))
		}
		has(t, d, before...)
		if d.Changes() != changes || tells(q) != told {
			t.Fatalf("%d changes more, %s", d.Changes()-changes, tells(q))
		}
	}
	isWrong()
	for id := 1; id <= 32; id++ {
		must(t, api.OK, q.Add(message(id, 1+id%8)))
		isWrong()
	}
	before, changes := files(d), d.Changes()
	must(t, api.ErrFull, q.Add(message(33, 1)))
	must(t, api.ErrFull, q.Add(message(math.MaxInt32, 1)))
	must(t, api.ErrExists, q.Add(message(32, 1)))
	has(t, d, before...)
	if d.Changes() != changes || len(q.Ids()) != 32 || q.Next() != 33 {
		t.Errorf("%d, %d", d.Changes()-changes, q.Ids())
	}
	must(t, api.OK, q.Drop(7))
	must(t, api.OK, q.Add(message(33, 1)))
	must(t, api.ErrFull, q.Add(message(7, 1)))
	must(t, api.OK, q.Drop(33))
	must(t, api.OK, q.Add(message(7, 1)))
	if s := tells(opened(t, d)); s != tells(q) {
		t.Errorf("%s, not %s", s, tells(q))
	}
}

// P11.2: where a disk has no room, the queue has what it had, and goes on.
func TestNoRoom(t *testing.T) {
	m := message(1, 2)
	size, slip := len(letter(t, m)), len(slips(status(0, 1)))
	for room := 1; room < size; room++ {
		d := on(t, room)
		q := opened(t, d)
		must(t, api.ErrFull, q.Add(m))
		lacks(t, q, 1)
		has(t, d)
	}
	d := on(t, size+2*slip-1)
	q := opened(t, d)
	must(t, api.OK, q.Add(m))
	must(t, api.ErrFull, q.Add(message(2, 2)))
	must(t, api.OK, q.Mark(1, status(0, 1)))
	must(t, api.ErrFull, q.Mark(1, status(1, 2)))
	must(t, api.ErrFull, q.Mark(1, status(0, 2)))
	is(t, q, m, status(0, 1), start(m)[1])
	lacks(t, q, 2)
	has(t, d, "m.1", letter(t, m), "s.1", slips(status(0, 1)))
	is(t, opened(t, d), m, status(0, 1), start(m)[1])
	must(t, api.OK, q.Drop(1))
	must(t, api.OK, q.Add(message(2, 2)))
	has(t, d, "m.2", letter(t, message(2, 2)))
	// Files, too, are only so many.
	many := on(t, api.MaxQuota)
	q = opened(t, many)
	for n := range 127 {
		must(t, api.OK, many.Append(fmt.Sprint("x", n), ""))
	}
	must(t, api.OK, q.Add(m))
	must(t, api.ErrFull, q.Add(message(2, 1)))
	must(t, api.ErrFull, q.Mark(1, status(0, 1)))
	is(t, q, m, start(m)...)
	must(t, api.OK, many.Remove("x0"))
	must(t, api.OK, q.Mark(1, status(0, 1)))
	is(t, q, m, status(0, 1), start(m)[1])
}

// P11.2, P11.3: the status that was marked last is a recipient's; frames stand one behind the other.
func TestMark(t *testing.T) {
	q, d := fresh(t)
	m, other := message(7, 3), message(70, 2)
	must(t, api.OK, q.Add(m))
	must(t, api.OK, q.Add(other))
	want := start(m)
	var marked []envelope.Status
	for _, k := range []envelope.Status{
		status(1, 1), status(0, 3), status(1, 2), status(1, 2), {Place: 2, State: "D", Tries: 1, Next: 0, Told: 4}, {Place: 0, State: "F", Tries: 1000, Next: 1 << 41, Told: 7}, {Place: 2, State: "R"}, {Place: 1, State: "G", Tries: 3},
	} {
		changes := d.Changes()
		must(t, api.OK, q.Mark(7, k))
		want[k.Place] = k
		marked = append(marked, k)
		is(t, q, m, want...)
		is(t, q, other, start(other)...)
		has(t, d, "m.7", letter(t, m), "m.70", letter(t, other), "s.7", slips(marked...))
		if d.Changes() != changes+2 {
			t.Errorf("%d changes", d.Changes()-changes)
		}
		again := opened(t, d)
		is(t, again, m, want...)
		is(t, again, other, start(other)...)
	}
	must(t, api.OK, q.Mark(70, status(1, 5)))
	has(t, d, "m.7", letter(t, m), "m.70", letter(t, other), "s.7", slips(marked...), "s.70", slips(status(1, 5)))
	is(t, q, m, want...)
	is(t, q, other, start(other)[0], status(1, 5))
	d.Crash(0)
	d.Start()
	if s := tells(opened(t, d)); s != tells(q) {
		t.Errorf("%s, not %s", s, tells(q))
	}
}

// P11.2: that there is no message is told ahead of what is wrong with a status, and that ahead of that there is no such recipient.
func TestMarkWrong(t *testing.T) {
	for rcpts := 1; rcpts <= 8; rcpts++ {
		q, d := fresh(t)
		m := message(7, rcpts)
		must(t, api.OK, q.Add(m))
		must(t, api.OK, q.Mark(7, status(0, 1)))
		before, changes, told := files(d), d.Changes(), tells(q)
		for _, id := range []int{0, 1, 6, 8, 70, -7, math.MaxInt, math.MinInt} {
			must(t, api.ErrNone, q.Mark(id, status(0, 1)))
			must(t, api.ErrNone, q.Mark(id, envelope.Status{State: "x"}))
			must(t, api.ErrNone, q.Mark(id, status(8, 1)))
		}
		for _, state := range []string{"", "r", "RD", "x"} {
			must(t, api.ErrKind, q.Mark(7, envelope.Status{State: state}))
			must(t, api.ErrKind, q.Mark(7, envelope.Status{Place: rcpts, State: state}))
			must(t, api.ErrKind, q.Mark(7, envelope.Status{Place: -1, State: state, Tries: -1}))
		}
		for _, k := range []envelope.Status{{State: "R", Tries: 1001}, {State: "R", Tries: -1}, {State: "R", Next: 1<<41 + 1}, {State: "R", Told: 8}} {
			must(t, api.ErrRange, q.Mark(7, k))
		}
		for _, place := range []int{rcpts, rcpts + 1, 7 + rcpts, 8, 9, -1, math.MaxInt, math.MinInt} {
			must(t, api.ErrRange, q.Mark(7, status(place, 2)))
		}
		has(t, d, before...)
		if d.Changes() != changes || tells(q) != told {
			t.Fatalf("%d changes more, %s", d.Changes()-changes, tells(q))
		}
		must(t, api.OK, q.Mark(7, status(rcpts-1, 3)))
		want := start(m)
		want[0] = status(0, 1)
		want[rcpts-1] = status(rcpts-1, 3)
		is(t, q, m, want...)
	}
}

// P11.2: what was dropped is gone, with its statuses, and may be added anew.
func TestDrop(t *testing.T) {
	q, d := fresh(t)
	for _, id := range []int{1, 10, 11} {
		must(t, api.OK, q.Add(message(id, 2)))
	}
	must(t, api.OK, q.Mark(1, status(1, 1)))
	must(t, api.OK, q.Mark(10, status(1, 2)))
	one, ten, eleven := letter(t, message(1, 2)), letter(t, message(10, 2)), letter(t, message(11, 2))
	d.Arm(api.Cut{})
	must(t, api.OK, q.Drop(1))
	has(t, d, "m.10", ten, "m.11", eleven, "s.10", slips(status(1, 2)))
	lacks(t, q, 1)
	if d.Changes() != 2 {
		t.Errorf("%d changes", d.Changes())
	}
	must(t, api.ErrNone, q.Drop(1))
	must(t, api.ErrNone, q.Mark(1, status(1, 1)))
	must(t, api.ErrNone, q.Drop(0))
	must(t, api.ErrNone, q.Drop(-10))
	must(t, api.OK, q.Drop(11))
	has(t, d, "m.10", ten, "s.10", slips(status(1, 2)))
	if d.Changes() != 3 {
		t.Errorf("%d changes", d.Changes())
	}
	is(t, q, message(10, 2), start(message(10, 2))[0], status(1, 2))
	must(t, api.OK, q.Add(message(1, 2)))
	is(t, q, message(1, 2), start(message(1, 2))...)
	must(t, api.OK, q.Drop(10))
	has(t, d, "m.1", one)
	is(t, opened(t, d), message(1, 2), start(message(1, 2))...)
	// A file of statuses that a failure left without any is there, too.
	d = with(t, "m.1", one, "s.1", "")
	must(t, api.OK, opened(t, d).Drop(1))
	has(t, d)
}

// P11.2: a disk that is off says so, and the queue has what it had.
func TestOff(t *testing.T) {
	q, d := fresh(t)
	m := message(1, 2)
	must(t, api.OK, q.Add(m))
	must(t, api.OK, q.Mark(1, status(0, 1)))
	told := tells(q)
	d.Crash(0)
	must(t, api.ErrDown, q.Add(message(2, 1)))
	must(t, api.ErrDown, q.Mark(1, status(0, 2)))
	must(t, api.ErrDown, q.Drop(1))
	must(t, api.ErrExists, q.Add(m))
	must(t, api.ErrRange, q.Add(envelope.Message{}))
	must(t, api.ErrNone, q.Mark(2, status(0, 2)))
	must(t, api.ErrRange, q.Mark(1, status(2, 2)))
	must(t, api.ErrNone, q.Drop(2))
	if tells(q) != told {
		t.Errorf("%s, not %s", tells(q), told)
	}
	for range 2 {
		if q, e := Open(d); q != nil || e != api.ErrDown {
			t.Errorf("Open: %v, %d", q, e)
		}
	}
	d.Start()
	if s := tells(opened(t, d)); s != told {
		t.Errorf("%s, not %s", s, told)
	}
}

// P11.1: opened, what a failure left is removed, and nothing else.
func TestOpenRemoves(t *testing.T) {
	one, ten := letter(t, message(1, 1)), letter(t, message(10, 2))
	d := with(t,
		"c.", "", "c.1", slips(status(0, 9)), "c.x", "x", "c.m.1", "", "m.1", one, "m.10", ten, "s.", "", "s.1", slips(status(0, 1)), "s.100", slips(status(0, 1)), "s.0", "", "s.m.1", "x", "s.10.1", "", "s.010", slips(status(0, 7)), "s.2", slips(status(0, 1)),
		"t.", "x", "t.1", one, "t.2", letter(t, message(2, 1)), "t.h", "x", "t.t.t", "",
		"h", "x", "t", "y", "c", "", "s", "z", "m", one, "T.1", one, "M.2", "x", "S.2", "x", "C.1", "x", "tt.1", "x", "mm.1", "x", "cs.1", "x", "ss.2", "x", "x.m.1", "y", ".m.1", "z", ".t.1", "z", "m-1", "x", "s-1", "x", "t1", one, "~", "!", "a.t.1", "",
	)
	d.Append("h", "!")
	d.Sync("h")
	q := opened(t, d)
	has(t, d,
		".m.1", "z", ".t.1", "z", "C.1", "x", "M.2", "x", "S.2", "x", "T.1", one, "a.t.1", "", "c", "", "cs.1", "x", "h", "x!", "m", one, "m-1", "x", "m.1", one, "m.10", ten, "mm.1", "x",
		"s", "z", "s-1", "x", "s.1", slips(status(0, 1)), "ss.2", "x", "t", "y", "t1", one, "tt.1", "x", "x.m.1", "y", "~", "!",
	)
	if !slices.Equal(q.Ids(), []int{1, 10}) {
		t.Errorf("%d", q.Ids())
	}
	is(t, q, message(1, 1), status(0, 1))
	is(t, q, message(10, 2), start(message(10, 2))...)
	before := files(d)
	d.Arm(api.Cut{At: 1})
	if s := tells(opened(t, d)); s != tells(q) || d.Changes() != 0 {
		t.Errorf("%s, not %s, %d changes", s, tells(q), d.Changes())
	}
	has(t, d, before...)
}

// P11.1: files that are no queue's.
func TestOpenCorrupt(t *testing.T) {
	m := message(1, 2)
	one, two := letter(t, m), letter(t, message(2, 2))
	record, _ := envelope.Print(m)
	isWrong := func(files ...string) {
		t.Helper()
		if q, e := Open(with(t, files...)); q != nil || e != api.ErrCorrupt {
			t.Errorf("Open with %.200q: %v, %d", files, q, e)
		}
	}
	for _, s := range []string{
		"", "x", record, one + "x", one + "\x00", one + one, one + two, two, two + one, "x" + one, one[1:], one[:len(one)-1], framed("") + one, one + framed(""), framed(""), framed("x"), framed(record + "x"), framed(record[1:]), framed(record[:len(record)-1]), framed(strings.ToLower(record)), framed(strings.Replace(record, "Q 1 ", "Q 01 ", 1)), framed("S 0 R 0 0 0"), framed(one), letter(t, message(10, 2)), letter(t, message(11, 1)),
	} {
		isWrong("m.1", s)
		isWrong("m.1", s, "m.2", two)
		isWrong("m.0", s)
		isWrong("m.0", letter(t, message(3, 1)), "m.1", s)
		isWrong("h", "x", "m.1", s, "s.1", slips(status(0, 1)))
	}
	for _, name := range []string{"m.", "m.01", "m.+1", "m.-1", "m.1.", "m.1.1", "m.x", "m.0", "m.2", "m.11", "m.1x", "m..1", "m.m.1", "m.10000000000000000000000000000"} {
		isWrong(name, one)
	}
	for at := range one {
		isWrong("m.1", one[:at])
		isWrong("m.1", one[:at]+string([]byte{one[at] ^ 4})+one[at+1:])
		isWrong("m.1", one[:at]+one[at+1:])
	}
	good := slips(status(1, 1))
	for _, s := range []string{
		slips(status(2, 1)), slips(status(7, 1)), slips(status(8, 1)), slips(envelope.Status{State: "x"}), slips(envelope.Status{State: "R", Tries: 1001}), slips(envelope.Status{State: "R", Next: 1<<41 + 1}), slips(envelope.Status{State: "R", Told: 8}), framed(""), framed("x"), framed("S 0 R 0 0 00"), framed("S 0 R 0 0 0\r\n"), framed("s 0 R 0 0 0"), framed(record), framed(good), framed("S -1 R 0 0 0"),
	} {
		isWrong("m.1", one, "s.1", s)
		isWrong("m.1", one, "s.1", good+s)
		isWrong("m.1", one, "s.1", s+good)
		isWrong("m.1", one, "s.1", good+s+"x")
		isWrong("m.1", one, "m.2", two, "s.1", good, "s.2", s)
		isWrong("m.1", one, "m.2", two, "s.1", s, "s.2", good)
		// Of what has no message no status is asked.
		is(t, opened(t, with(t, "m.1", one, "s.2", s)), m, start(m)...)
		is(t, opened(t, with(t, "c.1", s, "m.1", one, "t.1", s)), m, start(m)...)
		// What stands behind what is no frame isn't one at the front.
		is(t, opened(t, with(t, "m.1", one, "s.1", good+"x"+s)), m, start(m)[0], status(1, 1))
	}
}

// P11.1: as many messages as may be, and one more.
func TestOpenMany(t *testing.T) {
	var l []string
	for id := 1; id <= 40; id++ {
		l = append(l, Name("m", id), letter(t, message(id, 1+id%8)))
		q, e := Open(with(t, l...))
		switch {
		case id <= 32 && (e != api.OK || len(q.Ids()) != id || q.Next() != id+1):
			t.Errorf("%d: %d", id, e)
		case id > 32 && (q != nil || e != api.ErrCorrupt):
			t.Errorf("%d: %v, %d", id, q, e)
		}
	}
}

// P11.1, P11.4: what a failure left behind the frames at the front is let go, whatever it is.
func TestOpenTorn(t *testing.T) {
	m := message(1, 2)
	one := letter(t, m)
	for _, front := range [][]envelope.Status{nil, {status(1, 1)}, {status(1, 1), status(0, 2), status(1, 3)}} {
		want := start(m)
		for _, k := range front {
			want[k.Place] = k
		}
		bytes, last := slips(front...), slips(status(1, 100))
		for n := range len(last) + 1 {
			d := with(t, "m.1", one, "s.1", bytes+last[:n])
			switch q := opened(t, d); {
			case n == len(last):
				is(t, q, m, want[0], status(1, 100))
				has(t, d, "m.1", one, "s.1", bytes+last)
			default:
				is(t, q, m, want...)
				has(t, d, "m.1", one, "s.1", bytes)
			}
			if changes := d.Changes(); n > 0 && n < len(last) && changes != 3 || n%len(last) == 0 && changes != 0 {
				t.Errorf("%d: %d changes", n, changes)
			}
			// What is marked from then on stands behind the frames.
			must(t, api.OK, opened(t, d).Mark(1, status(0, 9)))
			_, l, _ := opened(t, d).Get(1)
			if l[0] != status(0, 9) {
				t.Errorf("%d: %v", n, l)
			}
		}
		for _, more := range []string{"x", "\x00", strings.Repeat("\x00", 1000), "x" + last, last[1:], last[:3] + last, strings.Repeat("\xff", 70000)} {
			d := with(t, "m.1", one, "s.1", bytes+more)
			is(t, opened(t, d), m, want...)
			has(t, d, "m.1", one, "s.1", bytes)
		}
	}
	// An empty file has no more bytes than its frames.
	d := with(t, "m.1", one, "s.1", "")
	is(t, opened(t, d), m, start(m)...)
	has(t, d, "m.1", one, "s.1", "")
	if d.Changes() != 0 {
		t.Errorf("%d changes", d.Changes())
	}
}

// P11.1: where there is no room for what is to be laid anew, it is told, and nothing is lost.
func TestOpenNoRoom(t *testing.T) {
	m := message(1, 2)
	one, bytes := letter(t, m), slips(status(0, 1), status(1, 2))
	most := len(one) + 2*len(bytes) + 1
	for room := most - len(bytes); room <= most; room++ {
		d := on(t, room)
		d.Append("m.1", one)
		d.Append("s.1", bytes+"x")
		d.Sync("m.1")
		d.Sync("s.1")
		if room == most {
			is(t, opened(t, d), m, status(0, 1), status(1, 2))
			has(t, d, "m.1", one, "s.1", bytes)
			continue
		}
		if q, e := Open(d); q != nil || e != api.ErrFull {
			t.Fatalf("Open: %v, %d", q, e)
		}
		has(t, d, "m.1", one, "s.1", bytes+"x")
	}
	d := with(t, "m.1", one, "s.1", bytes+"x")
	for n := range 126 {
		must(t, api.OK, d.Append(fmt.Sprint("x", n), ""))
	}
	if q, e := Open(d); q != nil || e != api.ErrFull {
		t.Fatalf("Open: %v, %d", q, e)
	}
	must(t, api.OK, d.Append("x0", "!"))
	must(t, api.OK, d.Remove("x1"))
	is(t, opened(t, d), m, status(0, 1), status(1, 2))
}

// step is a change of a disk.
type step func(d *disk.Disk) api.Errno

func appends(name, s string) step {
	return func(d *disk.Disk) api.Errno { return d.Append(name, s) }
}
func syncs(name string) step { return func(d *disk.Disk) api.Errno { return d.Sync(name) } }
func renames(name, to string) step {
	return func(d *disk.Disk) api.Errno { return d.Rename(name, to) }
}
func removes(name string) step { return func(d *disk.Disk) api.Errno { return d.Remove(name) } }

// inSteps holds what an act does to a disk, cut at each of its changes, keeping any number, against what plain steps do.
func inSteps(t *testing.T, from []string, act func(d *disk.Disk) api.Errno, steps ...step) {
	t.Helper()
	for at := range len(steps) + 2 {
		for _, keep := range []int{0, 1, 2, 5, 10, 11, 20, 21, 22, 23, 24, 30, 50, 100, 150, 200, 300, 1000, 10000} {
			a, b := with(t, from...), with(t, from...)
			cut := api.Cut{At: at, Keep: keep}
			a.Arm(cut)
			b.Arm(cut)
			got, want := act(a), api.OK
			for _, do := range steps {
				if want == api.OK {
					want = do(b)
				}
			}
			if got != want || a.Down() != b.Down() || a.Changes() != b.Changes() || a.Down() != (at > 0 && at <= len(steps)) {
				t.Fatalf("cut at %d, keeping %d: %d, %v, %d changes, not %d, %v, %d", at, keep, got, a.Down(), a.Changes(), want, b.Down(), b.Changes())
			}
			a.Start()
			b.Start()
			has(t, a, files(b)...)
		}
	}
}

// P11.2, P11.4: Add, Mark, Drop, change by change.
func TestSteps(t *testing.T) {
	m := message(10, 3)
	s, two := letter(t, m), letter(t, message(2, 2))
	from := []string{"h", "x", "m.2", two, "s.2", slips(status(1, 4))}
	there := append([]string{"m.10", s}, from...)
	marked := append([]string{"s.10", slips(status(2, 1))}, there...)
	on := func(do func(q *Queue) api.Errno) func(d *disk.Disk) api.Errno {
		return func(d *disk.Disk) api.Errno { return do(opened(t, d)) }
	}
	inSteps(t, from, on(func(q *Queue) api.Errno { return q.Add(m) }), appends("t.10", s), syncs("t.10"), renames("t.10", "m.10"))
	mark := on(func(q *Queue) api.Errno { return q.Mark(10, status(1, 2)) })
	inSteps(t, there, mark, appends("s.10", slips(status(1, 2))), syncs("s.10"))
	inSteps(t, marked, mark, appends("s.10", slips(status(1, 2))), syncs("s.10"))
	drop := on(func(q *Queue) api.Errno { return q.Drop(10) })
	inSteps(t, there, drop, removes("m.10"))
	inSteps(t, marked, drop, removes("m.10"), removes("s.10"))
}

// P11.1, P11.4: Open, change by change: names in their order, then numbers, rising.
func TestOpenSteps(t *testing.T) {
	open := func(d *disk.Disk) api.Errno {
		q, e := Open(d)
		if (q == nil) != (e != api.OK) {
			t.Fatalf("Open: %v, %d", q, e)
		}
		return e
	}
	inSteps(t, []string{"m.1", letter(t, message(1, 1)), "s.1", slips(status(0, 1)), "h", "x"}, open)
	slip := slips(status(0, 1))
	inSteps(t, []string{
		"t.10", "x", "t.2", slip, "t.h", "", "s.9", slip, "s.30", slip, "s.3", "x", "c.9", slip, "c.10", "y", "h", "x",
		"m.10", letter(t, message(10, 1)), "m.2", letter(t, message(2, 2)), "m.1", letter(t, message(1, 3)), "m.100", letter(t, message(100, 1)), "m.20", letter(t, message(20, 1)),
		"s.10", slip + slip + "x", "s.2", slip + slip[:len(slip)-1], "s.1", "x", "s.100", slip, "s.20", "",
	}, open,
		removes("c.10"), removes("c.9"), removes("s.3"), removes("s.30"), removes("s.9"), removes("t.10"), removes("t.2"), removes("t.h"),
		appends("c.1", ""), syncs("c.1"), renames("c.1", "s.1"),
		appends("c.2", slip), syncs("c.2"), renames("c.2", "s.2"),
		appends("c.10", slip+slip), syncs("c.10"), renames("c.10", "s.10"),
	)
}

// act is something that is asked of a queue, and what it is to do there.
type act struct {
	ask func(q *Queue) api.Errno
	do  func(w *world)
}

// world is what a queue is to have.
type world struct {
	messages map[int]envelope.Message
	statuses map[int][]envelope.Status
}

// empty answers a world without messages.
func empty() *world {
	return &world{map[int]envelope.Message{}, map[int][]envelope.Status{}}
}

// other answers a world that is alike.
func (w *world) other() *world {
	o := empty()
	for id := range w.messages {
		o.messages[id], o.statuses[id] = w.messages[id], slices.Clone(w.statuses[id])
	}
	return o
}

// is tells if a queue has what it is to have, and nothing else.
func (w *world) is(q *Queue) bool {
	var ids []int
	next := 1
	for id := range w.messages {
		ids = append(ids, id)
		next = max(next, id+1)
	}
	slices.Sort(ids)
	for _, id := range ids {
		m, l, e := q.Get(id)
		if !envelope.Same(m, w.messages[id]) || !slices.Equal(l, w.statuses[id]) || e != api.OK {
			return false
		}
	}
	return slices.Equal(q.Ids(), ids) && q.Next() == next
}

func adds(m envelope.Message) act {
	return act{func(q *Queue) api.Errno { return q.Add(m) }, func(w *world) { w.messages[m.Id], w.statuses[m.Id] = m, start(m) }}
}

func marks(id int, k envelope.Status) act {
	return act{func(q *Queue) api.Errno { return q.Mark(id, k) }, func(w *world) { w.statuses[id][k.Place] = k }}
}

func drops(id int) act {
	return act{func(q *Queue) api.Errno { return q.Drop(id) }, func(w *world) { delete(w.messages, id); delete(w.statuses, id) }}
}

// P11.4: a row of acts, in which power fails at each change, keeping any number, and then in the midst of each Open, too.
func TestPower(t *testing.T) {
	row := []act{
		adds(message(1, 2)), marks(1, status(0, 1)), adds(full(10)), marks(10, status(2, 1)), marks(1, status(1, 12)), marks(1, status(0, 123)), adds(message(2, 1)),
		drops(1), marks(10, status(0, 2)), marks(2, status(0, 1)), drops(2), adds(message(1, 3)), marks(1, status(2, 1)), drops(10), drops(1),
	}
	cuts := 0
	for _, keep := range []int{0, 1, 5, 9, 10, 11, 15, 20, 21, 22, 23, 24, 25, 26, 100, 250, 1000} {
		for at := 1; failsIn(t, row, api.Cut{At: at, Keep: keep}); at++ {
			cuts++
		}
	}
	if cuts < 300 {
		t.Errorf("%d cuts", cuts)
	}
}

// failsIn does a row of acts with a cut, holds what is there behind it, and tells if there was a failure.
func failsIn(t *testing.T, row []act, cut api.Cut) bool {
	t.Helper()
	q, d := fresh(t)
	d.Arm(cut)
	after := empty()
	for n, a := range row {
		before := after.other()
		a.do(after)
		e := a.ask(q)
		if e == api.ErrDown {
			if !before.is(q) {
				t.Fatalf("%v in act %d: %s", cut, n, tells(q))
			}
			opensAnyhow(t, d, cut.Keep, before, after)
			return true
		}
		must(t, api.OK, e)
		if !after.is(q) {
			t.Fatalf("%v behind act %d: %s", cut, n, tells(q))
		}
	}
	return false
}

// opensAnyhow opens a disk behind a failure, with further ones in the midst of it, till it comes to an end, and holds what is there then.
func opensAnyhow(t *testing.T, d *disk.Disk, keep int, before, after *world) {
	t.Helper()
	var q *Queue
	for at, e := 1, api.ErrDown; e != api.OK; at++ {
		d.Start()
		d.Arm(api.Cut{At: at, Keep: keep})
		q, e = Open(d)
		if e != api.OK && (e != api.ErrDown || q != nil || at == 10) {
			t.Fatalf("Open, cut at %d: %v, %d", at, q, e)
		}
	}
	if !before.is(q) && !after.is(q) {
		t.Fatalf("behind a failure: %s", tells(q))
	}
	d.Arm(api.Cut{})
	if again := opened(t, d); tells(again) != tells(q) || d.Changes() != 0 {
		t.Fatalf("%s, not %s, %d changes", tells(again), tells(q), d.Changes())
	}
	for _, name := range d.List() {
		if name[0] != 'm' && name[0] != 's' {
			t.Fatalf("%q is there", name)
		}
	}
}

// some answers something that may be asked of a queue that has what a world has.
func some(draw *rand.Rand, w *world) (act, api.Errno) {
	id := 1 + draw.Intn(45)
	m, there := w.messages[id]
	switch verb := draw.Intn(10); {
	case verb < 5:
		a := adds(message(id, 1+draw.Intn(8)))
		switch {
		case there:
			return a, api.ErrExists
		case len(w.messages) == 32:
			return a, api.ErrFull
		}
		return a, api.OK
	case verb < 9:
		k := envelope.Status{Place: draw.Intn(8), State: []string{"R", "D", "G", "F", "x"}[draw.Intn(5)], Tries: draw.Intn(1000), Next: draw.Intn(100000), Told: draw.Intn(8)}
		switch {
		case !there:
			return marks(id, k), api.ErrNone
		case k.State == "x":
			return marks(id, k), api.ErrKind
		case k.Place >= len(m.Rcpts):
			return marks(id, k), api.ErrRange
		}
		return marks(id, k), api.OK
	case !there:
		return drops(id), api.ErrNone
	}
	return drops(id), api.OK
}

// P11.1 to P11.4: long rows of all that may be asked, with failures anywhere, held against what is to be there.
func TestRows(t *testing.T) {
	draw := rand.New(rand.NewSource(33))
	most, downs := 0, 0
	for range 60 {
		q, d := fresh(t)
		w := empty()
		for range 300 {
			if draw.Intn(8) == 0 {
				d.Arm(api.Cut{At: draw.Intn(8), Keep: draw.Intn(60)})
			}
			a, want := some(draw, w)
			before, e := w.other(), a.ask(q)
			if want == api.OK {
				a.do(w)
			}
			if want == api.OK && e == api.ErrDown {
				downs++
				d.Start()
				if q = opened(t, d); before.is(q) {
					w = before
				}
			} else {
				must(t, want, e)
			}
			if !w.is(q) {
				t.Fatalf("%s, not %v", tells(q), w)
			}
			most = max(most, len(w.messages))
		}
		d.Crash(draw.Intn(30))
		d.Start()
		if q := opened(t, d); !w.is(q) {
			t.Fatalf("%s, not %v", tells(q), w)
		}
	}
	if most != 32 || downs < 200 {
		t.Errorf("%d messages at most, %d failures", most, downs)
	}
}

// P11.2: queues on disks of their own have nothing to do with each other.
func TestAlone(t *testing.T) {
	a, c := fresh(t)
	b, d := fresh(t)
	must(t, api.OK, a.Add(message(1, 1)))
	must(t, api.OK, b.Add(message(2, 2)))
	must(t, api.OK, a.Mark(1, status(0, 1)))
	must(t, api.ErrNone, b.Mark(1, status(0, 1)))
	must(t, api.OK, b.Drop(2))
	is(t, a, message(1, 1), status(0, 1))
	has(t, c, "m.1", letter(t, message(1, 1)), "s.1", slips(status(0, 1)))
	has(t, d)
	lacks(t, b, 1)
}

// Rule 3: what is handed in is as it was, and isn't kept; and answers are new.
func TestApart(t *testing.T) {
	q, _ := fresh(t)
	want := full(3)
	rcpts, lines := append(full(3).Rcpts, to("spare", "x")), append(full(3).Lines, "spare")
	given := []byte("Subject: xR")
	lines[0] = unsafe.String(&given[0], 10)
	m := want
	m.Rcpts, m.Lines = rcpts[:3], lines[:6]
	must(t, api.OK, q.Add(m))
	k := status(1, 5)
	k.State = unsafe.String(&given[10], 1)
	must(t, api.OK, q.Mark(3, k))
	if !envelope.Same(m, want) || rcpts[3] != to("spare", "x") || lines[6] != "spare" {
		t.Errorf("changed: %+v", m)
	}
	copy(given, "???????????")
	for i := range rcpts {
		rcpts[i] = to("changed", "x")
	}
	for i := range lines {
		lines[i] = "changed"
	}
	for range 3 {
		is(t, q, want, start(want)[0], status(1, 5), start(want)[2])
		m, l, _ := q.Get(3)
		_ = append(m.Rcpts, to("changed", "x"))
		_ = append(m.Lines, "changed")
		_ = append(l, status(7, 7))
		m.Rcpts[0], m.Lines[1], l[0], l[1] = to("changed", "x"), "changed", status(7, 7), status(7, 7)
	}
	_, old, _ := q.Get(3)
	must(t, api.OK, q.Mark(3, status(1, 6)))
	if old[1] != status(1, 5) {
		t.Errorf("a mark changed what was answered: %v", old)
	}
	ids := q.Ids()
	ids[0] = 9
	if !slices.Equal(q.Ids(), []int{3}) || q.Next() != 4 {
		t.Errorf("%d", q.Ids())
	}
}

// Rule 5: a disk that is as full as can be is opened soon.
func TestGreat(t *testing.T) {
	from := time.Now()
	m := message(1, 8)
	one := letter(t, m)
	var l []envelope.Status
	for n := range (api.MaxQuota/2 - len(one)) / 25 {
		l = append(l, status(n%8, n%10))
	}
	bytes := slips(l...)
	d := with(t, "m.1", one, "s.1", bytes+"x")
	want := make([]envelope.Status, 8)
	for _, k := range l {
		want[k.Place] = k
	}
	is(t, opened(t, d), m, want...)
	has(t, d, "m.1", one, "s.1", bytes)
	for _, s := range []string{strings.Repeat(framed(""), 100000), strings.Repeat("\x00", api.MaxQuota), strings.Repeat("x", api.MaxQuota), framed(strings.Repeat("\r\n", 30000))} {
		if q, e := Open(with(t, "m.1", s)); q != nil || e != api.ErrCorrupt {
			t.Errorf("Open with %.20q: %v, %d", s, q, e)
		}
	}
	if past := time.Since(from); past > time.Minute {
		t.Errorf("%v", past)
	}
}
