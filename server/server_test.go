package server

import (
	"fmt"
	"math"
	"math/rand"
	"reflect"
	"runtime"
	"slices"
	"strings"
	"testing"
	"unsafe"

	"duepost/api"
	"duepost/command"
	"duepost/date"
	"duepost/envelope"
	"duepost/line"
	"duepost/param"
	"duepost/path"
	"duepost/reply"
)

const (
	lastTick   = 1 << 40
	lastSecond = 253402300799
	host       = "mail.h"
)

// made answers a server, and fails where there is none.
func made(t *testing.T, host string, size, hold int) *Server {
	t.Helper()
	s, e := New(host, size, hold)
	if s == nil || e != api.OK {
		t.Fatal(host, size, hold, s, e)
	}
	return s
}

// shown answers a reply's lines, a | between each two.
func shown(t *testing.T, r api.Reply) string {
	t.Helper()
	l, e := reply.Print(r)
	if e != api.OK {
		t.Fatalf("%+v: %d", r, e)
	}
	return strings.Join(l, "|")
}

// says hears a line, and answers what is said, or nothing.
func says(t *testing.T, s *Server, l line.Line, now int, room bool) string {
	t.Helper()
	r, is := s.Hear(l, now, room)
	if !is {
		if !reflect.DeepEqual(r, api.Reply{}) {
			t.Fatalf("%+v beside false", r)
		}
		return ""
	}
	return shown(t, r)
}

// told tells lines, at tick 100, with room, and holds the last one's reply, and the state behind it, against what they are to be.
func told(t *testing.T, s *Server, want, state string, lines ...string) {
	t.Helper()
	got := ""
	for _, text := range lines {
		got = says(t, s, line.Line{Text: text}, 100, true)
	}
	if got != want || s.State() != state || s.Gone() != (state == "gone") {
		t.Fatalf("%q: %q %s %v, not %q %s", lines, got, s.State(), s.Gone(), want, state)
	}
}

// The lines that lead to each state.
var leads = map[string][]string{
	"new":   nil,
	"ready": {"EHLO a.b"},
	"mail":  {"EHLO a.b", "MAIL FROM:<a@b>"},
	"rcpt":  {"HELO a.b", "MAIL FROM:<a@b>", "RCPT TO:<c@d>"},
	"data":  {"EHLO a.b", "MAIL FROM:<a@b>", "RCPT TO:<c@d>", "DATA"},
	"gone":  {"QUIT"},
}

// states: all, in order.
var states = []string{"new", "ready", "mail", "rcpt", "data", "gone"}

// led answers a server in a state.
func led(t *testing.T, state string) *Server {
	t.Helper()
	s := made(t, host, 1000, 600)
	for _, text := range leads[state] {
		s.Hear(line.Line{Text: text}, 100, true)
	}
	if s.State() != state {
		t.Fatal(s.State(), state)
	}
	return s
}

// gets asks for what was taken.
func gets(t *testing.T, s *Server) envelope.Message {
	t.Helper()
	m, is := s.Taken()
	if !is {
		t.Fatal("nothing was taken")
	}
	return m
}

// getsNone asks for what was taken where there is nothing.
func getsNone(t *testing.T, s *Server) {
	t.Helper()
	if m, is := s.Taken(); is || !reflect.DeepEqual(m, envelope.Message{}) {
		t.Fatalf("%+v, %v", m, is)
	}
}

// P17.1: a host is a domain of small letters, asked first; a size is 1 to 4096, a hold 1 to 2^20.
func TestNew(t *testing.T) {
	long := strings.Repeat(strings.Repeat("a", 63)+".", 4)[:255]
	for _, x := range []struct {
		host       string
		size, hold int
		want       api.Errno
	}{
		{"h", 1, 1, api.OK},
		{"mail.h-1", 4096, 1 << 20, api.OK},
		{long, 10, 10, api.OK},
		{long + "a", 10, 10, api.ErrForm},
		{strings.Repeat("a.", 130) + "a", 10, 10, api.ErrForm},
		{"", 10, 10, api.ErrForm},
		{"H", 10, 10, api.ErrForm},
		{"mail.H", 10, 10, api.ErrForm},
		{"mail.", 10, 10, api.ErrForm},
		{"-a", 10, 10, api.ErrForm},
		{"a b", 10, 10, api.ErrForm},
		{"a\x00", 10, 10, api.ErrForm},
		{"H", 0, 0, api.ErrForm},
		{"h", 0, 1, api.ErrRange},
		{"h", -1, 1, api.ErrRange},
		{"h", 4097, 1, api.ErrRange},
		{"h", 1, 0, api.ErrRange},
		{"h", 1, -1, api.ErrRange},
		{"h", 1, 1<<20 + 1, api.ErrRange},
		{"h", math.MinInt, 1, api.ErrRange},
		{"h", math.MaxInt, 1, api.ErrRange},
		{"h", 1, math.MinInt, api.ErrRange},
		{"h", 1, math.MaxInt, api.ErrRange},
	} {
		s, e := New(x.host, x.size, x.hold)
		if e != x.want || (s == nil) != (e != api.OK) {
			t.Error(x, s, e)
		}
		if s == nil {
			continue
		}
		if s.State() != "new" || s.Gone() {
			t.Error(x, s.State(), s.Gone())
		}
		getsNone(t, s)
		if got := shown(t, s.Greet()); got != "220 "+x.host {
			t.Error(got)
		}
	}
}

// P17.1: the greeting is the same whenever it is asked, and changes nothing.
func TestGreet(t *testing.T) {
	for _, state := range states {
		s := led(t, state)
		for range 2 {
			if r := s.Greet(); !reflect.DeepEqual(r, api.Reply{Code: 220, Text: []string{host}}) || s.State() != state {
				t.Error(state, r, s.State())
			}
		}
	}
	s := led(t, "data")
	told(t, s, "", "ready", ".")
	s.Greet()
	gets(t, s)
}

// P17.2: what a message that was kept is answered by.
func TestDone(t *testing.T) {
	if r := Done(); !reflect.DeepEqual(r, api.Reply{Code: 250, Enhanced: [3]int{2, 0, 0}, Text: []string{"taken"}}) {
		t.Error(r)
	}
}

const ehlo = "250-mail.h|250-PIPELINING|250-8BITMIME|250-ENHANCEDSTATUSCODES|250-DSN|250-SIZE 1000|250-FUTURERELEASE 600 1970-01-01T00:11:40Z|250-DELIVERBY|250 MT-PRIORITY"

// P17.1, P17.2, P17.3: what each command is answered in each state, and the state behind it; a "" of a state is the one ahead.
func TestCommands(t *testing.T) {
	const order, form = "503 5.5.1 order", "501 5.5.4 form"
	for _, x := range []struct {
		text string
		want [4]string // in new, ready, mail, rcpt
		next [4]string
	}{
		{"HELO a.b", [4]string{"250 mail.h", "250 mail.h", "250 mail.h", "250 mail.h"}, [4]string{"ready", "ready", "ready", "ready"}},
		{"helo A.B  ", [4]string{"250 mail.h", "250 mail.h", "250 mail.h", "250 mail.h"}, [4]string{"ready", "ready", "ready", "ready"}},
		{"EHLO a.b", [4]string{ehlo, ehlo, ehlo, ehlo}, [4]string{"ready", "ready", "ready", "ready"}},
		{"eHlO a.b", [4]string{ehlo, ehlo, ehlo, ehlo}, [4]string{"ready", "ready", "ready", "ready"}},
		{"HELO", [4]string{form, form, form, form}, [4]string{}},
		{"HELO a b", [4]string{form, form, form, form}, [4]string{}},
		{"EHLO", [4]string{form, form, form, form}, [4]string{}},
		{"EHLO -", [4]string{form, form, form, form}, [4]string{}},
		{"EHLO " + strings.Repeat("a.", 128), [4]string{form, form, form, form}, [4]string{}},
		{"EHLO " + strings.Repeat("a.", 128) + "a", [4]string{form, form, form, form}, [4]string{}},
		{"MAIL FROM:<a@b>", [4]string{order, "250 2.1.0 sender", order, order}, [4]string{1: "mail"}},
		{"mail from:<>   ", [4]string{order, "250 2.1.0 sender", order, order}, [4]string{1: "mail"}},
		{"MAIL", [4]string{order, form, order, order}, [4]string{}},
		{"MAIL FROM:<postmaster>", [4]string{order, form, order, order}, [4]string{}},
		{"MAIL FROM:<" + strings.Repeat("a", 65) + "@b>", [4]string{order, form, order, order}, [4]string{}},
		{"MAIL FROM:<a@b> KEY=1", [4]string{order, "555 5.5.4 key", order, order}, [4]string{}},
		{"MAIL FROM:<a@b> NOTIFY=NEVER", [4]string{order, "555 5.5.4 key", order, order}, [4]string{}},
		{"MAIL FROM:<a@b> SIZE=x KEY=1", [4]string{order, form, order, order}, [4]string{}},
		{"MAIL FROM:<a@b> KEY=1 SIZE=x", [4]string{order, "555 5.5.4 key", order, order}, [4]string{}},
		{"MAIL FROM:<a@b> SIZE=1 SIZE=1", [4]string{order, form, order, order}, [4]string{}},
		{"MAIL FROM:<a@b> HOLDFOR=0", [4]string{order, form, order, order}, [4]string{}},
		{"MAIL FROM:<a@b> ENVID=" + strings.Repeat("a", 101), [4]string{order, form, order, order}, [4]string{}},
		{"MAIL FROM:<a@b> HOLDFOR=1 HOLDUNTIL=1970-01-01T00:00:00Z", [4]string{order, form, order, order}, [4]string{}},
		{"MAIL FROM:<a@b> SIZE=1001", [4]string{order, "552 5.3.4 size", order, order}, [4]string{}},
		{"MAIL FROM:<a@b> HOLDFOR=601", [4]string{order, "501 5.5.4 hold", order, order}, [4]string{}},
		{"RCPT TO:<c@d>", [4]string{order, order, "250 2.1.5 recipient", "250 2.1.5 recipient"}, [4]string{2: "rcpt"}},
		{"rcpt to:<Postmaster> notify=never", [4]string{order, order, "250 2.1.5 recipient", "250 2.1.5 recipient"}, [4]string{2: "rcpt"}},
		{"RCPT", [4]string{order, order, form, form}, [4]string{}},
		{"RCPT TO:<>", [4]string{order, order, form, form}, [4]string{}},
		{"RCPT TO:<c@d> SIZE=1", [4]string{order, order, "555 5.5.4 key", "555 5.5.4 key"}, [4]string{}},
		{"RCPT TO:<c@d> NOTIFY=", [4]string{order, order, form, form}, [4]string{}},
		{"RCPT TO:<c@d> ORCPT=a;" + strings.Repeat("a", 257), [4]string{order, order, form, form}, [4]string{}},
		{"DATA", [4]string{order, order, order, "354 go"}, [4]string{3: "data"}},
		{"data  ", [4]string{order, order, order, "354 go"}, [4]string{3: "data"}},
		{"DATA x", [4]string{form, form, form, form}, [4]string{}},
		{"RSET", [4]string{"250 2.0.0 reset", "250 2.0.0 reset", "250 2.0.0 reset", "250 2.0.0 reset"}, [4]string{2: "ready", 3: "ready"}},
		{"rset x", [4]string{form, form, form, form}, [4]string{}},
		{"NOOP", [4]string{"250 2.0.0 ok", "250 2.0.0 ok", "250 2.0.0 ok", "250 2.0.0 ok"}, [4]string{}},
		{"noop x y", [4]string{"250 2.0.0 ok", "250 2.0.0 ok", "250 2.0.0 ok", "250 2.0.0 ok"}, [4]string{}},
		{"NOOP  x", [4]string{form, form, form, form}, [4]string{}},
		{"HELP", [4]string{"214 2.0.0 ok", "214 2.0.0 ok", "214 2.0.0 ok", "214 2.0.0 ok"}, [4]string{}},
		{"help me", [4]string{"214 2.0.0 ok", "214 2.0.0 ok", "214 2.0.0 ok", "214 2.0.0 ok"}, [4]string{}},
		{"HELP \x7f", [4]string{form, form, form, form}, [4]string{}},
		{"VRFY a", [4]string{"252 2.1.5 try", "252 2.1.5 try", "252 2.1.5 try", "252 2.1.5 try"}, [4]string{}},
		{"VRFY", [4]string{form, form, form, form}, [4]string{}},
		{"QUIT", [4]string{"221 2.0.0 mail.h", "221 2.0.0 mail.h", "221 2.0.0 mail.h", "221 2.0.0 mail.h"}, [4]string{"gone", "gone", "gone", "gone"}},
		{"quit ", [4]string{"221 2.0.0 mail.h", "221 2.0.0 mail.h", "221 2.0.0 mail.h", "221 2.0.0 mail.h"}, [4]string{"gone", "gone", "gone", "gone"}},
		{"QUIT now", [4]string{form, form, form, form}, [4]string{}},
	} {
		for i, state := range states[:4] {
			next := x.next[i]
			if next == "" {
				next = state
			}
			told(t, led(t, state), x.want[i], next, x.text)
		}
	}
}

// P17.1: what can't be a command is answered ahead of all else, in each state; one of 510 bytes can.
func TestLines(t *testing.T) {
	fill := func(text string, n int) string { return text + strings.Repeat("x", n-len(text)) }
	for _, state := range states[:4] {
		for _, x := range []struct {
			l    line.Line
			want string
		}{
			{line.Line{Wrong: api.ErrForm}, "500 5.5.2 line"},
			{line.Line{Wrong: api.ErrLong}, "500 5.5.2 line"},
			{line.Line{Wrong: api.ErrKind}, "500 5.5.2 line"},
			{line.Line{Wrong: -1}, "500 5.5.2 line"},
			{line.Line{Wrong: 99}, "500 5.5.2 line"},
			{line.Line{Text: "QUIT", Wrong: api.ErrForm}, "500 5.5.2 line"},
			{line.Line{Text: "EHLO a", Wrong: api.ErrLong}, "500 5.5.2 line"},
			{line.Line{Text: fill("NOOP ", 510)}, "250 2.0.0 ok"},
			{line.Line{Text: fill("NOOP ", 511)}, "500 5.5.2 line"},
			{line.Line{Text: fill("NOOP ", 998)}, "500 5.5.2 line"},
			{line.Line{Text: fill("NOOP ", 100000)}, "500 5.5.2 line"},
			{line.Line{Text: fill("X", 510)}, "500 5.5.1 verb"},
			{line.Line{Text: fill("X", 511)}, "500 5.5.2 line"},
			{line.Line{Text: "NOOP" + strings.Repeat(" ", 506)}, "250 2.0.0 ok"},
			{line.Line{Text: "NOOP" + strings.Repeat(" ", 507)}, "500 5.5.2 line"},
			{line.Line{}, "500 5.5.1 verb"},
			{line.Line{Text: "   "}, "500 5.5.1 verb"},
			{line.Line{Text: " NOOP"}, "500 5.5.1 verb"},
			{line.Line{Text: "NOOPS"}, "500 5.5.1 verb"},
			{line.Line{Text: "NOO"}, "500 5.5.1 verb"},
			{line.Line{Text: "NOOP\t"}, "500 5.5.1 verb"},
			{line.Line{Text: "MAIL\x00"}, "500 5.5.1 verb"},
			{line.Line{Text: "DATA\r"}, "500 5.5.1 verb"},
			{line.Line{Text: "."}, "500 5.5.1 verb"},
			{line.Line{Text: "TURN a"}, "500 5.5.1 verb"},
			{line.Line{Text: "NOOP \n"}, "501 5.5.4 form"},
			{line.Line{Text: "NOOP \x00"}, "501 5.5.4 form"},
			{line.Line{Text: "NOOP \xc3\xa4"}, "501 5.5.4 form"},
			{line.Line{Text: "ſET"}, "500 5.5.1 verb"},
			{line.Line{Text: "rſet"}, "500 5.5.1 verb"},
		} {
			s := led(t, state)
			if got := says(t, s, x.l, 100, true); got != x.want || s.State() != state {
				t.Errorf("%s: %+v: %q, %s, not %q", state, x.l, got, s.State(), x.want)
			}
		}
	}
}

// P17.1: EHLO tells the size, the hold, and until when a message may be held, of each time.
func TestEhlo(t *testing.T) {
	for _, x := range []struct {
		size, hold, now int
		until           string
	}{
		{1, 1, 0, "1970-01-01T00:00:01Z"},
		{1, 1, -1, "1970-01-01T00:00:01Z"},
		{1, 1, math.MinInt, "1970-01-01T00:00:01Z"},
		{4096, 1 << 20, 951865200, "2000-03-13T02:16:16Z"},
		{10, 5, lastSecond - 6, "9999-12-31T23:59:58Z"},
		{10, 5, lastSecond - 5, "9999-12-31T23:59:59Z"},
		{10, 5, lastSecond - 4, "9999-12-31T23:59:59Z"},
		{10, 5, lastTick, "9999-12-31T23:59:59Z"},
		{10, 5, math.MaxInt, "9999-12-31T23:59:59Z"},
	} {
		for _, room := range []bool{false, true} {
			s := made(t, "a.b-c", x.size, x.hold)
			r, is := s.Hear(line.Line{Text: "EHLO x"}, x.now, room)
			want := api.Reply{Code: 250, Text: []string{
				"a.b-c", "PIPELINING", "8BITMIME", "ENHANCEDSTATUSCODES", "DSN", fmt.Sprint("SIZE ", x.size),
				fmt.Sprintf("FUTURERELEASE %d %s", x.hold, x.until), "DELIVERBY", "MT-PRIORITY"}}
			if !is || !reflect.DeepEqual(r, want) {
				t.Errorf("%+v: %+v", x, r)
			}
		}
	}
	s := made(t, strings.Repeat("a.", 127)+"a", 4096, 1<<20)
	r, _ := s.Hear(line.Line{Text: "EHLO x"}, lastTick, true)
	shown(t, r)
}

// P17.1: what a message may say of its size and of its release; what is refused leaves no sender.
func TestMail(t *testing.T) {
	const sender, size, hold, room = "250 2.1.0 sender", "552 5.3.4 size", "501 5.5.4 hold", "452 4.3.1 room"
	until := func(n int) string {
		text, e := date.Print(n)
		if e != api.OK {
			t.Fatal(n, e)
		}
		return " HOLDUNTIL=" + text
	}
	for _, x := range []struct {
		words string
		now   int
		full  bool
		want  string
	}{
		{"", 100, false, sender},
		{"", 100, true, room},
		{" SIZE=0", 100, false, sender},
		{" SIZE=1000", 100, false, sender},
		{" SIZE=1001", 100, false, size},
		{" SIZE=999999999", 100, false, size},
		{" SIZE=1001", 100, true, size},
		{" SIZE=1001 HOLDFOR=601", 100, true, size},
		{" SIZE=1000 HOLDFOR=601", 100, true, hold},
		{" HOLDFOR=1", 100, false, sender},
		{" HOLDFOR=600", 100, false, sender},
		{" HOLDFOR=600", 100, true, room},
		{" HOLDFOR=601", 100, false, hold},
		{" HOLDFOR=1048576", 100, true, hold},
		{" HOLDFOR=600", lastTick, false, sender},
		{" HOLDFOR=601", lastTick, false, hold},
		{until(0), 0, false, sender},
		{until(0), 100, false, sender},
		{until(700), 100, false, sender},
		{until(700), 100, true, room},
		{until(701), 100, false, hold},
		{until(701), 100, true, hold},
		{until(701), 101, false, sender},
		{until(600), 0, false, sender},
		{until(601), 0, false, hold},
		{until(600), -1, false, sender},
		{until(601), math.MinInt, false, hold},
		{until(lastSecond), lastSecond - 600, false, sender},
		{until(lastSecond), lastSecond - 601, false, hold},
		{until(lastSecond), math.MaxInt, false, sender},
		{" HOLDUNTIL=1970-01-01T01:11:40+01:00", 100, false, sender},
		{" HOLDUNTIL=1970-01-01T01:11:41+01:00", 100, false, hold},
		{" KEY=1 SIZE=1001", 100, true, "555 5.5.4 key"},
		{" SIZE=1001 SIZE=1", 100, true, "501 5.5.4 form"},
	} {
		s := led(t, "ready")
		got := says(t, s, line.Line{Text: "MAIL FROM:<a@b>" + x.words}, x.now, !x.full)
		state := "ready"
		if x.want == sender {
			state = "mail"
		}
		if got != x.want || s.State() != state {
			t.Errorf("%+v: %q, %s", x, got, s.State())
		}
	}
	told(t, made(t, host, 4096, 1<<20), "250 2.1.0 sender", "mail", "EHLO a", "MAIL FROM:<a@b> SIZE=4096 HOLDFOR=1048576")
	told(t, made(t, host, 1, 1), "501 5.5.4 hold", "ready", "EHLO a", "MAIL FROM:<a@b> SIZE=1 HOLDFOR=2")
}

// P17.1: of nothing but MAIL, and of the last line, it is asked whether there is room.
func TestRoom(t *testing.T) {
	s := made(t, host, 1000, 600)
	for _, text := range []string{"EHLO a", "MAIL FROM:<a@b>", "RCPT TO:<c@d>", "NOOP", "VRFY a", "HELP", "DATA", "x"} {
		got := says(t, s, line.Line{Text: text}, 100, text[:1] == "M")
		if strings.HasPrefix(got, "4") || strings.HasPrefix(got, "5") {
			t.Error(text, got)
		}
	}
	if got := says(t, s, line.Line{Text: "."}, 100, false); got != "452 4.3.1 room" || s.State() != "ready" {
		t.Error(got, s.State())
	}
	getsNone(t, s)
}

// P17.1: a message has 8 recipients at most; the form of one more is asked ahead of that.
func TestMany(t *testing.T) {
	s := led(t, "mail")
	for i := range 8 {
		told(t, s, "250 2.1.5 recipient", "rcpt", fmt.Sprintf("RCPT TO:<c%d@d> ORCPT=a;%d", i, i))
	}
	told(t, s, "452 4.5.3 many", "rcpt", "RCPT TO:<c9@d>")
	told(t, s, "501 5.5.4 form", "rcpt", "RCPT TO:c9@d")
	told(t, s, "555 5.5.4 key", "rcpt", "RCPT TO:<c9@d> X=1")
	told(t, s, "452 4.5.3 many", "rcpt", "RCPT TO:<c9@d>")
	told(t, s, "", "ready", "DATA", "x", ".")
	m := gets(t, s)
	if len(m.Rcpts) != 8 {
		t.Fatal(m.Rcpts)
	}
	for i, r := range m.Rcpts {
		if r != (envelope.Rcpt{Path: path.Path{Local: fmt.Sprint("c", i), Domain: "d"}, Rcpt: param.Rcpt{Kind: "A", Orcpt: fmt.Sprint(i)}}) {
			t.Error(i, r)
		}
	}
	told(t, s, "250 2.1.5 recipient", "rcpt", "MAIL FROM:<>", "RCPT TO:<c@d>")
}

// P17.2: a message is told with all that was said of it, once.
func TestTaken(t *testing.T) {
	s := made(t, host, 1000, 600)
	told(t, s, "354 go", "data", "EHLO Client.H",
		`mail from:<"A b"@B.C> size=10 body=8bitmime ret=hdrs envid=a+20b holdfor=60 by=-5;nt mt-priority=-3`,
		"rcpt to:<POSTMASTER> notify=delay,success orcpt=rfc822;c+40d",
		`RCPT TO:<"c"@D>`,
		"DATA")
	getsNone(t, s)
	told(t, s, "", "data", "Subject: x", "", "..", "..a", ". ", "QUIT")
	getsNone(t, s)
	told(t, s, "", "ready", ".")
	want := envelope.Message{
		At: 100, Release: 160, From: path.Path{Local: "A b", Domain: "b.c"},
		Mail: param.Mail{Has: param.Has{Size: true, HoldFor: true, By: true, Priority: true}, Size: 10, HoldFor: 60, By: -5, Priority: -3, Body: "8BITMIME", Ret: "HDRS", Envid: "a b", Mode: "NT"},
		Rcpts: []envelope.Rcpt{
			{Path: path.Path{Local: "postmaster"}, Rcpt: param.Rcpt{Notify: "SD", Kind: "RFC822", Orcpt: "c@d"}},
			{Path: path.Path{Local: "c", Domain: "d"}},
		},
		Lines: []string{"Subject: x", "", ".", ".a", " ", "QUIT"},
	}
	if m := gets(t, s); !reflect.DeepEqual(m, want) {
		t.Errorf("%+v", m)
	}
	getsNone(t, s)
}

// P17.2: a message that was taken is told till the next line is heard, whatever that is.
func TestTakenTill(t *testing.T) {
	for _, l := range []line.Line{{Text: "NOOP"}, {Text: "x"}, {}, {Text: "."}, {Wrong: api.ErrForm}, {Text: "QUIT"}, {Text: "MAIL FROM:<a@b>"}, {Text: "DATA"}, {Text: "RSET"}} {
		s := led(t, "data")
		told(t, s, "", "ready", "x", ".")
		s.State()
		s.Gone()
		s.Hear(l, 100, true)
		getsNone(t, s)
	}
	s := led(t, "data")
	told(t, s, "", "ready", "x", ".")
	told(t, s, "354 go", "data", "MAIL FROM:<e@f>", "RCPT TO:<g@h>", "DATA")
	getsNone(t, s)
	told(t, s, "", "ready", "y", ".")
	if m := gets(t, s); m.From.Local != "e" || len(m.Rcpts) != 1 || m.Rcpts[0].Path.Local != "g" || !slices.Equal(m.Lines, []string{"y"}) {
		t.Errorf("%+v", m)
	}
}

// P17.3: behind a message nothing of it is left, be it taken or refused.
func TestAnew(t *testing.T) {
	for _, x := range []struct {
		text []string
		room bool
		want string
	}{
		{[]string{"x"}, true, ""},
		{[]string{"x"}, false, "452 4.3.1 room"},
		{[]string{"\x00"}, true, "554 5.6.0 form"},
		{[]string{strings.Repeat("x", 998), strings.Repeat("x", 998)}, true, "552 5.3.4 size"},
	} {
		s := led(t, "data")
		told(t, s, "", "data", x.text...)
		if got := says(t, s, line.Line{Text: "."}, 100, x.room); got != x.want || s.State() != "ready" {
			t.Error(x, got, s.State())
		}
		if x.want != "" {
			getsNone(t, s)
		}
		told(t, s, "503 5.5.1 order", "ready", "RCPT TO:<c@d>")
		told(t, s, "503 5.5.1 order", "ready", "DATA")
		told(t, s, "", "ready", "MAIL FROM:<e@f>", "RCPT TO:<g@h>", "DATA", "y", ".")
		m := gets(t, s)
		if m.From.Local != "e" || len(m.Rcpts) != 1 || m.Rcpts[0].Path.Local != "g" || !slices.Equal(m.Lines, []string{"y"}) {
			t.Errorf("%+v: %+v", x, m)
		}
	}
	for _, text := range []string{"RSET", "HELO a", "EHLO a"} {
		s := led(t, "rcpt")
		told(t, s, "503 5.5.1 order", "ready", text, "RCPT TO:<c@d>")
		told(t, s, "503 5.5.1 order", "mail", "MAIL FROM:<e@f>", "DATA")
		told(t, s, "", "ready", "RCPT TO:<g@h>", "DATA", ".")
		if m := gets(t, s); m.From.Local != "e" || len(m.Rcpts) != 1 || len(m.Lines) != 0 {
			t.Errorf("%s: %+v", text, m)
		}
	}
}

// P17.3: what is refused leaves what was told there.
func TestRefused(t *testing.T) {
	s := led(t, "rcpt")
	for _, text := range []string{"HELO", "EHLO -a", "MAIL FROM:<x@y>", "RSET x", "QUIT x", "DATA x", "RCPT TO:<x>", "RCPT TO:<x@y> SIZE=1", "x", "VRFY", "NOOP \x01", strings.Repeat("x", 511)} {
		got := says(t, s, line.Line{Text: text}, 100, true)
		if !strings.HasPrefix(got, "5") || s.State() != "rcpt" {
			t.Error(text, got, s.State())
		}
	}
	told(t, s, "", "ready", "DATA", "x", ".")
	if m := gets(t, s); m.From.Local != "a" || len(m.Rcpts) != 1 || m.Rcpts[0].Path.Local != "c" || !slices.Equal(m.Lines, []string{"x"}) {
		t.Errorf("%+v", m)
	}
}

// P17.1: behind QUIT nothing is said, and nothing is changed.
func TestGone(t *testing.T) {
	for _, state := range states[:4] {
		s := led(t, state)
		told(t, s, "221 2.0.0 mail.h", "gone", "QUIT")
		for _, l := range []line.Line{{Text: "NOOP"}, {Text: "QUIT"}, {Text: "EHLO a"}, {Text: "MAIL FROM:<a@b>"}, {Text: "DATA"}, {Text: "."}, {Wrong: api.ErrLong}, {Text: "x"}, {}} {
			if got := says(t, s, l, 100, true); got != "" || s.State() != "gone" || !s.Gone() {
				t.Error(l, got, s.State())
			}
			getsNone(t, s)
		}
	}
}

// P17.2: when a message was accepted, and when it is released: by the time of its last line, within the hold.
func TestRelease(t *testing.T) {
	for _, x := range []struct {
		words             string
		begun, now        int
		accepted, release int
	}{
		{"", 0, 0, 0, 0},
		{"", 100, 130, 130, 130},
		{"", 0, -5, 0, 0},
		{"", 0, math.MinInt, 0, 0},
		{"", 0, lastTick, lastTick, lastTick},
		{"", 0, lastTick + 1, lastTick, lastTick},
		{"", 0, math.MaxInt, lastTick, lastTick},
		{" HOLDFOR=60", 100, 100, 100, 160},
		{" HOLDFOR=60", 100, 130, 130, 190},
		{" HOLDFOR=600", 100, 130, 130, 730},
		{" HOLDFOR=600", 100, 30, 30, 630},
		{" HOLDFOR=600", 0, math.MaxInt, lastTick, lastTick + 600},
		{" HOLDFOR=600", 0, math.MinInt, 0, 600},
		{" HOLDUNTIL=1970-01-01T00:11:40Z", 100, 100, 100, 700},
		{" HOLDUNTIL=1970-01-01T00:11:40Z", 100, 130, 130, 700},
		{" HOLDUNTIL=1970-01-01T00:11:40Z", 100, 699, 699, 700},
		{" HOLDUNTIL=1970-01-01T00:11:40Z", 100, 700, 700, 700},
		{" HOLDUNTIL=1970-01-01T00:11:40Z", 100, 701, 701, 701},
		{" HOLDUNTIL=1970-01-01T00:11:40Z", 100, 99, 99, 699},
		{" HOLDUNTIL=1970-01-01T00:11:40Z", 100, 0, 0, 600},
		{" HOLDUNTIL=1970-01-01T00:11:40Z", 100, -7, 0, 600},
		{" HOLDUNTIL=1970-01-01T00:00:00Z", 100, 130, 130, 130},
		{" HOLDUNTIL=9999-12-31T23:59:59Z", lastSecond, lastSecond - 1, lastSecond - 1, lastSecond},
		{" HOLDUNTIL=9999-12-31T23:59:59Z", lastSecond, lastTick, lastTick, lastTick},
		{" BY=60;R", 100, 130, 130, 130},
	} {
		s := led(t, "ready")
		s.Hear(line.Line{Text: "MAIL FROM:<a@b>" + x.words}, x.begun, true)
		s.Hear(line.Line{Text: "RCPT TO:<c@d>"}, 1, true)
		s.Hear(line.Line{Text: "DATA"}, 2, true)
		s.Hear(line.Line{Text: "x"}, 3, true)
		if got := says(t, s, line.Line{Text: "."}, x.now, true); got != "" {
			t.Fatal(x, got)
		}
		m := gets(t, s)
		if m.Id != 0 || m.At != x.accepted || m.Release != x.release {
			t.Errorf("%+v: %d, %d to %d", x, m.Id, m.At, m.Release)
		}
	}
}

// sent sends a text, and answers what is said behind its last line.
func sent(t *testing.T, size int, room bool, text ...line.Line) (string, *Server) {
	t.Helper()
	s := made(t, host, size, 600)
	for _, lead := range leads["data"] {
		s.Hear(line.Line{Text: lead}, 100, true)
	}
	for _, l := range text {
		if got := says(t, s, l, 100, room); got != "" || s.State() != "data" {
			t.Fatalf("%+v: %q, %s", l, got, s.State())
		}
		getsNone(t, s)
	}
	got := says(t, s, line.Line{Text: "."}, 100, room)
	if s.State() != "ready" {
		t.Fatal(s.State())
	}
	return got, s
}

// repeated answers so many lines of a text.
func repeated(text string, n int) []line.Line { return slices.Repeat([]line.Line{{Text: text}}, n) }

// P17.1, P17.3: what is wrong with data, in its order.
func TestData(t *testing.T) {
	const size, form, full = "552 5.3.4 size", "554 5.6.0 form", "452 4.3.1 room"
	xs := func(n int) line.Line { return line.Line{Text: strings.Repeat("x", n)} }
	wrong := line.Line{Wrong: api.ErrLong}
	for i, x := range []struct {
		size int
		text []line.Line
		full bool
		want string
	}{
		{3, nil, false, ""},
		{2, nil, false, size},
		{1, nil, false, size},
		{5, repeated("", 1), false, ""},
		{4, repeated("", 1), false, size},
		{100, []line.Line{xs(95)}, false, ""},
		{100, []line.Line{xs(96)}, false, size},
		{100, []line.Line{xs(45), xs(48)}, false, ""},
		{100, []line.Line{xs(45), xs(49)}, false, size},
		{100, []line.Line{xs(50), xs(44)}, false, size},
		{100, []line.Line{xs(200), xs(1)}, false, size},
		{6, []line.Line{{Text: ".a"}}, false, ""}, // what is kept has no . ahead
		{5, []line.Line{{Text: ".a"}}, false, size},
		{7, []line.Line{{Text: ".."}}, false, ""}, // what is kept is .
		{6, []line.Line{{Text: ".."}}, false, size},
		{8, []line.Line{{Text: "..a"}}, false, ""},
		{7, []line.Line{{Text: "..a"}}, false, size},
		{6, []line.Line{{Text: "a"}}, false, ""},
		{5, []line.Line{{Text: "a"}}, false, size},
		{4096, append(repeated(strings.Repeat("x", 998), 4), xs(91)), false, ""},
		{4096, append(repeated(strings.Repeat("x", 998), 4), xs(92)), false, size},
		{4096, repeated("", 2046), false, ""},
		{4096, repeated("", 2047), false, size},
		{4096, []line.Line{xs(998)}, false, ""},
		{4096, []line.Line{xs(999)}, false, form},
		{4096, []line.Line{xs(100000)}, false, form},
		{4096, []line.Line{{Text: "." + strings.Repeat("x", 998)}}, false, ""},
		{4096, []line.Line{{Text: "." + strings.Repeat("x", 999)}}, false, form},
		{4096, []line.Line{{Text: ".." + strings.Repeat("x", 997)}}, false, ""},
		{4096, []line.Line{{Text: ".." + strings.Repeat("x", 998)}}, false, form},
		{4096, []line.Line{{Text: "a\x00b"}}, false, form},
		{4096, []line.Line{{Text: "a\rb"}}, false, form},
		{4096, []line.Line{{Text: "a\nb"}}, false, form},
		{4096, []line.Line{{Text: ".\n"}}, false, form},
		{4096, []line.Line{{Text: "a\x01\x7f\x80\xff\t"}}, false, ""},
		{4096, []line.Line{{Wrong: api.ErrForm}}, false, form},
		{4096, []line.Line{{Wrong: api.ErrEnd}}, false, form},
		{4096, []line.Line{{Wrong: -7}}, false, form},
		{4096, []line.Line{{Text: ".", Wrong: api.ErrLong}}, false, form},
		{4096, []line.Line{{Text: "x", Wrong: api.ErrForm}, {Text: "y"}}, false, form},
		{3, []line.Line{wrong}, false, form}, // wrong ones don't count
		{3, repeated("a\x00b", 9), false, form},
		{3, []line.Line{xs(999)}, false, form},
		{3, []line.Line{{Text: "abc", Wrong: api.ErrForm}}, false, form},
		{2, []line.Line{wrong}, false, size},
		{6, []line.Line{wrong, {Text: "a"}}, false, form},
		{5, []line.Line{wrong, {Text: "a"}}, false, size},
		{5, []line.Line{{Text: "a"}, wrong}, false, size},
		{5, []line.Line{{Text: "a"}, wrong}, true, size},
		{6, []line.Line{{Text: "a"}, wrong}, true, form},
		{6, []line.Line{{Text: "a"}}, true, full},
		{5, []line.Line{{Text: "a"}}, true, size},
	} {
		got, s := sent(t, x.size, !x.full, x.text...)
		if got != x.want {
			t.Errorf("%d: %q, not %q", i, got, x.want)
		}
		if x.want != "" {
			getsNone(t, s)
			continue
		}
		m := gets(t, s)
		m.Id = 1
		data, _ := line.Data(m.Lines)
		if len(m.Lines) != len(x.text) || len(data) > x.size || envelope.Right(m) != api.OK {
			t.Errorf("%d: %q", i, m.Lines)
		}
	}
}

// P17.3: what a client lays as data (layer 1) is what is taken, whatever pieces it comes in.
func TestThrough(t *testing.T) {
	draw := rand.New(rand.NewSource(17))
	for range 3000 {
		var text []string
		for range draw.Intn(6) {
			text = append(text, anyText(draw))
		}
		data, e := line.Data(text)
		if e != api.OK {
			continue
		}
		c, _ := line.New(api.MaxText + 1)
		s := made(t, host, 4096, 10)
		all := "EHLO a\r\nMAIL FROM:<a@b>\r\nRCPT TO:<c@d>\r\nDATA\r\n" + data
		for all != "" {
			n := 1 + draw.Intn(len(all))
			for _, l := range c.Feed(all[:n]) {
				s.Hear(l, 5, true)
			}
			all = all[n:]
		}
		if m := gets(t, s); !slices.Equal(m.Lines, text) {
			t.Fatalf("%q, not %q", m.Lines, text)
		}
	}
}

// anyText answers a line of a text.
func anyText(draw *rand.Rand) string {
	return pick(draw, "", ".", "..", ".x", "..x", "QUIT", "RSET", "x", " ", "\t", "\xff\x80", "é", strings.Repeat("x", draw.Intn(100)), strings.Repeat(".", draw.Intn(9)), strings.Repeat("y", 990+draw.Intn(9)))
}

// pick draws one of a list.
func pick[T any](draw *rand.Rand, l ...T) T { return l[draw.Intn(len(l))] }

// said: a line, and what was told beside it.
type said struct {
	l    line.Line
	now  int
	room bool
}

// history: all that a plain server was told in a session, and held for right. It knows no state: each answer is looked up in what went ahead.
type history struct {
	size, hold int
	right      []command.Command // that were answered by 2 or 3
	text       []line.Line
	open, gone bool
	message    *envelope.Message
}

// since answers the commands behind the last one that began anew, and whether there was one that told who the client is.
func (h *history) since() (l []command.Command, met bool) {
	for _, c := range h.right {
		switch c.Verb {
		case "HELO", "EHLO":
			l, met = nil, true
		case "RSET", "DATA": // of the latter the text is over
			l = nil
		case "MAIL", "RCPT":
			l = append(l, c)
		}
	}
	return l, met
}

// state answers by what its commands tell.
func (h *history) state() string {
	l, met := h.since()
	switch {
	case h.gone:
		return "gone"
	case h.open:
		return "data"
	case len(l) > 1:
		return "rcpt"
	case len(l) == 1:
		return "mail"
	case met:
		return "ready"
	}
	return "new"
}

// hear answers a reply's lines, or nothing.
func (h *history) hear(x said) string {
	h.message = nil
	x.now = max(x.now, 0)
	x.now = min(x.now, lastTick)
	switch {
	case h.gone:
		return ""
	case h.open && (x.l.Text != "." || x.l.Wrong != 0):
		h.text = append(h.text, x.l)
		return ""
	case h.open:
		return h.ended(x)
	case x.l.Wrong != 0 || len(x.l.Text) > 510:
		return "500 5.5.2 line"
	}
	return h.obey(x)
}

// obey answers a command.
func (h *history) obey(x said) string {
	text := strings.TrimRight(x.l.Text, " ")
	verb := strings.ToUpper(strings.SplitN(text, " ", 2)[0])
	if !slices.Contains([]string{"HELO", "EHLO", "MAIL", "RCPT", "DATA", "RSET", "QUIT", "NOOP", "VRFY", "HELP"}, verb) {
		return "500 5.5.1 verb"
	}
	l, met := h.since()
	late := verb == "MAIL" && (!met || len(l) > 0) || verb == "RCPT" && (!met || len(l) == 0)
	c, e := command.Parse(x.l.Text)
	switch {
	case late:
		return "503 5.5.1 order"
	case e == api.ErrKind:
		return "555 5.5.4 key"
	case e != api.OK:
		return "501 5.5.4 form"
	case verb == "DATA" && len(l) < 2:
		return "503 5.5.1 order"
	case verb == "MAIL" && c.Mail.Has.Size && c.Mail.Size > h.size:
		return "552 5.3.4 size"
	case verb == "MAIL" && c.Mail.Has.HoldFor && c.Mail.HoldFor > h.hold, verb == "MAIL" && c.Mail.Has.HoldUntil && c.Mail.HoldUntil > x.now+h.hold:
		return "501 5.5.4 hold"
	case verb == "MAIL" && !x.room:
		return "452 4.3.1 room"
	case verb == "RCPT" && len(l) == 9:
		return "452 4.5.3 many"
	}
	if verb == "DATA" { // it stands among the commands when its text is over
		h.open = true
		return "354 go"
	}
	h.right = append(h.right, c)
	h.gone = verb == "QUIT"
	until, _ := date.Print(min(x.now+h.hold, lastSecond))
	return map[string]string{
		"HELO": "250 mail.h",
		"EHLO": fmt.Sprintf("250-mail.h|250-PIPELINING|250-8BITMIME|250-ENHANCEDSTATUSCODES|250-DSN|250-SIZE %d|250-FUTURERELEASE %d %s|250-DELIVERBY|250 MT-PRIORITY", h.size, h.hold, until),
		"MAIL": "250 2.1.0 sender",
		"RCPT": "250 2.1.5 recipient",
		"RSET": "250 2.0.0 reset",
		"QUIT": "221 2.0.0 mail.h",
		"NOOP": "250 2.0.0 ok",
		"VRFY": "252 2.1.5 try",
		"HELP": "214 2.0.0 ok",
	}[verb]
}

// ended answers a text.
func (h *history) ended(x said) string {
	l, _ := h.since()
	var text []string
	bad := false
	bytes := 3
	for _, t := range h.text {
		s := t.Text
		if s != "" && s[0] == '.' {
			s = s[1:]
		}
		if t.Wrong != 0 || len(s) > 998 || strings.ContainsAny(s, "\x00\r\n") {
			bad = true
			continue
		}
		bytes += len(s) + 2
		if s != "" && s[0] == '.' {
			bytes++
		}
		text = append(text, s)
	}
	h.open, h.text = false, nil
	h.right = append(h.right, command.Command{Verb: "DATA"})
	switch {
	case bytes > h.size:
		return "552 5.3.4 size"
	case bad:
		return "554 5.6.0 form"
	case !x.room:
		return "452 4.3.1 room"
	}
	m := envelope.Message{At: x.now, Release: x.now, From: l[0].Path, Mail: l[0].Mail, Lines: text}
	if m.Mail.Has.HoldFor {
		m.Release += m.Mail.HoldFor
	}
	if m.Mail.Has.HoldUntil && m.Mail.HoldUntil > x.now {
		m.Release = m.Mail.HoldUntil
	}
	if m.Release > x.now+h.hold {
		m.Release = x.now + h.hold
	}
	for _, c := range l[1:] {
		m.Rcpts = append(m.Rcpts, envelope.Rcpt{Path: c.Path, Rcpt: c.Rcpt})
	}
	h.message = &m
	return ""
}

// anyLine draws a line as it may come: mostly the next one of a message.
func anyLine(draw *rand.Rand, state string) line.Line {
	right := map[string][]string{
		"new":   {"EHLO a", "HELO b"},
		"ready": {"MAIL FROM:<a@b>", "MAIL FROM:<>", "MAIL FROM:<a@b> HOLDFOR=5", "MAIL FROM:<a@b> HOLDUNTIL=1970-01-01T00:00:20Z BY=5;N"},
		"mail":  {"RCPT TO:<c@d>", "RCPT TO:<postmaster> NOTIFY=NEVER"},
		"rcpt":  {"RCPT TO:<c@d>", "RCPT TO:<e@f>", "DATA"},
		"data":  {".", anyText(draw), anyText(draw)},
		"gone":  {"NOOP"},
	}
	if draw.Intn(4) > 0 {
		return line.Line{Text: pick(draw, right[state]...)}
	}
	return pick(draw,
		line.Line{Text: "EHLO x.y"}, line.Line{Text: "HELO"}, line.Line{Text: "RSET"}, line.Line{Text: "NOOP x"}, line.Line{Text: "HELP"}, line.Line{Text: "VRFY x"},
		line.Line{Text: "DATA"}, line.Line{Text: "DATA x"}, line.Line{Text: "MAIL"}, line.Line{Text: "RCPT TO:<c@d> X"}, line.Line{Text: "RCPT TO:<c@d>"},
		line.Line{Text: "MAIL FROM:<a@b> SIZE=" + pick(draw, "10", "20", "21", "x", "")}, line.Line{Text: "MAIL FROM:<a@b> HOLDFOR=" + pick(draw, "9", "10", "11", "0")},
		line.Line{Text: "MAIL FROM:<a@b> HOLDUNTIL=1970-01-01T00:00:" + pick(draw, "09", "10", "11", "15", "21", "60") + "Z"},
		line.Line{Text: "."}, line.Line{Text: ".."}, line.Line{Text: "a\nb"}, line.Line{Text: strings.Repeat("x", pick(draw, 510, 511, 998, 999))},
		line.Line{Wrong: api.ErrLong}, line.Line{Text: ".", Wrong: api.ErrForm}, line.Line{Text: anyText(draw)},
		line.Line{Text: pick(draw, "QUIT", "QUIT x", "quit", "x")})
}

// P17.1 to P17.3: sessions of any lines, at any times, held against one that looks all up anew.
func TestAll(t *testing.T) {
	draw := rand.New(rand.NewSource(1))
	count := map[string]int{}
	for range 3000 {
		size, hold := pick(draw, 20, 200, 1, 3, 4096), pick(draw, 10, 1, 600)
		s, h := made(t, host, size, hold), &history{size: size, hold: hold}
		for range 40 {
			x := said{anyLine(draw, h.state()), pick(draw, 0, 5, 10, 11, 15, -3, 1<<20, lastTick, lastTick+9, math.MaxInt, math.MinInt), draw.Intn(8) > 0}
			want := h.hear(x)
			got := says(t, s, x.l, x.now, x.room)
			if got != want || s.State() != h.state() || s.Gone() != h.gone {
				t.Fatalf("%+v: %q, %s, not %q, %s", x, got, s.State(), want, h.state())
			}
			count[want]++
			if h.message != nil {
				count["taken"]++
			}
			if draw.Intn(4) == 0 {
				continue // it isn't fetched
			}
			m, is := s.Taken()
			if is != (h.message != nil) || is && !reflect.DeepEqual(m, *h.message) {
				t.Fatalf("%+v, not %+v", m, h.message)
			}
			if m.Id = 1; is && envelope.Right(m) != api.OK {
				t.Fatalf("%+v: %d", m, envelope.Right(m))
			}
		}
	}
	for _, text := range []string{"taken", "552 5.3.4 size", "554 5.6.0 form", "452 4.3.1 room", "452 4.5.3 many", "503 5.5.1 order", "501 5.5.4 hold", "555 5.5.4 key", "354 go"} {
		if count[text] < 20 {
			t.Error(text, count[text])
		}
	}
}

// P17.3: what is taken may be a message (layer 10), even if all of its lines are as long as can be.
func TestLongest(t *testing.T) {
	s := led(t, "ready")
	from := `MAIL FROM:<"` + strings.Repeat(`\"`, 63) + `"@` + strings.Repeat("a.", 100) + "a> ENVID=" + strings.Repeat("+20", 40)
	told(t, s, "250 2.1.0 sender", "mail", from)
	for range 8 {
		to := "RCPT TO:<c@d> ORCPT=a;" + strings.Repeat("+00", 162)
		told(t, s, "250 2.1.5 recipient", "rcpt", to)
	}
	told(t, s, "", "ready", "DATA", ".")
	m := gets(t, s)
	m.Id = 1
	if e := envelope.Right(m); e != api.OK {
		t.Error(e)
	}
}

// What is answered is new memory: nothing that is done to it is seen in later answers.
func TestNewMemory(t *testing.T) {
	s := made(t, host, 1000, 600)
	spoil := func(r api.Reply) {
		for i := range r.Text {
			r.Text[i] = "spoilt"
		}
		_ = append(r.Text, "spoilt")
	}
	for range 2 {
		if got := shown(t, s.Greet()); got != "220 mail.h" {
			t.Fatal(got)
		}
		spoil(s.Greet())
		for _, text := range []string{"HELO a", "EHLO a", "NOOP", "RSET", "x", "MAIL", "RCPT", "DATA", "HELP", "VRFY a"} {
			want := says(t, s, line.Line{Text: text}, 5, true)
			r, _ := s.Hear(line.Line{Text: text}, 5, true)
			spoil(r)
			if got := says(t, s, line.Line{Text: text}, 5, true); got != want {
				t.Error(text, got, want)
			}
		}
		spoil(Done())
		if got := shown(t, Done()); got != "250 2.0.0 taken" {
			t.Error(got)
		}
	}
	told(t, s, "", "ready", "MAIL FROM:<a@b>", "RCPT TO:<c@d>", "RCPT TO:<e@f>", "DATA", "x", "y", ".")
	m := gets(t, s)
	m.Rcpts[0], m.Lines[0] = envelope.Rcpt{}, "spoilt"
	_ = append(m.Rcpts[:1], envelope.Rcpt{})
	told(t, s, "", "ready", "MAIL FROM:<a@b>", "RCPT TO:<c@d>", "RCPT TO:<e@f>", "DATA", "x", "y", ".")
	n := gets(t, s)
	if n.Rcpts[0].Path.Local != "c" || n.Rcpts[1].Path.Local != "e" || !slices.Equal(n.Lines, []string{"x", "y"}) {
		t.Errorf("%+v", n)
	}
}

// inside tells if a text stands in the memory of another.
func inside(text, all string) bool {
	if text == "" || all == "" {
		return false
	}
	p, q := uintptr(unsafe.Pointer(unsafe.StringData(text))), uintptr(unsafe.Pointer(unsafe.StringData(all)))
	return p < q+uintptr(len(all)) && q < p+uintptr(len(text))
}

// What is handed in isn't kept.
func TestNotKept(t *testing.T) {
	name := strings.Clone("a.long.host")
	s := made(t, name, 1000, 600)
	if inside(s.Greet().Text[0], name) || inside(s.host, name) {
		t.Error("the host is kept")
	}
	var heard []string
	hear := func(text string) {
		text = strings.Clone(text)
		heard = append(heard, text)
		s.Hear(line.Line{Text: text}, 5, true)
	}
	for _, text := range []string{"EHLO client.h", "MAIL FROM:<sender@from.h> ENVID=envelope RET=FULL BODY=7BIT BY=5;N", "RCPT TO:<recipient@to.h> ORCPT=RFC822;orcpt NOTIFY=SUCCESS", "DATA", "text", ".dot", "."} {
		hear(text)
	}
	m := gets(t, s)
	for _, all := range heard {
		for _, text := range append(slices.Clone(m.Lines), m.From.Local, m.From.Domain, m.Mail.Envid, m.Mail.Ret, m.Mail.Body, m.Mail.Mode, m.Rcpts[0].Path.Local, m.Rcpts[0].Path.Domain, m.Rcpts[0].Rcpt.Kind, m.Rcpts[0].Rcpt.Orcpt, m.Rcpts[0].Rcpt.Notify) {
			if inside(text, all) {
				t.Errorf("%q is of %q", text, all)
			}
		}
	}
}

// What a text has beyond what is taken isn't kept: neither lines behind its size, nor behind a wrong one.
func TestLetGo(t *testing.T) {
	for _, first := range []line.Line{{Text: strings.Repeat("x", 998)}, {Wrong: api.ErrLong}, {}} {
		s := led(t, "data")
		s.Hear(first, 5, true)
		var ahead, behind runtime.MemStats
		runtime.GC()
		runtime.ReadMemStats(&ahead)
		for range 20000 {
			s.Hear(line.Line{Text: "0123456789"}, 5, true)
		}
		runtime.GC()
		runtime.ReadMemStats(&behind)
		if behind.HeapAlloc > ahead.HeapAlloc+100000 {
			t.Error(first, behind.HeapAlloc-ahead.HeapAlloc)
		}
		runtime.KeepAlive(s)
	}
}

// Servers know nothing of each other, and the same lines tell the same.
func TestApart(t *testing.T) {
	draw := rand.New(rand.NewSource(3))
	for range 300 {
		a, b := made(t, host, 200, 10), made(t, host, 200, 10)
		other := made(t, "other.h", 4096, 600)
		for range 30 {
			l := anyLine(draw, a.State())
			now, room := draw.Intn(20), draw.Intn(5) > 0
			first := says(t, a, l, now, room)
			other.Hear(anyLine(draw, other.State()), draw.Intn(20), draw.Intn(5) > 0)
			if second := says(t, b, l, now, room); first != second || a.State() != b.State() {
				t.Fatal(l, first, second)
			}
			m, is := a.Taken()
			if n, too := b.Taken(); is != too || !reflect.DeepEqual(m, n) {
				t.Fatalf("%+v, %+v", m, n)
			}
		}
	}
}

// Any line of any bytes is answered: commands once, those of text by nothing.
func TestAnything(t *testing.T) {
	draw := rand.New(rand.NewSource(4))
	for range 500 {
		s := made(t, host, 1+draw.Intn(4096), 1+draw.Intn(1<<20))
		for range 60 {
			b := make([]byte, draw.Intn(pick(draw, 4, 40, 1200)))
			draw.Read(b)
			l := line.Line{Text: pick(draw, "", "", "MAIL FROM:<", "RCPT TO:<", "EHLO a", "MAIL FROM:<a@b>", "RCPT TO:<c@d>", "DATA", ".", "NOOP ", "QUIT ") + pick(draw, "", string(b)), Wrong: api.Errno(pick(draw, 0, 0, 0, 0, 1, 2, -1, 1<<40))}
			ahead := s.State()
			r, is := s.Hear(l, int(draw.Uint64()), draw.Intn(3) > 0)
			switch {
			case ahead == "gone" && is, ahead == "data" && is && l.Text != ".", ahead != "gone" && ahead != "data" && !is:
				t.Fatalf("%s: %q: %+v", ahead, l.Text, r)
			case is:
				shown(t, r)
			}
			if r.Code >= 400 && ahead != "data" && s.State() != ahead {
				t.Fatal(ahead, l, r, s.State())
			}
			if m, taken := s.Taken(); taken {
				m.Id = 1
				if e := envelope.Right(m); e != api.OK {
					t.Fatalf("%+v: %d", m, e)
				}
			}
		}
	}
}
