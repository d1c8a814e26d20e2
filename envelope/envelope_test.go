package envelope

import (
	"fmt"
	"math"
	"math/rand"
	"reflect"
	"regexp"
	"slices"
	"strconv"
	"strings"
	"testing"
	"time"
	"unsafe"

	"duepost/api"
	"duepost/command"
	"duepost/param"
	"duepost/path"
)

// x answers so many letters.
func x(n int) string { return strings.Repeat("x", n) }

// host answers a domain of so many bytes.
func host(n int) string { return strings.Repeat("a.", n/2-1) + x(2+n%2) }

// each answers all bytes, one behind the other.
func each() string {
	all := make([]byte, 256)
	for n := range all {
		all[n] = byte(n)
	}
	return string(all)
}

// to answers a recipient of whom nothing is said.
func to(local, domain string) Rcpt { return Rcpt{Path: path.Path{Local: local, Domain: domain}} }

// many answers so many recipients.
func many(n int) []Rcpt { return slices.Repeat([]Rcpt{to("c", "d")}, n) }

// plainMessage answers one that is right, to a number of recipients.
func plainMessage(n int) Message {
	return Message{Id: 1, From: path.Path{Local: "a", Domain: "b"}, Rcpts: many(n)}
}

// fullMessage answers one of which all is said that can be.
func fullMessage() Message {
	return Message{
		Id: 12, At: 34, Release: 56, From: path.Path{Local: `a "b\ `, Domain: "c.d"},
		Mail: param.Mail{
			Has:  param.Has{Size: true, HoldFor: true, By: true, Priority: true},
			Size: 0, HoldFor: 22, By: -5, Priority: -9, Mode: "NT", Body: "8BITMIME", Ret: "FULL", Envid: "x y\r\n",
		},
		Rcpts: []Rcpt{
			{Path: path.Path{Local: "e", Domain: "f"}, Rcpt: param.Rcpt{Notify: "SFD", Kind: "RFC822", Orcpt: "e@f =\x00"}},
			to("postmaster", ""),
			{Path: path.Path{Local: "g", Domain: "1-2.h"}, Rcpt: param.Rcpt{Notify: "N"}},
		},
		Lines: []string{"Subject: x", "", ".", "..", ".a", "a.", " \t\xff\x01", "", "MAIL FROM:<>", ""},
	}
}

// rows: messages, and their bytes.
var rows = []struct {
	m Message
	s string
}{
	{Message{Id: 1, Rcpts: []Rcpt{to("postmaster", "")}}, "Q 1 0 0\r\nMAIL FROM:<>\r\nRCPT TO:<postmaster>\r\n\r\n.\r\n"},
	{Message{Id: 7, At: 5, Release: 65, From: path.Path{Local: "a", Domain: "b"}, Rcpts: many(1), Lines: []string{""}}, "Q 7 5 65\r\nMAIL FROM:<a@b>\r\nRCPT TO:<c@d>\r\n\r\n\r\n.\r\n"},
	{Message{Id: 7, At: 5, Release: 5, Mail: param.Mail{Ret: "HDRS"}, Rcpts: many(2), Lines: []string{"a", "", "b"}}, "Q 7 5 5\r\nMAIL FROM:<> RET=HDRS\r\nRCPT TO:<c@d>\r\nRCPT TO:<c@d>\r\n\r\na\r\n\r\nb\r\n.\r\n"},
	{Message{Id: 10, Rcpts: many(8), Lines: []string{".", ""}}, "Q 10 0 0\r\nMAIL FROM:<>\r\n" + strings.Repeat("RCPT TO:<c@d>\r\n", 8) + "\r\n..\r\n\r\n.\r\n"},
	{fullMessage(), "Q 12 34 56\r\n" + `MAIL FROM:<"a \"b\\ "@c.d> SIZE=0 BODY=8BITMIME RET=FULL ENVID=x+20y+0D+0A HOLDFOR=22 BY=-5;NT MT-PRIORITY=-9` + "\r\n" +
		"RCPT TO:<e@f> NOTIFY=SUCCESS,FAILURE,DELAY ORCPT=RFC822;e@f+20+3D+00\r\nRCPT TO:<postmaster>\r\nRCPT TO:<g@1-2.h> NOTIFY=NEVER\r\n\r\n" +
		"Subject: x\r\n\r\n..\r\n...\r\n..a\r\na.\r\n \t\xff\x01\r\n\r\nMAIL FROM:<>\r\n\r\n.\r\n"},
	{Message{Id: math.MaxInt32, At: 1 << 40, Release: 1<<40 + 1<<20, From: path.Path{Local: "a", Domain: "b"}, Mail: param.Mail{Has: param.Has{HoldUntil: true}, HoldUntil: 951865200}, Rcpts: many(1)}, "Q 2147483647 1099511627776 1099512676352\r\nMAIL FROM:<a@b> HOLDUNTIL=2000-02-29T23:00:00Z\r\nRCPT TO:<c@d>\r\n\r\n.\r\n"},
}

// isSame tells by other means than Same if messages are alike.
func isSame(a, b Message) bool {
	bare := func(m Message) Message {
		m.Rcpts, m.Lines = append([]Rcpt{}, m.Rcpts...), append([]string{}, m.Lines...)
		return m
	}
	return reflect.DeepEqual(bare(a), bare(b))
}

// brief answers how a message begins.
func brief(m Message) string { return fmt.Sprintf("%.300q", fmt.Sprintf("%+v", m)) }

// thereAndBack holds what a message is printed to, and what that is parsed to.
func thereAndBack(t *testing.T, m Message) string {
	t.Helper()
	s, e := Print(m)
	if e != api.OK || Right(m) != api.OK {
		t.Fatalf("Print(%s): %d, Right %d", brief(m), e, Right(m))
	}
	if got, e := Parse(s); !isSame(got, m) || !Same(got, m) || !Same(m, got) || e != api.OK {
		t.Fatalf("Parse(%.200q): %s, %d", s, brief(got), e)
	}
	return s
}

// isWrong holds why a message is none.
func isWrong(t *testing.T, want api.Errno, m Message) {
	t.Helper()
	if e := Right(m); e != want {
		t.Errorf("Right(%s): %d, not %d", brief(m), e, want)
	}
	if s, e := Print(m); s != "" || e != want {
		t.Errorf("Print(%s): %.200q, %d, not %d", brief(m), s, e, want)
	}
}

// isNone holds that a text isn't a message's bytes.
func isNone(t *testing.T, s string) {
	t.Helper()
	if m, e := Parse(s); !isSame(m, Message{}) || e != api.ErrForm {
		t.Errorf("Parse(%.200q): %s, %d", s, brief(m), e)
	}
}

// P10.1, P10.3: messages as bytes, and back.
func TestMessages(t *testing.T) {
	for _, r := range rows {
		if s := thereAndBack(t, r.m); s != r.s {
			t.Errorf("Print(%+v): %q, not %q", r.m, s, r.s)
		}
	}
}

// P10.1: numbers at their edges, and beyond.
func TestNumbers(t *testing.T) {
	const most, hold = 1 << 40, 1 << 20
	for _, n := range [][3]int{
		{1, 0, 0}, {2, 0, 0}, {math.MaxInt32, 0, 0}, {math.MaxInt32 - 1, 0, hold}, {1, 1, 1}, {1, 0, hold - 1}, {1, 1, hold + 1}, {1, 9, 9}, {1, 10, 11}, {1, most, most}, {1, most, most + hold}, {1, most - 1, most + hold - 1},
	} {
		m := plainMessage(1)
		m.Id, m.At, m.Release = n[0], n[1], n[2]
		if s := thereAndBack(t, m); !strings.HasPrefix(s, fmt.Sprintf("Q %d %d %d\r\nMAIL", n[0], n[1], n[2])) {
			t.Errorf("%d: %q", n, s)
		}
	}
	for _, n := range [][3]int{
		{0, 0, 0}, {-1, 0, 0}, {math.MaxInt32 + 1, 0, 0}, {math.MinInt, 0, 0}, {math.MaxInt, 0, 0}, {1<<32 + 1, 0, 0},
		{1, -1, 0}, {1, -1, -1}, {1, most + 1, most + 1}, {1, math.MaxInt, math.MaxInt}, {1, math.MaxInt, math.MinInt}, {1, math.MinInt, math.MinInt}, {1, math.MaxInt - hold, math.MaxInt},
		{1, 1, 0}, {1, 0, -1}, {1, 0, hold + 1}, {1, 1, hold + 2}, {1, most, most - 1}, {1, most, most + hold + 1}, {1, 0, math.MaxInt}, {1, 0, math.MinInt}, {1, most, 0},
	} {
		m := plainMessage(1)
		m.Id, m.At, m.Release = n[0], n[1], n[2]
		isWrong(t, api.ErrRange, m)
		isNone(t, fmt.Sprintf("Q %d %d %d\r\nMAIL FROM:<a@b>\r\nRCPT TO:<c@d>\r\n\r\n.\r\n", n[0], n[1], n[2]))
		// Numbers are told ahead of all else that is wrong.
		m.From.Domain, m.Rcpts, m.Lines = "", nil, []string{"\n"}
		isWrong(t, api.ErrRange, m)
	}
}

// P10.1: what MAIL and RCPT may not say.
func TestSaid(t *testing.T) {
	for _, k := range []struct {
		from path.Path
		mail param.Mail
		want api.Errno
	}{
		{path.Path{Local: "postmaster"}, param.Mail{}, api.ErrForm},
		{path.Path{Local: "a"}, param.Mail{}, api.ErrForm},
		{path.Path{Domain: "b"}, param.Mail{}, api.ErrForm},
		{path.Path{Local: "a", Domain: "B"}, param.Mail{}, api.ErrForm},
		{path.Path{Local: "\r\n", Domain: "b"}, param.Mail{}, api.ErrForm},
		{path.Path{Local: x(65), Domain: "b"}, param.Mail{}, api.ErrLong},
		{path.Path{Local: "a", Domain: host(256)}, param.Mail{}, api.ErrLong},
		{path.Path{}, param.Mail{Ret: "x"}, api.ErrForm},
		{path.Path{}, param.Mail{Size: 1}, api.ErrForm},
		{path.Path{}, param.Mail{Has: param.Has{Size: true}, Size: -1}, api.ErrRange},
		{path.Path{}, param.Mail{Envid: x(101)}, api.ErrLong},
		{path.Path{}, param.Mail{Has: param.Has{HoldFor: true, HoldUntil: true}, HoldFor: 1}, api.ErrState},
		{path.Path{Local: x(64), Domain: host(255)}, param.Mail{Envid: strings.Repeat(" ", 100)}, api.ErrLong},
	} {
		m := plainMessage(1)
		m.From, m.Mail = k.from, k.mail
		isWrong(t, k.want, m)
		// Of MAIL it is told ahead of RCPT, their number, and the lines.
		m.Rcpts, m.Lines = many(9), []string{"\n"}
		m.Rcpts[0].Rcpt.Notify = "x"
		isWrong(t, k.want, m)
		m.Rcpts = nil
		isWrong(t, k.want, m)
	}
	for _, k := range []struct {
		r    Rcpt
		want api.Errno
	}{
		{Rcpt{}, api.ErrForm},
		{to("a", ""), api.ErrForm},
		{to("", "b"), api.ErrForm},
		{to("Postmaster", ""), api.ErrForm},
		{to(x(65), "b"), api.ErrLong},
		{to("a", host(256)), api.ErrLong},
		{Rcpt{path.Path{Local: "a", Domain: "b"}, param.Rcpt{Notify: "FS"}}, api.ErrForm},
		{Rcpt{path.Path{Local: "a", Domain: "b"}, param.Rcpt{Orcpt: "a"}}, api.ErrForm},
		{Rcpt{path.Path{Local: "a", Domain: "b"}, param.Rcpt{Kind: "A", Orcpt: x(257)}}, api.ErrLong},
		{Rcpt{path.Path{Local: "a", Domain: "b"}, param.Rcpt{Kind: "A", Orcpt: strings.Repeat(" ", 200)}}, api.ErrLong},
	} {
		for _, n := range []int{1, 3, 8, 9, 20} {
			for at := range n {
				m := plainMessage(n)
				m.Rcpts[at] = k.r
				isWrong(t, k.want, m)
				// It is told ahead of the number of recipients, and of the lines.
				m.Lines = []string{"\n"}
				isWrong(t, k.want, m)
			}
		}
	}
	// The first that is wrong is told.
	m := plainMessage(3)
	m.Rcpts[1], m.Rcpts[2] = to(x(65), "b"), Rcpt{}
	isWrong(t, api.ErrLong, m)
	m.Rcpts[0] = Rcpt{}
	isWrong(t, api.ErrForm, m)
}

// P10.1: as many recipients as may be, and as may not.
func TestRecipients(t *testing.T) {
	for n := range 9 {
		m := plainMessage(n)
		if n == 0 {
			isWrong(t, api.ErrLong, m)
			continue
		}
		if s := thereAndBack(t, m); s != "Q 1 0 0\r\nMAIL FROM:<a@b>\r\n"+strings.Repeat("RCPT TO:<c@d>\r\n", n)+"\r\n.\r\n" {
			t.Errorf("%d: %q", n, s)
		}
	}
	for _, n := range []int{0, 9, 10, 16, 1000} {
		m := plainMessage(n)
		isWrong(t, api.ErrLong, m)
		isNone(t, "Q 1 0 0\r\nMAIL FROM:<a@b>\r\n"+strings.Repeat("RCPT TO:<c@d>\r\n", n)+"\r\n.\r\n")
		// It is told ahead of the lines.
		m.Lines = []string{"\n"}
		isWrong(t, api.ErrLong, m)
	}
	m := plainMessage(1)
	m.Rcpts = []Rcpt{}
	isWrong(t, api.ErrLong, m)
}

// P10.1: lines that may be and may not, and data of as many bytes as may be, and of more.
func TestData(t *testing.T) {
	with := func(l ...string) Message {
		m := plainMessage(1)
		m.Lines = l
		return m
	}
	for _, l := range [][]string{
		nil, {}, {""}, {"", ""}, {"."}, {".", "."}, {x(998)}, {"." + x(997)}, {strings.Repeat(".", 998)}, slices.Repeat([]string{""}, 2046), slices.Repeat([]string{"."}, 1023),
		{x(998), x(998), x(998), x(998), x(91)}, {x(998), x(998), x(998), x(998), "." + x(89)}, {x(998), x(998), x(998), "." + x(997), "." + x(88)},
	} {
		s := thereAndBack(t, with(l...))
		if at := strings.Index(s, "\r\n\r\n"); len(s)-at-4 > 4096 {
			t.Errorf("%.40q: data of %d bytes", l, len(s)-at-4)
		}
	}
	for _, l := range [][]string{
		{"\n"}, {"\r"}, {"\x00"}, {"a\r\nb"}, {"a\n"}, {"a", "b\x00"}, {"\r\n.\r\n"}, {x(999), "\n"}, {"\r", x(999)}, append(slices.Repeat([]string{""}, 3000), "\x00"), {strings.Repeat("\n", 5000)},
	} {
		isWrong(t, api.ErrForm, with(l...))
	}
	for _, l := range [][]string{
		{x(999)}, {"." + x(998)}, {"", x(1000)}, {x(100000)}, slices.Repeat([]string{""}, 2047), slices.Repeat([]string{"."}, 1024), slices.Repeat([]string{""}, 100000),
		{x(998), x(998), x(998), x(998), x(92)}, {x(998), x(998), x(998), x(998), "." + x(90)}, {x(998), x(998), x(998), "." + x(997), "." + x(89)}, {x(998), x(998), x(998), x(998), x(998)},
	} {
		isWrong(t, api.ErrLong, with(l...))
	}
	head := "Q 1 0 0\r\nMAIL FROM:<a@b>\r\nRCPT TO:<c@d>\r\n\r\n"
	for _, data := range []string{x(999) + "\r\n.\r\n", strings.Repeat("\r\n", 2047) + ".\r\n", strings.Repeat("a\r\n", 1365) + ".\r\n", strings.Repeat("..\r\n", 1024) + ".\r\n"} {
		isNone(t, head+data)
	}
}

// P10.1: MAIL and RCPT of as many bytes as a line may have, and the longest message of all.
func TestLongest(t *testing.T) {
	m := Message{Id: math.MaxInt32, At: 1 << 40, Release: 1<<40 + 1<<20, From: path.Path{Local: x(64), Domain: host(255)}, Mail: param.Mail{Envid: strings.Repeat(" ", 40) + x(4)}}
	r := Rcpt{Path: path.Path{Local: x(64), Domain: host(255)}, Rcpt: param.Rcpt{Kind: "A", Orcpt: strings.Repeat(" ", 40) + x(3)}}
	m.Rcpts = slices.Repeat([]Rcpt{r}, 8)
	m.Lines = []string{x(998), x(998), x(998), x(998), x(91)}
	lengths := func(m Message) (mail, rcpt int) {
		l := strings.Split(thereAndBack(t, m), "\r\n")
		return len(l[1]), len(l[2])
	}
	mail, rcpt := lengths(m)
	m.Mail.Envid += x(510 - mail)
	for i := range m.Rcpts {
		m.Rcpts[i].Rcpt.Orcpt += x(510 - rcpt)
	}
	if mail, rcpt = lengths(m); mail != 510 || rcpt != 510 {
		t.Fatal(mail, rcpt)
	}
	s := thereAndBack(t, m)
	if len(s) != 42+9*512+2+4096 {
		t.Errorf("%d bytes", len(s))
	}
	long := m
	long.Mail.Envid += "x"
	isWrong(t, api.ErrLong, long)
	m.Rcpts[7].Rcpt.Orcpt += "x"
	isWrong(t, api.ErrLong, m)
	isNone(t, s+"\r\n")
	isNone(t, " "+s)
	isNone(t, strings.Replace(s, "ENVID=", "ENVID=x", 1))
}

// P10.1: texts that are no message's bytes.
func TestParseWrong(t *testing.T) {
	head, data := "Q 1 0 0\r\nMAIL FROM:<a@b>\r\nRCPT TO:<c@d>\r\n\r\n", "a\r\n.\r\n"
	if _, e := Parse(head + data); e != api.OK {
		t.Fatal(e)
	}
	for _, s := range []string{
		"", " ", "\r\n", "\r\n\r\n", ".\r\n", "\r\n\r\n.\r\n", "Q", "Q 1 0 0", "Q 1 0 0\r\n", "Q 1 0 0\r\n\r\n.\r\n", "Q 1 0 0\r\nMAIL FROM:<a@b>\r\n\r\n.\r\n", "Q 1 0 0\r\nRCPT TO:<c@d>\r\n\r\n.\r\n",
		"MAIL FROM:<a@b>\r\nRCPT TO:<c@d>\r\n\r\n.\r\n", "S 0 R 0 5 0", each(), head, head + "a", head + "a\r\n", head + ".", head + ".\r", head + ".\n", head + "a\r\n.", head + "a\r\n.\n", head + data + "a", head + data + data, head + data + "\r\n", head + data + head + data,
		head + ".a\r\n.\r\n", head + ". \r\n.\r\n", head + "a\nb\r\n.\r\n", head + "a\rb\r\n.\r\n", head + "\x00\r\n.\r\n", head + "a\r\n..\r\n", head + "a\r\n.\r\n.\r\n",
	} {
		isNone(t, s)
	}
	for _, first := range []string{
		"", "Q", "Q ", "Q 1", "Q 1 0", "Q 1 0 ", "Q  1 0 0", "Q 1  0 0", "Q 1 0  0", "Q 1 0 0 ", " Q 1 0 0", "Q 1 0 0 0", "q 1 0 0", "S 1 0 0", "R 1 0 0", "QQ 1 0 0", "1 0 0", " 1 0 0", "Q1 0 0", "Q\t1 0 0", "Q 1\t0 0", "Q,1,0,0",
		"Q 01 0 0", "Q 1 00 0", "Q 1 0 00", "Q +1 0 0", "Q 1 +0 0", "Q 1 -0 0", "Q 1 0 -0", "Q -1 0 0", "Q 0 0 0", "Q a 0 0", "Q 1 a 0", "Q 1 0 a", "Q 0x1 0 0", "Q 1_0 0 0", "Q 1.0 0 0", "Q 1e0 0 0", "Q 1 2 1", "Q 1 -1 0", "Q 1 0 1048577", "Q 1 0 0\r", "Q 1 0 0\n", "Q 1 0 0\x00",
		"Q 2147483648 0 0", "Q 4294967297 0 0", "Q 18446744073709551617 0 0", "Q 1 18446744073709551616 0", "Q 1 0 18446744073709551616", "Q 1 1099511627777 1099511627777", "Q 1 9223372036854775807 9223372036854775807", "Q 1 99999999999999999999 99999999999999999999",
		"Q \u0661 0 0", "Q 1 0 0 MAIL FROM:<a@b>", "Q " + strings.Repeat("0", 5000) + "1 0 0",
	} {
		isNone(t, first+"\r\nMAIL FROM:<a@b>\r\nRCPT TO:<c@d>\r\n\r\n"+data)
	}
	for _, said := range []string{
		"", "MAIL FROM:<a@b>", "RCPT TO:<c@d>", "MAIL FROM:<a@b>\r\nMAIL FROM:<a@b>", "RCPT TO:<c@d>\r\nMAIL FROM:<a@b>", "RCPT TO:<c@d>\r\nRCPT TO:<c@d>", "MAIL FROM:<a@b>\r\nDATA", "DATA\r\nRCPT TO:<c@d>", "RSET\r\nRCPT TO:<c@d>", "x\r\nRCPT TO:<c@d>", "HELO a\r\nMAIL FROM:<a@b>\r\nRCPT TO:<c@d>",
		"mail FROM:<a@b>\r\nRCPT TO:<c@d>", "MAIL from:<a@b>\r\nRCPT TO:<c@d>", "MAIL FROM:<a@B>\r\nRCPT TO:<c@d>", "MAIL FROM:<\"a\"@b>\r\nRCPT TO:<c@d>", "MAIL FROM:<a@b> \r\nRCPT TO:<c@d>", "MAIL FROM:<a@b> RET=full\r\nRCPT TO:<c@d>", "MAIL FROM:<a@b> SIZE=01\r\nRCPT TO:<c@d>", "MAIL FROM:<a@b> RET=FULL SIZE=1\r\nRCPT TO:<c@d>", "MAIL FROM:<a@b> ENVID=+41\r\nRCPT TO:<c@d>", "MAIL FROM:<a@b> MT-PRIORITY=-0\r\nRCPT TO:<c@d>", "MAIL FROM:<a@b> HOLDUNTIL=2000-03-01T00:00:00+00:00\r\nRCPT TO:<c@d>", "MAIL FROM:<postmaster>\r\nRCPT TO:<c@d>", "MAIL FROM:<a@b> X=1\r\nRCPT TO:<c@d>", "MAIL FROM:<\r\nRCPT TO:<c@d>", "MAIL FROM:<a>\r\nRCPT TO:<c@d>", "MAIL TO:<a@b>\r\nRCPT TO:<c@d>",
		"MAIL FROM:<a@b>\r\nrcpt to:<c@d>", "MAIL FROM:<a@b>\r\nRCPT TO:<c@D>", "MAIL FROM:<a@b>\r\nRCPT TO:<Postmaster>", "MAIL FROM:<a@b>\r\nRCPT TO:<>", "MAIL FROM:<a@b>\r\nRCPT TO:<c@d> ", "MAIL FROM:<a@b>\r\nRCPT TO:<c@d>\r\n ", "MAIL FROM:<a@b>\r\nRCPT TO:<c@d> NOTIFY=DELAY,SUCCESS", "MAIL FROM:<a@b>\r\nRCPT TO:<c@d> NOTIFY=N", "MAIL FROM:<a@b>\r\nRCPT TO:<c@d> ORCPT=a;x", "MAIL FROM:<a@b>\r\nRCPT TO:<c@d> ORCPT=A;x NOTIFY=NEVER", "MAIL FROM:<a@b>\r\nRCPT TO:<c@d>\r\nx", "MAIL FROM:<a@b>\r\nRCPT TO:<c@d>\r\nRCPT TO:<c@d", "MAIL FROM:<a@b>\r\nRCPT TO:<c@d>\nRCPT TO:<c@d>", "MAIL FROM:<a@b>\n\r\nRCPT TO:<c@d>", "MAIL FROM:<a@b>\r\nQUIT\r\nRCPT TO:<c@d>", "\r\nMAIL FROM:<a@b>\r\nRCPT TO:<c@d>", "MAIL FROM:<a@b>\r\n\r\nRCPT TO:<c@d>",
	} {
		isNone(t, "Q 1 0 0\r\n"+said+"\r\n\r\n"+data)
	}
}

// numeral: the one row of digits of a number.
const numeral = `(0|[1-9][0-9]{0,15})`

var (
	messageForm = regexp.MustCompile(`(?s)^Q ` + numeral + " " + numeral + " " + numeral + "\r\n(MAIL FROM:[ -~]*)\r\n((?:RCPT TO:[ -~]*\r\n)+)\r\n(.*)$")
	statusForm  = regexp.MustCompile(`^S ([0-7]) ([RDGF]) (0|[1-9][0-9]{0,2}|1000) ` + numeral + ` ([0-7])$`)
)

// integer answers a number that is one.
func integer(s string) int {
	n, err := strconv.Atoi(s)
	if err != nil {
		panic(err)
	}
	return n
}

// plainParse answers the message that a text tells, by other means than Parse.
func plainParse(s string) (Message, bool) {
	l := messageForm.FindStringSubmatch(s)
	if l == nil {
		return Message{}, false
	}
	m := Message{Id: integer(l[1]), At: integer(l[2]), Release: integer(l[3])}
	if m.Id < 1 || m.Id > 2147483647 || m.At > 1099511627776 || m.Release < m.At || m.Release-m.At > 1048576 {
		return Message{}, false
	}
	for i, text := range strings.Split(l[4]+"\r\n"+strings.TrimSuffix(l[5], "\r\n"), "\r\n") {
		c, e := command.Parse(text)
		if again, f := command.Print(c); e != api.OK || f != api.OK || again != text {
			return Message{}, false
		}
		if i == 0 {
			m.From, m.Mail = c.Path, c.Mail
			continue
		}
		m.Rcpts = append(m.Rcpts, Rcpt{c.Path, c.Rcpt})
	}
	data, ended := strings.CutSuffix("\r\n"+l[6], "\r\n.\r\n")
	if !ended || len(l[6]) > 4096 || len(m.Rcpts) > 8 {
		return Message{}, false
	}
	for _, text := range strings.Split(data, "\r\n")[1:] {
		stuffed := strings.HasPrefix(text, ".")
		text = strings.TrimPrefix(text, ".")
		if strings.ContainsAny(text, "\x00\r\n") || len(text) > 998 || stuffed && !strings.HasPrefix(text, ".") {
			return Message{}, false
		}
		m.Lines = append(m.Lines, text)
	}
	return m, true
}

// hold holds Parse against what is plainly so.
func hold(t *testing.T, s string) {
	t.Helper()
	want, is := plainParse(s)
	m, e := Parse(s)
	if !isSame(m, want) || (e == api.OK) != is || !is && e != api.ErrForm {
		t.Fatalf("Parse(%q): %+v, %d, not %+v, %v", s, m, e, want, is)
	}
	if is {
		if again, e := Print(m); again != s || e != api.OK {
			t.Fatalf("Print(Parse(%q)): %q, %d", s, again, e)
		}
	}
}

// P10.1, P10.3: a message's bytes with each byte changed, let go, laid in, or said twice, and cut off anywhere.
func TestParseShifted(t *testing.T) {
	for i, r := range rows {
		laid := "\x00\t\n\r +,-.0159:;<=>@AQRaqr~\x7f\xff"
		if i < 2 {
			laid = each()
		}
		hold(t, r.s)
		for at := range len(r.s) {
			hold(t, r.s[:at])
			hold(t, r.s[at:])
			hold(t, r.s[:at]+r.s[at+1:])
			hold(t, r.s[:at]+r.s[at:at+1]+r.s[at:])
			hold(t, r.s[:at]+"\r\n"+r.s[at:])
			hold(t, r.s[:at]+".\r\n"+r.s[at:])
			hold(t, r.s[:at]+"\r\n.\r\n"+r.s[at:])
			for n := range len(laid) {
				hold(t, r.s[:at]+laid[n:n+1]+r.s[at+1:])
				hold(t, r.s[:at]+laid[n:n+1]+r.s[at:])
			}
		}
	}
}

// P10.1, P10.3: rows of pieces, drawn from a seed, held against what is plainly so.
func TestParsePieces(t *testing.T) {
	draw := rand.New(rand.NewSource(10))
	pieces := [][]string{
		{"Q 1 0 0\r\n", "Q 1 0 0\r\n", "Q 9 5 7\r\n", "Q 1 7 5\r\n", ""},
		{"MAIL FROM:<>\r\n", "MAIL FROM:<a@b> RET=FULL\r\n", "MAIL FROM:<a@b> SIZE=1\r\n", "MAIL FROM:<a@b>\r\nMAIL FROM:<a@b>\r\n", "MAIL FROM:<a>\r\n"},
		{"RCPT TO:<c@d>\r\n", "RCPT TO:<c@d>\r\n", "RCPT TO:<c@d>\r\nRCPT TO:<postmaster> NOTIFY=DELAY\r\n", strings.Repeat("RCPT TO:<c@d>\r\n", 7), ""},
		{"", "", "RCPT TO:<e@f>\r\n", "RCPT TO:<e@f> ORCPT=A;b\r\n", "RCPT TO:<>\r\n"},
		{"\r\n", "\r\n", "\r\n", "\r\n\r\n", ""},
		{"", "a\r\n", "..\r\n", "\r\n", ".\r\n"},
		{"", "b\r\n", "..a\r\n", "\r\n.\r\n", ".a\r\n"},
		{".\r\n", ".\r\n", ".\r\n", ".\r\n.\r\n", ""},
	}
	right := 0
	for range 20000 {
		s := ""
		for _, l := range pieces {
			s += l[draw.Intn(len(l))]
		}
		hold(t, s)
		if _, is := plainParse(s); is {
			right++
		}
	}
	if right < 500 || right > 19500 {
		t.Errorf("%d of them are messages", right)
	}
}

// drawn answers a message that is right, by a source.
func drawn(draw *rand.Rand) Message {
	text := func(most int, from string) string {
		b := make([]byte, 1+draw.Intn(most))
		for i := range b {
			b[i] = from[draw.Intn(len(from))]
		}
		return string(b)
	}
	one := func(l ...string) string { return l[draw.Intn(len(l))] }
	printable, plain := each()[32:127], strings.NewReplacer("\x00", "", "\r", "", "\n", "").Replace(each())
	m := Message{Id: 1 + draw.Intn(math.MaxInt32), At: draw.Intn(1<<40 + 1)}
	m.Release = m.At + draw.Intn(1<<20+1)
	if draw.Intn(4) > 0 {
		m.From = path.Path{Local: text(9, printable), Domain: "b"}
	}
	m.Mail.Body, m.Mail.Ret = one("", "7BIT", "8BITMIME"), one("", "FULL", "HDRS")
	if draw.Intn(2) > 0 {
		m.Mail.Envid = text(20, each())
	}
	if draw.Intn(2) > 0 {
		m.Mail.Has.By, m.Mail.By, m.Mail.Mode = true, 1+draw.Intn(api.MaxBy), one("R", "N", "RT", "NT")
	}
	if draw.Intn(2) > 0 {
		m.Mail.Has.Priority, m.Mail.Priority = true, draw.Intn(19)-9
	}
	for range 1 + draw.Intn(8) {
		r := to(text(9, printable), one("c", "c.d"))
		r.Rcpt.Notify = one("", "N", "S", "F", "D", "SF", "SD", "FD", "SFD")
		if draw.Intn(2) > 0 {
			r.Rcpt.Kind, r.Rcpt.Orcpt = one("A", "RFC822"), text(30, each())
		}
		m.Rcpts = append(m.Rcpts, r)
	}
	for range draw.Intn(20) {
		m.Lines = append(m.Lines, one("", ".", "..", text(60, plain), "."+text(60, plain), text(4, ".")))
	}
	return m
}

// P10.3: what was printed is parsed; one message has one row of bytes, and one row of bytes one message.
func TestOneRow(t *testing.T) {
	draw := rand.New(rand.NewSource(3))
	for range 3000 {
		m := drawn(draw)
		s := thereAndBack(t, m)
		hold(t, s)
		if n := drawn(draw); (thereAndBack(t, n) == s) != isSame(m, n) || Same(m, n) != isSame(m, n) {
			t.Fatalf("%+v and %+v", m, n)
		}
	}
}

// changes: what makes another message of fullMessage's.
func changes() []func(m *Message) {
	return []func(m *Message){
		func(m *Message) { m.Id++ },
		func(m *Message) { m.At++ },
		func(m *Message) { m.Release++ },
		func(m *Message) { m.At, m.Release = m.Release, m.At },
		func(m *Message) { m.From.Local = "A" },
		func(m *Message) { m.From.Domain = "c" },
		func(m *Message) { m.From = path.Path{} },
		func(m *Message) { m.Mail.Has.Size = false },
		func(m *Message) { m.Mail.Size++ },
		func(m *Message) { m.Mail.HoldFor++ },
		func(m *Message) { m.Mail.HoldUntil++ },
		func(m *Message) { m.Mail.Has.HoldUntil = true },
		func(m *Message) { m.Mail.By++ },
		func(m *Message) { m.Mail.Priority++ },
		func(m *Message) { m.Mail.Body = "7BIT" },
		func(m *Message) { m.Mail.Ret = "HDRS" },
		func(m *Message) { m.Mail.Envid = "X y\r\n" },
		func(m *Message) { m.Mail.Mode = "N" },
		func(m *Message) { m.Mail = param.Mail{} },
		func(m *Message) { m.Rcpts = nil },
		func(m *Message) { m.Rcpts = m.Rcpts[:2] },
		func(m *Message) { m.Rcpts = m.Rcpts[1:] },
		func(m *Message) { m.Rcpts = append(m.Rcpts, to("i", "j")) },
		func(m *Message) { m.Rcpts = append(m.Rcpts, Rcpt{}) },
		func(m *Message) { m.Rcpts[0], m.Rcpts[1] = m.Rcpts[1], m.Rcpts[0] },
		func(m *Message) { m.Rcpts[2].Path.Local = "G" },
		func(m *Message) { m.Rcpts[0].Path.Domain = "F" },
		func(m *Message) { m.Rcpts[2].Rcpt.Notify = "" },
		func(m *Message) { m.Rcpts[0].Rcpt.Kind = "X" },
		func(m *Message) { m.Rcpts[0].Rcpt.Orcpt = "x" },
		func(m *Message) { m.Lines = nil },
		func(m *Message) { m.Lines = m.Lines[1:] },
		func(m *Message) { m.Lines = m.Lines[:9] },
		func(m *Message) { m.Lines = append(m.Lines, "") },
		func(m *Message) { m.Lines[9] = "." },
		func(m *Message) { m.Lines[0], m.Lines[1] = m.Lines[1], m.Lines[0] },
	}
}

// P10.2: Same of messages that differ in one thing, and of those that don't.
func TestSame(t *testing.T) {
	for i, change := range changes() {
		a, b := fullMessage(), fullMessage()
		if !Same(a, b) || !Same(a, a) {
			t.Fatal("a message isn't alike itself")
		}
		change(&b)
		if Same(a, b) || Same(b, a) {
			t.Errorf("%d: alike", i)
		}
		change(&a)
		if !Same(a, b) {
			t.Errorf("%d: not alike", i)
		}
	}
	// Lists without elements mean the same; and what is no message is held likewise.
	if !Same(Message{}, Message{Rcpts: []Rcpt{}, Lines: []string{}}) || !Same(Message{Lines: []string{}, Id: -1}, Message{Rcpts: []Rcpt{}, Id: -1}) {
		t.Error("lists without elements aren't alike")
	}
	if Same(Message{}, Message{Lines: []string{""}}) || Same(Message{Rcpts: []Rcpt{{}}}, Message{}) || Same(Message{Lines: []string{"a", ""}}, Message{Lines: []string{"", "a"}}) || Same(Message{Lines: []string{"ab"}}, Message{Lines: []string{"a", "b"}}) {
		t.Error("lists that differ are alike")
	}
}

// P10.2, P10.3: statuses as bytes, and back, at all edges.
func TestStatuses(t *testing.T) {
	seen := map[string]bool{}
	for place := range 8 {
		for _, state := range []string{"R", "D", "G", "F"} {
			for _, tries := range []int{0, 1, 9, 10, 99, 100, 999, 1000} {
				for _, next := range []int{0, 1, 5, 10, 1 << 31, 1 << 40, 1<<40 + 1<<20, 1<<41 - 1, 1 << 41} {
					for told := range 8 {
						want := Status{place, state, tries, next, told}
						s, e := PrintStatus(want)
						if s != fmt.Sprintf("S %d %s %d %d %d", place, state, tries, next, told) || e != api.OK || seen[s] {
							t.Fatalf("PrintStatus(%v): %q, %d", want, s, e)
						}
						seen[s] = true
						if got, e := ParseStatus(s); got != want || e != api.OK {
							t.Fatalf("ParseStatus(%q): %v, %d", s, got, e)
						}
					}
				}
			}
		}
	}
	if s, e := PrintStatus(Status{State: "R", Next: 5}); s != "S 0 R 0 5 0" || e != api.OK {
		t.Errorf("%q, %d", s, e)
	}
}

// P10.2: statuses that may not be.
func TestStatusWrong(t *testing.T) {
	isWrong := func(want api.Errno, all ...Status) {
		for _, k := range all {
			if s, e := PrintStatus(k); s != "" || e != want {
				t.Errorf("PrintStatus(%v): %q, %d, not %d", k, s, e, want)
			}
			s := fmt.Sprintf("S %d %s %d %d %d", k.Place, k.State, k.Tries, k.Next, k.Told)
			if got, e := ParseStatus(s); got != (Status{}) || e != api.ErrForm {
				t.Errorf("ParseStatus(%q): %v, %d", s, got, e)
			}
		}
	}
	for _, state := range []string{"", " ", "r", "d", "g", "f", "A", "S", "Q", "RD", "RDGF", "R ", " R", "RR", "R 0", "DELIVERED", "\x00", "R\x00", "0"} {
		isWrong(api.ErrKind, Status{State: state}, Status{Place: 8, State: state}, Status{State: state, Tries: -1, Next: -1, Told: -1}, Status{7, state, 1000, 1 << 41, 7})
	}
	for _, state := range []string{"R", "D", "G", "F"} {
		for _, n := range []int{-1, math.MinInt, math.MaxInt, 1 << 32, 1 << 62} {
			isWrong(api.ErrRange, Status{Place: n, State: state}, Status{State: state, Tries: n}, Status{State: state, Told: n})
		}
		isWrong(api.ErrRange, Status{Place: 8, State: state}, Status{State: state, Tries: 1001}, Status{State: state, Told: 8})
		for _, n := range []int{-1, math.MinInt, math.MaxInt, 1<<41 + 1, 1 << 42} {
			isWrong(api.ErrRange, Status{State: state, Next: n})
		}
	}
}

// holdStatus holds ParseStatus against what is plainly so.
func holdStatus(t *testing.T, s string) {
	t.Helper()
	var want Status
	l := statusForm.FindStringSubmatch(s)
	is := l != nil && integer(l[4]) <= 2199023255552
	if is {
		want = Status{integer(l[1]), l[2], integer(l[3]), integer(l[4]), integer(l[5])}
	}
	got, e := ParseStatus(s)
	if got != want || (e == api.OK) != is || !is && e != api.ErrForm {
		t.Fatalf("ParseStatus(%q): %v, %d, not %v, %v", s, got, e, want, is)
	}
}

// P10.2, P10.3: texts that are a status's bytes, and that aren't.
func TestStatusTexts(t *testing.T) {
	for _, s := range []string{
		"", " ", "S", "S ", "S 0", "S 0 R", "S 0 R 0", "S 0 R 0 5", "S 0 R 0 5 ", "S 0 R 0 5 0 ", " S 0 R 0 5 0", "S  0 R 0 5 0", "S 0  R 0 5 0", "S 0 R  0 5 0", "S 0 R 0  5 0", "S 0 R 0 5  0", "S 0 R 0 5 0 0", "S 0 R 0 5 0\r\n", "S 0 R 0 5 0\n", "s 0 R 0 5 0", "Q 0 R 0 5 0", "0 R 0 5 0", "SS 0 R 0 5 0", "S0 R 0 5 0", "S\t0 R 0 5 0",
		"S 00 R 0 5 0", "S 0 R 00 5 0", "S 0 R 0 05 0", "S 0 R 0 5 00", "S +0 R 0 5 0", "S -0 R 0 5 0", "S 0 R +1 5 0", "S 0 R 0 +5 0", "S 0 R 0 -0 0", "S 0 R 0 5 -1", "S a R 0 5 0", "S 0 R a 5 0", "S 0 R 0 a 0", "S 0 R 0 5 a", "S 0 R 0 0x5 0", "S 0 R 1_0 5 0", "S 0 R 1e1 5 0", "S 0 R 0 2199023255553 0", "S 0 R 0 18446744073709551621 0", "S 18446744073709551616 R 0 5 0", "S 0 R 18446744073709551616 5 0",
		"S 0 R 0 5 0S 0 R 0 5 0", "S 0 R 0 5 0 S 0 R 0 5 0", "S R 0 0 5 0", each(), "S " + strings.Repeat("0", 100000) + " R 0 5 0", "S 0 R 0 5 " + strings.Repeat("1", 100000), "S 0 " + strings.Repeat("R", 100000) + " 0 5 0", strings.Repeat(" ", 100000),
	} {
		if got, e := ParseStatus(s); got != (Status{}) || e != api.ErrForm {
			t.Errorf("ParseStatus(%.80q): %v, %d", s, got, e)
		}
	}
	for _, s := range []string{"S 0 R 0 5 0", "S 7 D 1000 2199023255552 7", "S 3 G 999 10 4", "S 1 F 100 1099511627776 2"} {
		holdStatus(t, s)
		if _, e := ParseStatus(s); e != api.OK {
			t.Errorf("ParseStatus(%q): %d", s, e)
		}
		for at := range len(s) {
			holdStatus(t, s[:at])
			holdStatus(t, s[at:])
			holdStatus(t, s[:at]+s[at+1:])
			holdStatus(t, s[:at]+s[at:at+1]+s[at:])
			for b := range 256 {
				holdStatus(t, s[:at]+string([]byte{byte(b)})+s[at+1:])
				holdStatus(t, s[:at]+string([]byte{byte(b)})+s[at:])
				holdStatus(t, s+string([]byte{byte(b)}))
			}
		}
	}
}

// Rule 5: great texts and lists end soon.
func TestGreat(t *testing.T) {
	from := time.Now()
	head := "Q 1 0 0\r\nMAIL FROM:<a@b>\r\n"
	for _, s := range []string{x(1 << 25), strings.Repeat("\r\n", 1<<24), strings.Repeat("RCPT TO:<c@d>\r\n", 1<<20), head + strings.Repeat("RCPT TO:<c@d>\r\n", 1<<20), head + "RCPT TO:<c@d>\r\n\r\n" + strings.Repeat("\r\n", 1<<24) + ".\r\n", head + strings.Repeat("x\r\n", 1<<22)} {
		isNone(t, s)
	}
	m := plainMessage(1)
	m.Lines = slices.Repeat([]string{""}, 1<<20)
	isWrong(t, api.ErrLong, m)
	isWrong(t, api.ErrLong, plainMessage(1<<14))
	if past := time.Since(from); past > time.Minute {
		t.Errorf("%v", past)
	}
}

// lies tells if a text is a piece of another.
func lies(part, whole string) bool {
	at, from := uintptr(unsafe.Pointer(unsafe.StringData(part))), uintptr(unsafe.Pointer(unsafe.StringData(whole)))
	return len(part) > 0 && at >= from && at < from+uintptr(len(whole))
}

// texts answers all texts of a message.
func texts(m Message) []string {
	l := append([]string{m.From.Local, m.From.Domain, m.Mail.Body, m.Mail.Ret, m.Mail.Envid, m.Mail.Mode}, m.Lines...)
	for _, r := range m.Rcpts {
		l = append(l, r.Path.Local, r.Path.Domain, r.Rcpt.Notify, r.Rcpt.Kind, r.Rcpt.Orcpt)
	}
	return l
}

// Rule 3: what is handed in is as it was, and its spare room; and no answer lies there.
func TestApart(t *testing.T) {
	m, want := fullMessage(), fullMessage()
	rcpts, lines := append(m.Rcpts, to("spare", "x")), append(m.Lines, "spare")
	m.Rcpts, m.Lines = rcpts[:3], lines[:10]
	s, _ := Print(m)
	Right(m)
	Same(m, want)
	if !isSame(m, want) || rcpts[3] != to("spare", "x") || lines[10] != "spare" {
		t.Errorf("changed: %+v", m)
	}
	a, _ := Parse(s)
	b, _ := Parse(s)
	for _, text := range texts(a) {
		if lies(text, s) {
			t.Errorf("%q lies where it was", text)
		}
	}
	for i := range a.Rcpts {
		a.Rcpts[i] = Rcpt{}
	}
	for i := range a.Lines {
		a.Lines[i] = "changed"
	}
	if !isSame(b, want) {
		t.Errorf("two answers share their memory: %+v", b)
	}
	status := strings.Clone("S 0 R 0 5 0")
	if k, _ := ParseStatus(status); lies(k.State, status) {
		t.Error("a state lies where it was")
	}
}
