package report

import (
	"bufio"
	"fmt"
	"io"
	"math"
	"math/rand"
	"mime"
	"mime/multipart"
	"net/mail"
	"net/textproto"
	"reflect"
	"slices"
	"strconv"
	"strings"
	"testing"
	"time"
	"unsafe"

	"duepost/api"
	"duepost/envelope"
	"duepost/param"
	"duepost/path"
)

const (
	lastSecond = 253402300799 // of the year 9999
	lastTick   = 1 << 40
	lastDate   = "9999-12-31T23:59:59Z"
)

// kindsOf: all kinds of reports, and each one's own status code.
var kindsOf = map[string][3]int{"delayed": {4, 0, 0}, "failed": {5, 0, 0}, "delivered": {2, 0, 0}, "relayed": {2, 0, 0}}

// plain answers a report of which all that may be left out is left out.
func plain(kind string) Report {
	return Report{
		Kind: kind,
		Message: envelope.Message{
			Id: 7, At: 951865200, Release: 951865200, From: path.Path{Local: "a", Domain: "b"},
			Rcpts: []envelope.Rcpt{{Path: path.Path{Local: "c", Domain: "d"}}},
			Lines: []string{"Subject: x", "", "text"},
		},
		Now: 951865260, Until: 951868800, Host: "mail.h",
	}
}

// rich answers a report with all that may be told.
func rich(kind string) Report {
	r := plain(kind)
	r.Message.From = path.Path{Local: `a "b\`, Domain: "c.d"}
	r.Message.Mail = param.Mail{Ret: "FULL", Envid: "x y+=\xff\r\n"}
	r.Message.Rcpts = append(r.Message.Rcpts, envelope.Rcpt{Path: path.Path{Local: `<e f>`, Domain: "g.h"}, Rcpt: param.Rcpt{Notify: "SFD", Kind: "RFC822", Orcpt: "e F@g\x00"}})
	r.Message.Lines = []string{"--report.1", "--report.2x", "", ".", "--report.10", "", "--REPORT.3"}
	r.Place = 1
	r.Reply = api.Reply{Code: 551, Enhanced: [3]int{5, 1, 23}, Text: []string{"not here", "nor there"}}
	return r
}

// said answers a report's lines, and fails where there are none.
func said(t *testing.T, r Report) []string {
	t.Helper()
	l, e := Lines(r)
	if e != api.OK || Right(r) != api.OK {
		t.Fatalf("%+v: %d, Right %d", r, e, Right(r))
	}
	return l
}

// made answers a report's message, and fails where there is none, or where that is no message.
func made(t *testing.T, r Report, id int) envelope.Message {
	t.Helper()
	m, e := Make(r, id)
	if e != api.OK || envelope.Right(m) != api.OK {
		t.Fatalf("%+v: %d, Right %d", r, e, envelope.Right(m))
	}
	return m
}

// is holds lines against those that are wanted.
func is(t *testing.T, got, want []string) {
	t.Helper()
	if !slices.Equal(got, want) {
		t.Errorf("%.3000s\n\ninstead of\n\n%.3000s", strings.Join(got, "\n"), strings.Join(want, "\n"))
	}
}

// has tells if a line is one of a report's.
func has(t *testing.T, r Report, line string) {
	t.Helper()
	if l := said(t, r); !slices.Contains(l, line) {
		t.Errorf("no line %q in\n%s", line, strings.Join(l, "\n"))
	}
}

// hasNone tells if a report has no line that begins so.
func hasNone(t *testing.T, r Report, begin string) {
	t.Helper()
	l := said(t, r)
	if i := slices.IndexFunc(l, func(s string) bool { return strings.HasPrefix(s, begin) }); i >= 0 {
		t.Errorf("%q", l[i])
	}
}

// P16.1: texts as they are, from the first line to the last.
func TestTexts(t *testing.T) {
	is(t, said(t, plain("failed")), []string{
		"From: <postmaster@mail.h>",
		"To: <a@b>",
		"Date: 2000-02-29T23:01:00Z",
		"Subject: Delivery report: failed",
		"MIME-Version: 1.0",
		"Content-Type: multipart/report; report-type=delivery-status; boundary=report.1",
		"",
		"--report.1",
		"Content-Type: text/plain",
		"",
		"The message to <c@d> was failed.",
		"",
		"--report.1",
		"Content-Type: message/delivery-status",
		"",
		"Reporting-MTA: dns; mail.h",
		"Arrival-Date: 2000-02-29T23:00:00Z",
		"",
		"Final-Recipient: rfc822; c@d",
		"Action: failed",
		"Status: 5.0.0",
		"",
		"--report.1",
		"Content-Type: text/rfc822-headers",
		"",
		"Subject: x",
		"--report.1--",
	})
	is(t, said(t, rich("delayed")), []string{
		"From: <postmaster@mail.h>",
		`To: <"a \"b\\"@c.d>`,
		"Date: 2000-02-29T23:01:00Z",
		"Subject: Delivery report: delayed",
		"MIME-Version: 1.0",
		"Content-Type: multipart/report; report-type=delivery-status; boundary=report.3",
		"",
		"--report.3",
		"Content-Type: text/plain",
		"",
		`The message to <"<e f>"@g.h> is delayed.`,
		"",
		"--report.3",
		"Content-Type: message/delivery-status",
		"",
		"Reporting-MTA: dns; mail.h",
		"Original-Envelope-Id: x+20y+2B+3D+FF+0D+0A",
		"Arrival-Date: 2000-02-29T23:00:00Z",
		"",
		"Original-Recipient: rfc822; e+20F@g+00",
		`Final-Recipient: rfc822; "<e f>"@g.h`,
		"Action: delayed",
		"Status: 5.1.23",
		"Diagnostic-Code: smtp; 551 not here",
		"Will-Retry-Until: 2000-03-01T00:00:00Z",
		"",
		"--report.3",
		"Content-Type: text/rfc822-headers",
		"",
		"--report.1",
		"--report.2x",
		"--report.3--",
	})
	full := said(t, rich("failed"))
	is(t, full[24:], []string{
		"",
		"--report.3",
		"Content-Type: message/rfc822",
		"",
		"--report.1",
		"--report.2x",
		"",
		".",
		"--report.10",
		"",
		"--REPORT.3",
		"--report.3--",
	})
}

// P16.1: what each kind alone tells.
func TestKinds(t *testing.T) {
	for kind, code := range kindsOf {
		for _, r := range []Report{plain(kind), rich(kind)} {
			has(t, r, "Subject: Delivery report: "+kind)
			has(t, r, "Action: "+kind)
			sentence := "The message to <c@d> was " + kind + "."
			if kind == "delayed" {
				sentence = "The message to <c@d> is delayed."
			}
			if r.Place == 1 {
				sentence = strings.Replace(sentence, "<c@d>", `<"<e f>"@g.h>`, 1)
			}
			has(t, r, sentence)
			if kind != "delayed" {
				hasNone(t, r, "Will-Retry-Until:")
			}
		}
		has(t, plain(kind), fmt.Sprintf("Status: %d.%d.%d", code[0], code[1], code[2]))
		has(t, rich(kind), "Status: 5.1.23")
		for _, begin := range []string{"Original-Envelope-Id:", "Original-Recipient:", "Diagnostic-Code:"} {
			hasNone(t, plain(kind), begin)
		}
	}
	has(t, plain("delayed"), "Will-Retry-Until: 2000-03-01T00:00:00Z")
}

// P16.1: what is returned, by kinds, by what RET is, and by where the first empty line is.
func TestReturned(t *testing.T) {
	for _, kind := range []string{"delayed", "failed", "delivered", "relayed"} {
		for _, ret := range []string{"", "HDRS", "FULL"} {
			for _, x := range []struct{ all, head []string }{
				{nil, nil},
				{[]string{""}, nil},
				{[]string{"", ""}, nil},
				{[]string{"", "a", ""}, nil},
				{[]string{"a"}, []string{"a"}},
				{[]string{"a", ""}, []string{"a"}},
				{[]string{"a", "", "", "b"}, []string{"a"}},
				{[]string{"a", " b", "\tc", "", "d", "", "e"}, []string{"a", " b", "\tc"}},
				{[]string{" ", "", "d"}, []string{" "}},
				{[]string{".", "..", "--", "-- a", "\xff\x01", "", "."}, []string{".", "..", "--", "-- a", "\xff\x01"}},
			} {
				r := plain(kind)
				r.Message.Mail.Ret, r.Message.Lines = ret, x.all
				of, want := "Content-Type: text/rfc822-headers", x.head
				if ret == "FULL" && kind == "failed" {
					of, want = "Content-Type: message/rfc822", x.all
				}
				l := said(t, r)
				tail := append([]string{"", "--report.1", of, ""}, append(slices.Clone(want), "--report.1--")...)
				if len(l) < len(tail) || !slices.Equal(l[len(l)-len(tail):], tail) || slices.Index(l, "--report.1--") != len(l)-1 {
					t.Errorf("%s, %q, %q:\n%s", kind, ret, x.all, strings.Join(l, "\n"))
				}
			}
		}
	}
}

// P16.1: times that have no text are told as the last one that has.
func TestTimes(t *testing.T) {
	for n, want := range map[int]string{
		0: "1970-01-01T00:00:00Z", 1: "1970-01-01T00:00:01Z", 951865200: "2000-02-29T23:00:00Z", lastSecond - 1: "9999-12-31T23:59:58Z", lastSecond: lastDate,
		lastSecond + 1: lastDate, lastTick - 1: lastDate, lastTick: lastDate,
	} {
		r := plain("delayed")
		r.Now = n
		has(t, r, "Date: "+want)
		has(t, r, "Arrival-Date: 2000-02-29T23:00:00Z")
		has(t, r, "Will-Retry-Until: 2000-03-01T00:00:00Z")
		r = plain("delayed")
		r.Message.At, r.Message.Release = n, n+5
		has(t, r, "Date: 2000-02-29T23:01:00Z")
		has(t, r, "Arrival-Date: "+want)
		r = plain("delayed")
		r.Until = n
		has(t, r, "Date: 2000-02-29T23:01:00Z")
		has(t, r, "Will-Retry-Until: "+want)
	}
	for _, n := range []int{lastTick + 1, 2*lastTick - 1, 2 * lastTick} {
		r := plain("delayed")
		r.Until = n
		has(t, r, "Will-Retry-Until: "+lastDate)
	}
}

// P16.1: what a reply tells, and what none does.
func TestReplies(t *testing.T) {
	for _, x := range []struct {
		r          api.Reply
		code, diag string
	}{
		{api.Reply{}, "5.0.0", ""},
		// With the code 0 it is none, whatever else stands there.
		{api.Reply{Enhanced: [3]int{4, 4, 4}, Text: []string{"a\n"}}, "5.0.0", ""},
		{api.Reply{Code: 550, Text: []string{"no"}}, "5.0.0", "550 no"},
		{api.Reply{Code: 550, Text: []string{""}}, "5.0.0", "550 "},
		{api.Reply{Code: 550, Text: []string{" a ", "b", "c"}}, "5.0.0", "550  a "},
		{api.Reply{Code: 450, Enhanced: [3]int{4, 0, 0}, Text: []string{"5.1.1 later"}}, "4.0.0", "450 5.1.1 later"},
		{api.Reply{Code: 250, Enhanced: [3]int{2, 999, 10}, Text: []string{"~"}}, "2.999.10", "250 ~"},
		{api.Reply{Code: 354, Text: []string{"go"}}, "5.0.0", "354 go"},
		{api.Reply{Code: 200, Text: []string{"a"}}, "5.0.0", "200 a"},
		{api.Reply{Code: 599, Enhanced: [3]int{5, 0, 999}, Text: []string{strings.Repeat("x", 498)}}, "5.0.999", "599 " + strings.Repeat("x", 498)},
	} {
		r := plain("failed")
		r.Reply = x.r
		has(t, r, "Status: "+x.code)
		if x.diag == "" {
			hasNone(t, r, "Diagnostic-Code:")
		} else {
			has(t, r, "Diagnostic-Code: smtp; "+x.diag)
		}
	}
}

// P16.1: of whom it is, and to whom.
func TestPaths(t *testing.T) {
	long := path.Path{Local: strings.Repeat(`"`, 64), Domain: strings.Repeat("a.", 127) + "b"}
	text := `"` + strings.Repeat(`\"`, 64) + `"@` + long.Domain
	for i, x := range []struct {
		p    path.Path
		text string
	}{
		{path.Path{Local: "postmaster"}, "postmaster"},
		{path.Path{Local: "postmaster", Domain: "x"}, "postmaster@x"},
		{path.Path{Local: "<", Domain: "x"}, `"<"@x`},
		{path.Path{Local: ">", Domain: "x"}, `">"@x`},
		{path.Path{Local: "A.b", Domain: "1-2.x"}, "A.b@1-2.x"},
		{long, text},
	} {
		r := plain("failed")
		r.Message.Rcpts = []envelope.Rcpt{r.Message.Rcpts[0], {Path: x.p, Rcpt: param.Rcpt{Kind: "X400", Orcpt: "9"}}, r.Message.Rcpts[0]}
		r.Place = 1
		has(t, r, "Final-Recipient: rfc822; "+x.text)
		has(t, r, "The message to <"+x.text+"> was failed.")
		has(t, r, "Original-Recipient: x400; 9")
		has(t, r, "To: <a@b>")
		r.Place = 2
		has(t, r, "Final-Recipient: rfc822; c@d")
		hasNone(t, r, "Original-Recipient:")
		if i == 0 {
			continue // nobody's mail is from a host that isn't named
		}
		r.Message.From = x.p
		has(t, r, "To: <"+x.text+">")
		if m := made(t, r, 3); m.Rcpts[0].Path != x.p {
			t.Error(m.Rcpts)
		}
	}
	r := plain("relayed")
	r.Host = strings.Repeat("a.", 127) + "b"
	has(t, r, "From: <postmaster@"+r.Host+">")
	has(t, r, "Reporting-MTA: dns; "+r.Host)
}

// wrong answers what makes a report wrong, and by which error, in the order in which the promise names them.
func wrong() []struct {
	do func(r *Report)
	e  api.Errno
} {
	return []struct {
		do func(r *Report)
		e  api.Errno
	}{
		{func(r *Report) { r.Kind = "Failed" }, api.ErrKind},
		{func(r *Report) { r.Now = -1 }, api.ErrRange},
		{func(r *Report) { r.Message.Mail.Body = "9BIT" }, api.ErrForm},
		{func(r *Report) { r.Message.From = path.Path{} }, api.ErrState},
		{func(r *Report) { r.Host = "A" }, api.ErrForm},
		{func(r *Report) { r.Reply = api.Reply{Code: 550} }, api.ErrLong},
	}
}

// isWrong holds why a report may not be; nothing is told beside it, whatever its number would be.
func isWrong(t *testing.T, r Report, want api.Errno) {
	t.Helper()
	if e := Right(r); e != want {
		t.Errorf("Right(%+v): %d, not %d", r, e, want)
	}
	if l, e := Lines(r); len(l) > 0 || e != want {
		t.Errorf("Lines(%+v): %q, %d, not %d", r, l, e, want)
	}
	for _, id := range []int{1, 0} {
		if m, e := Make(r, id); !reflect.DeepEqual(m, envelope.Message{}) || e != want {
			t.Errorf("Make(%+v): %+v, %d, not %d", r, m, e, want)
		}
	}
}

// P16.1: what is wrong, alone and ahead of all that is named behind it.
func TestOrder(t *testing.T) {
	all := wrong()
	for set := 1; set < 1<<len(all); set++ {
		r, want := plain("failed"), api.OK
		for i, x := range all {
			if set>>i&1 == 0 {
				continue
			}
			x.do(&r)
			if want == api.OK {
				want = x.e
			}
		}
		isWrong(t, r, want)
	}
	isWrong(t, Report{}, api.ErrKind)
	isWrong(t, Report{Kind: "failed"}, api.ErrRange)
}

// P16.1: kinds, numbers and hosts at their edges, and beyond.
func TestRight(t *testing.T) {
	for _, kind := range []string{"", "D", "Delayed", "FAILED", "failed ", " failed", "fail", "expanded", "failed\x00", "5"} {
		isWrong(t, plain(kind), api.ErrKind)
	}
	for kind := range kindsOf {
		for n, right := range map[int]bool{math.MinInt: false, -1: false, 0: true, 1: true, lastTick - 1: true, lastTick: true, lastTick + 1: false, 2 * lastTick: false, math.MaxInt: false} {
			r := plain(kind)
			r.Now = n
			holds(t, r, right, api.ErrRange)
		}
		for n, right := range map[int]bool{math.MinInt: false, -1: false, 0: true, 1: true, 2*lastTick - 1: true, 2 * lastTick: true, 2*lastTick + 1: false, math.MaxInt: false} {
			r := plain(kind)
			r.Until = n
			holds(t, r, right, api.ErrRange)
		}
		for count := 1; count <= 8; count++ {
			r := plain(kind)
			r.Message.Rcpts = slices.Repeat(r.Message.Rcpts, count)
			for _, place := range []int{math.MinInt, -1, 0, 1, 2, 6, 7, 8, 9, math.MaxInt} {
				r.Place = place
				holds(t, r, place >= 0 && place < count, api.ErrRange)
			}
		}
	}
	domain := strings.Repeat("a.", 127) + "b"
	for host, right := range map[string]bool{
		"": false, ".": false, "a.": false, ".a": false, "a..b": false, "A": false, "a.B": false, "-a": false, "a-": false, "a b": false, "a\n": false, "<a>": false, "é": false, "a_b": false,
		"a": true, "1": true, "a-b.c": true, domain: true, domain + "c": false, "a." + domain: false, strings.Repeat("x", 63): true, strings.Repeat("x", 64): false,
	} {
		r := plain("failed")
		r.Host = host
		holds(t, r, right, api.ErrForm)
	}
}

// holds holds if a report may be, and why not.
func holds(t *testing.T, r Report, right bool, e api.Errno) {
	t.Helper()
	if !right {
		isWrong(t, r, e)
		return
	}
	said(t, r)
	made(t, r, 1)
}

// P16.1: errors of the message, and of the reply, are told as they are.
func TestInner(t *testing.T) {
	for _, x := range []struct {
		do func(m *envelope.Message)
		e  api.Errno
	}{
		{func(m *envelope.Message) { m.Id = 0 }, api.ErrRange},
		{func(m *envelope.Message) { m.Id = 1 << 31 }, api.ErrRange},
		{func(m *envelope.Message) { m.At = -1 }, api.ErrRange},
		{func(m *envelope.Message) { m.At = lastTick + 1; m.Release = m.At }, api.ErrRange},
		{func(m *envelope.Message) { m.Release = m.At - 1 }, api.ErrRange},
		{func(m *envelope.Message) { m.Release = m.At + 1<<20 + 1 }, api.ErrRange},
		{func(m *envelope.Message) { m.From.Local = "postmaster"; m.From.Domain = "" }, api.ErrForm},
		{func(m *envelope.Message) { m.From.Domain = "B" }, api.ErrForm},
		{func(m *envelope.Message) { m.From.Local = strings.Repeat("x", 65) }, api.ErrLong},
		{func(m *envelope.Message) { m.Mail.Ret = "full" }, api.ErrForm},
		{func(m *envelope.Message) { m.Mail.Envid = strings.Repeat("x", 101) }, api.ErrLong},
		{func(m *envelope.Message) { m.Rcpts[0].Path = path.Path{} }, api.ErrForm},
		{func(m *envelope.Message) { m.Rcpts[0].Rcpt.Kind = "RFC822" }, api.ErrForm},
		{func(m *envelope.Message) { m.Rcpts = slices.Repeat(m.Rcpts, 9) }, api.ErrLong},
		{func(m *envelope.Message) { m.Lines = []string{"a\r"} }, api.ErrForm},
		{func(m *envelope.Message) { m.Lines = []string{strings.Repeat("x", 999)} }, api.ErrLong},
		{func(m *envelope.Message) { m.Lines = make([]string, 2047) }, api.ErrLong},
	} {
		r := plain("failed")
		x.do(&r.Message)
		if e := envelope.Right(r.Message); e != x.e {
			t.Fatal(r.Message, e)
		}
		isWrong(t, r, x.e)
	}
	for _, x := range []struct {
		r api.Reply
		e api.Errno
	}{
		{api.Reply{Code: -1, Text: []string{"a"}}, api.ErrRange},
		{api.Reply{Code: 199, Text: []string{"a"}}, api.ErrRange},
		{api.Reply{Code: 600, Text: []string{"a"}}, api.ErrRange},
		{api.Reply{Code: math.MinInt, Text: []string{"a"}}, api.ErrRange},
		{api.Reply{Code: 550, Enhanced: [3]int{4, 0, 0}, Text: []string{"a"}}, api.ErrRange},
		{api.Reply{Code: 550, Enhanced: [3]int{5, 1000, 0}, Text: []string{"a"}}, api.ErrRange},
		{api.Reply{Code: 354, Enhanced: [3]int{3, 0, 0}, Text: []string{"a"}}, api.ErrRange},
		{api.Reply{Code: 550, Text: []string{"a", "b\n"}}, api.ErrForm},
		{api.Reply{Code: 550, Text: []string{"é"}}, api.ErrForm},
		{api.Reply{Code: 550}, api.ErrLong},
		{api.Reply{Code: 550, Text: make([]string, 33)}, api.ErrLong},
		{api.Reply{Code: 550, Text: []string{"a", strings.Repeat("x", 507)}}, api.ErrLong},
	} {
		r := plain("delayed")
		r.Reply = x.r
		isWrong(t, r, x.e)
	}
}

// P16.2: status codes, also of what is no report.
func TestCode(t *testing.T) {
	none := [3]int{}
	for kind, want := range map[string][3]int{"delayed": {4, 0, 0}, "failed": {5, 0, 0}, "delivered": {2, 0, 0}, "relayed": {2, 0, 0}, "": none, "Failed": none, "expanded": none} {
		for _, x := range []struct {
			r    api.Reply
			want [3]int
		}{
			{api.Reply{}, want},
			{api.Reply{Enhanced: [3]int{5, 7, 1}, Text: []string{"a"}}, want},
			{api.Reply{Code: 550, Text: []string{"a"}}, want},
			{api.Reply{Code: 354, Text: []string{"a"}}, want},
			{api.Reply{Code: 550, Enhanced: [3]int{5, 7, 1}, Text: []string{"a"}}, [3]int{5, 7, 1}},
			{api.Reply{Code: 450, Enhanced: [3]int{4, 0, 0}}, [3]int{4, 0, 0}},
			{api.Reply{Code: 250, Enhanced: [3]int{2, 0, 999}, Text: []string{"a"}}, [3]int{2, 0, 999}},
			{api.Reply{Code: 250, Enhanced: [3]int{0, 0, 1}, Text: []string{"a"}}, [3]int{0, 0, 1}},
			{api.Reply{Code: -1, Enhanced: [3]int{9, -1, 1}}, [3]int{9, -1, 1}},
		} {
			r := plain(kind)
			r.Reply = x.r
			if got := Code(r); got != x.want {
				t.Errorf("%q, %+v: %v, not %v", kind, x.r, got, x.want)
			}
			if got := Code(Report{Kind: kind, Reply: x.r}); got != x.want {
				t.Errorf("%q, %+v alone: %v, not %v", kind, x.r, got, x.want)
			}
		}
	}
}

// plainBoundary tries one number behind the other.
func plainBoundary(l []string) string {
	for n := 1; ; n++ {
		b := fmt.Sprintf("report.%d", n)
		if !slices.ContainsFunc(l, func(s string) bool { return strings.HasPrefix(s, "--"+b) }) {
			return b
		}
	}
}

// counted answers lines that begin with the boundaries of some numbers.
func counted(first, last int) []string {
	var l []string
	for n := first; n <= last; n++ {
		l = append(l, fmt.Sprintf("--report.%d", n))
	}
	return l
}

// P16.2: boundaries that no line begins with.
func TestBoundary(t *testing.T) {
	for _, x := range []struct {
		l    []string
		want string
	}{
		{nil, "report.1"},
		{[]string{"", "a", "report.1", "-report.1", " --report.1", "a--report.1", "---report.1", "--", "--report", "--report.", "--report.x1", "--Report.1", "--report1", "--report,1"}, "report.1"},
		{[]string{"--report.1"}, "report.2"},
		{[]string{"--report.1--"}, "report.2"},
		{[]string{"--report.1 a"}, "report.2"},
		{[]string{"--report.1.2"}, "report.2"},
		{[]string{"--report.2"}, "report.1"},
		{[]string{"--report.2", "--report.1"}, "report.3"},
		{[]string{"--report.1", "--report.1", "--report.3"}, "report.2"},
		// A line begins with each number that its digits begin with.
		{[]string{"--report.10"}, "report.2"},
		{[]string{"--report.19", "--report.2"}, "report.3"},
		{[]string{"--report.20"}, "report.1"},
		{[]string{"--report.100000000000000000000000000000001"}, "report.2"},
		{[]string{"--report." + strings.Repeat("9", 1<<16)}, "report.1"},
		{[]string{"--report." + strings.Repeat("1", 1<<16)}, "report.2"},
		// No number has a 0 ahead.
		{[]string{"--report.0"}, "report.1"},
		{[]string{"--report.01"}, "report.1"},
		{[]string{"--report.+1"}, "report.1"},
		{[]string{"--report.-1"}, "report.1"},
		{[]string{"--report. 1"}, "report.1"},
		{[]string{"--report.\xb1"}, "report.1"},
		{counted(1, 9), "report.10"},
		{counted(1, 10), "report.11"},
		{counted(2, 9), "report.1"},
		{counted(10, 99), "report.100"},
		{counted(1, 99), "report.100"},
		{append(counted(1, 41), counted(43, 99)...), "report.42"},
		{counted(1000, 9999), "report.10000"},
		{counted(1, 200000), "report.200001"},
	} {
		if b := Boundary(x.l); b != x.want {
			t.Errorf("%.300q: %s, not %s", x.l, b, x.want)
		}
	}
}

// P16.2: boundaries of lines of any kind, held against what is plainly so.
func TestBoundaries(t *testing.T) {
	draw := rand.New(rand.NewSource(1))
	heads := []string{"--report.", "--report.", "--report.", "--report", "-report.", "--report. ", ""}
	for range 3000 {
		var l []string
		for range draw.Intn(60) {
			l = append(l, heads[draw.Intn(len(heads))]+strconv.Itoa(draw.Intn(20+draw.Intn(200)))+strings.Repeat("-", draw.Intn(3)))
		}
		if b, want := Boundary(l), plainBoundary(l); b != want {
			t.Fatalf("%q: %s, not %s", l, b, want)
		}
	}
}

// P16.1, P16.2: the boundary is that of what is returned; what isn't returned plays no part.
func TestBoundaryOfReport(t *testing.T) {
	r := plain("failed")
	r.Message.Lines = append(counted(1, 3), "", "--report.4", "--report.5")
	has(t, r, "--report.4--")
	r.Message.Mail.Ret = "FULL"
	has(t, r, "--report.6--")
	r.Kind = "relayed"
	has(t, r, "--report.4--")
	r.Message.Lines = append([]string{""}, counted(1, 3)...)
	has(t, r, "--report.1--")
}

// P16.2, P16.3: a report as a message.
func TestMake(t *testing.T) {
	for kind := range kindsOf {
		for _, r := range []Report{plain(kind), rich(kind)} {
			for _, now := range []int{0, 1, lastSecond + 1, lastTick} {
				r.Now = now
				m := made(t, r, 9)
				want := envelope.Message{Id: 9, At: now, Release: now, Rcpts: []envelope.Rcpt{{Path: r.Message.From}}, Lines: said(t, r)}
				if !reflect.DeepEqual(m, want) || !envelope.Same(m, want) {
					t.Errorf("%+v, not %+v", m, want)
				}
			}
		}
	}
	for id, want := range map[int]api.Errno{math.MinInt: api.ErrRange, -1: api.ErrRange, 0: api.ErrRange, 1: api.OK, 2: api.OK, 1<<31 - 1: api.OK, 1 << 31: api.ErrRange, 1<<32 + 1: api.ErrRange, math.MaxInt: api.ErrRange} {
		r := rich("failed")
		m, e := Make(r, id)
		if e != want || e == api.OK && m.Id != id || e != api.OK && !reflect.DeepEqual(m, envelope.Message{}) {
			t.Errorf("%d: %+v, %d", id, m, e)
		}
	}
}

// P16.3: none is made of a report.
func TestNone(t *testing.T) {
	for kind := range kindsOf {
		for again := range kindsOf {
			r := plain(again)
			r.Message = made(t, rich(kind), 8)
			isWrong(t, r, api.ErrState)
		}
	}
}

// fits answers how many lines a message may have, of those from the first one on.
func fits(l []string) int {
	size := len(".\r\n")
	for n, s := range l {
		size += len(s) + len("\r\n")
		if strings.HasPrefix(s, ".") {
			size++
		}
		if size > 4096 {
			return n
		}
	}
	return len(l)
}

// filled answers a message as long as may be, of two lines and others that are alike.
func filled(more int, fill string) envelope.Message {
	m := plain("failed").Message
	m.Mail.Ret = "FULL"
	m.Lines = []string{strings.Repeat(".", more%3), strings.Repeat("z", more)}
	for range 2100 {
		m.Lines = append(m.Lines, fill)
	}
	m.Lines = m.Lines[:fits(m.Lines)]
	return m
}

// P16.2, P16.3: as many lines as a message may have: with one more it would be too long.
func TestFit(t *testing.T) {
	for _, fill := range []string{"", "x", ".", ".x", "..", "x.", strings.Repeat("xy", 20), strings.Repeat(".y", 20)} {
		for more := range 50 {
			r := plain("failed")
			r.Message = filled(more, fill)
			l, m := said(t, r), made(t, r, 1)
			n := len(m.Lines)
			if n >= len(l) || n != fits(l) || !slices.Equal(m.Lines, l[:n]) {
				t.Fatalf("%d of %d lines, not %d", n, len(l), fits(l))
			}
			m.Lines = append(m.Lines, l[n])
			if e := envelope.Right(m); e != api.ErrLong {
				t.Fatalf("%d of %d lines: %d", n+1, len(l), e)
			}
		}
	}
}

// P16.2: reports whose data have 4096 bytes, and those about them.
func TestLast(t *testing.T) {
	seen := map[int]bool{}
	for more := range 998 {
		r := plain("failed")
		r.Message.Mail.Ret = "FULL"
		r.Message.Lines = []string{strings.Repeat("a", 998), strings.Repeat("b", 998), strings.Repeat("c", 998), strings.Repeat("d", more)}
		if envelope.Right(r.Message) != api.OK {
			t.Fatal(more)
		}
		l := said(t, r)
		m := made(t, r, 1)
		size := len(strings.Join(l, "\r\n")) + len("\r\n.\r\n")
		if got := slices.Equal(m.Lines, l); got != (size <= 4096) {
			t.Errorf("%d bytes: %v", size, got)
		}
		seen[size] = true
	}
	for _, size := range []int{4095, 4096, 4097} {
		if !seen[size] {
			t.Errorf("none has %d bytes", size)
		}
	}
}

// P16.2: longer lines than a message may have are cut down, and count as they are then.
func TestCut(t *testing.T) {
	long := strings.Repeat("x", 2000)
	for _, n := range []int{997, 998, 999, 1000, 2000} {
		got := fitting([]string{"a", long[:n], "", "b"})
		is(t, got, []string{"a", long[:min(n, 998)], "", "b"})
	}
	dot := "." + long
	is(t, fitting([]string{dot}), []string{dot[:998]})
	is(t, fitting([]string{long, long, long, long, long}), slices.Repeat([]string{long[:998]}, 4))
	for n, fit := range map[int][]string{84: {long[:84], ""}, 85: {long[:85], ""}, 86: {long[:86]}, 87: {long[:87]}, 88: nil} {
		is(t, fitting([]string{dot, dot, dot, dot, long[:n], "", "a"}), append(slices.Repeat([]string{dot[:998]}, 4), fit...))
	}
	is(t, fitting(nil), nil)
}

// clone answers a report in memory of its own, with spare room that is told.
func clone(r Report) Report {
	r.Message.Rcpts, r.Message.Lines, r.Reply.Text = slices.Clone(r.Message.Rcpts), slices.Clone(r.Message.Lines), slices.Clone(r.Reply.Text)
	return r
}

// P16.1, P16.2: nothing that is handed in changes, spare room neither; what is done to an answer is seen in no other.
func TestKept(t *testing.T) {
	for _, kind := range []string{"failed", "delayed"} {
		r := rich(kind)
		spareLines, spareText := append(slices.Clone(r.Message.Lines), "spare", "spare"), append(slices.Clone(r.Reply.Text), "spare", "spare")
		r.Message.Lines, r.Reply.Text = spareLines[:len(spareLines)-2], spareText[:len(spareText)-2]
		before := clone(r)
		first, second, m := said(t, r), said(t, r), made(t, r, 1)
		is(t, second, first)
		is(t, m.Lines, first)
		for i := range first {
			first[i] = "other"
		}
		_ = append(first, "other")
		_, _ = Boundary(r.Message.Lines), Code(r)
		if !reflect.DeepEqual(r, before) || slices.Contains(spareLines, "other") || spareLines[len(spareLines)-2] != "spare" || spareText[len(spareText)-2] != "spare" {
			t.Errorf("%+v, not %+v", r, before)
		}
		is(t, m.Lines, second)
		for i := range m.Lines {
			m.Lines[i] = "another"
		}
		m.Rcpts[0].Path.Local = "another"
		is(t, said(t, r), second)
		if !reflect.DeepEqual(r, before) {
			t.Errorf("%+v, not %+v", r, before)
		}
	}
}

// P16.1, P16.2: no text of an answer is one that was handed in.
func TestNewMemory(t *testing.T) {
	r := rich("failed")
	for i := range r.Message.Lines {
		r.Message.Lines[i] = strings.Clone(r.Message.Lines[i])
	}
	r.Message.From = path.Path{Local: strings.Clone("someone"), Domain: strings.Clone("somewhere")}
	given := append(slices.Clone(r.Message.Lines), r.Message.From.Local, r.Message.From.Domain)
	m := made(t, r, 1)
	for _, got := range append(m.Lines, append(said(t, r), m.Rcpts[0].Path.Local, m.Rcpts[0].Path.Domain)...) {
		for _, s := range given {
			if s != "" && unsafe.StringData(s) == unsafe.StringData(got) {
				t.Errorf("%q", got)
			}
		}
	}
}

// pick answers one of some.
func pick[T any](draw *rand.Rand, l ...T) T { return l[draw.Intn(len(l))] }

// anyReport answers a report that may be, with any of what may be told.
func anyReport(draw *rand.Rand) Report {
	r := plain(pick(draw, "delayed", "failed", "failed", "delivered", "relayed"))
	times := []int{0, 59, 951865199, lastSecond, lastSecond + 1, lastTick}
	r.Now, r.Until = pick(draw, times...), pick(draw, append(times, 2*lastTick)...)
	r.Host = pick(draw, "h", "mail.h", "1-2.3")
	m := &r.Message
	m.At = pick(draw, times...)
	m.Release = m.At + draw.Intn(1<<20+1)
	m.From.Local = pick(draw, "a", `a"`, "a b", "a@b", ".", "postmaster", "-")
	m.Mail.Ret, m.Mail.Envid = pick(draw, "", "FULL", "FULL", "HDRS"), pick(draw, "", "", "x", "+", "=", "\x00", "é ")
	m.Rcpts = nil
	for range 1 + draw.Intn(8) {
		to := envelope.Rcpt{Path: path.Path{Local: pick(draw, "c", "c d", `\`, "<>", ">", "postmaster"), Domain: pick(draw, "d", "d.e")}}
		to.Path = pick(draw, to.Path, to.Path, path.Path{Local: "postmaster"})
		if draw.Intn(2) == 0 {
			to.Rcpt.Kind, to.Rcpt.Orcpt = pick(draw, "RFC822", "X", "1A"), pick(draw, "c@d", "C D", "+=\xff")
		}
		m.Rcpts = append(m.Rcpts, to)
	}
	r.Place = draw.Intn(len(m.Rcpts))
	m.Lines = nil
	for range draw.Intn(40) {
		m.Lines = append(m.Lines, pick(draw, "", "a: b", ".", "..x", "--", "--report.", "--report.1", "--report.12", "--report.2--", "--report.3", "x", strings.Repeat("y", draw.Intn(90))))
	}
	if draw.Intn(3) > 0 {
		class := pick(draw, 2, 3, 4, 5)
		r.Reply = api.Reply{Code: class*100 + draw.Intn(100), Text: []string{pick(draw, "no", "", " a", "5.1.1 b"), "more"}}
		if class != 3 && draw.Intn(2) == 0 {
			r.Reply.Enhanced = [3]int{class, draw.Intn(1000), draw.Intn(3)}
		}
	}
	return r
}

// plainText answers a path's text between its signs.
func plainText(p path.Path) string {
	switch {
	case p == path.Path{Local: "postmaster"}:
		return "postmaster"
	case strings.ContainsAny(p.Local, `<>@" .\`):
		return `"` + strings.NewReplacer(`"`, `\"`, `\`, `\\`).Replace(p.Local) + `"@` + p.Domain
	}
	return p.Local + "@" + p.Domain
}

// plainXtext answers a text's xtext.
func plainXtext(s string) string {
	var out string
	for _, b := range []byte(s) {
		if b < 33 || b > 126 || b == '+' || b == '=' {
			out += fmt.Sprintf("+%02X", b)
		} else {
			out += string(rune(b))
		}
	}
	return out
}

// plainTime answers a time's text.
func plainTime(n int) string {
	if n > lastSecond {
		return lastDate
	}
	return time.Unix(int64(n), 0).UTC().Format("2006-01-02T15:04:05Z")
}

// plainBack answers what is to be returned, and what it is.
func plainBack(r Report) ([]string, string) {
	if r.Message.Mail.Ret == "FULL" && r.Kind == "failed" {
		return r.Message.Lines, "message/rfc822"
	}
	var l []string
	for _, s := range r.Message.Lines {
		if s == "" {
			break
		}
		l = append(l, s)
	}
	return l, "text/rfc822-headers"
}

// plainLines lays a report's text by a form; a line that begins with ? is there only if something stands behind its :.
func plainLines(r Report) []string {
	back, of := plainBack(r)
	to := r.Message.Rcpts[r.Place]
	verb, orcpt, diag, until := "was", "", "", ""
	code := kindsOf[r.Kind]
	if r.Kind == "delayed" {
		verb, until = "is", plainTime(r.Until)
	}
	if to.Rcpt.Kind != "" {
		orcpt = strings.ToLower(to.Rcpt.Kind) + "; " + plainXtext(to.Rcpt.Orcpt)
	}
	if r.Reply.Code != 0 {
		diag = fmt.Sprintf("smtp; %d %s", r.Reply.Code, r.Reply.Text[0])
		if r.Reply.Enhanced[0] != 0 {
			code = r.Reply.Enhanced
		}
	}
	form := `From: <postmaster@HOST>
To: <FROM>
Date: NOW
Subject: Delivery report: KIND
MIME-Version: 1.0
Content-Type: multipart/report; report-type=delivery-status; boundary=B

--B
Content-Type: text/plain

The message to <PATH> VERB KIND.

--B
Content-Type: message/delivery-status

Reporting-MTA: dns; HOST
?Original-Envelope-Id: ENVID
Arrival-Date: AT

?Original-Recipient: ORCPT
Final-Recipient: rfc822; PATH
Action: KIND
Status: CODE
?Diagnostic-Code: DIAG
?Will-Retry-Until: UNTIL

--B
Content-Type: OF
`
	laid := strings.NewReplacer(
		"HOST", r.Host, "FROM", plainText(r.Message.From), "NOW", plainTime(r.Now), "KIND", r.Kind, "boundary=B", "boundary="+plainBoundary(back), "--B", "--"+plainBoundary(back),
		"PATH", plainText(to.Path), "VERB", verb, "ENVID", plainXtext(r.Message.Mail.Envid), "AT", plainTime(r.Message.At), "ORCPT", orcpt,
		"CODE", fmt.Sprintf("%d.%d.%d", code[0], code[1], code[2]), "DIAG", diag, "UNTIL", until, "OF", of,
	).Replace(form)
	var l []string
	for s := range strings.SplitSeq(laid, "\n") {
		if optional, is := strings.CutPrefix(s, "?"); is && strings.HasSuffix(optional, ": ") {
			continue
		} else if is {
			s = optional
		}
		l = append(l, s)
	}
	return append(append(l, back...), "--"+plainBoundary(back)+"--")
}

// P16.1 to P16.3: reports of any kind, held against what is plainly so, and read as others read mail.
func TestAll(t *testing.T) {
	draw := rand.New(rand.NewSource(2))
	for range 20000 {
		r := anyReport(draw)
		before := clone(r)
		l := said(t, r)
		is(t, l, plainLines(r))
		m := made(t, r, 5)
		if n := fits(l); m.Id != 5 || m.At != r.Now || m.Release != r.Now || !path.Null(m.From) || m.Mail != (param.Mail{}) || !slices.Equal(m.Rcpts, []envelope.Rcpt{{Path: r.Message.From}}) || !slices.Equal(m.Lines, l[:n]) {
			t.Errorf("%+v", m)
		}
		readBack(t, r, l)
		if !reflect.DeepEqual(r, before) {
			t.Errorf("%+v, not %+v", r, before)
		}
		if t.Failed() {
			t.Fatalf("%+v", r)
		}
	}
}

// readBack reads a report's lines by other means, and holds its parts against the report.
func readBack(t *testing.T, r Report, l []string) {
	t.Helper()
	letter, err := mail.ReadMessage(strings.NewReader(strings.Join(l, "\r\n") + "\r\n"))
	if err != nil {
		t.Fatal(err)
	}
	of, words, err := mime.ParseMediaType(letter.Header.Get("Content-Type"))
	if err != nil || of != "multipart/report" || words["report-type"] != "delivery-status" {
		t.Fatal(of, words, err)
	}
	back, kind := plainBack(r)
	reader := multipart.NewReader(letter.Body, words["boundary"])
	for i, want := range []string{"text/plain", "message/delivery-status", kind} {
		part, err := reader.NextRawPart()
		if err != nil || part.Header.Get("Content-Type") != want {
			t.Fatal(i, part, err)
		}
		body, err := io.ReadAll(part)
		if err != nil {
			t.Fatal(i, err)
		}
		switch i {
		case 1:
			readStatus(t, r, string(body))
		case 2:
			is(t, strings.Split(string(body), "\r\n"), append(append([]string{}, back...), make([]string, max(0, 1-len(back)))...))
		}
	}
	if _, err := reader.NextRawPart(); err != io.EOF {
		t.Fatal(err)
	}
}

// readStatus reads both rows of fields.
func readStatus(t *testing.T, r Report, body string) {
	t.Helper()
	reader := textproto.NewReader(bufio.NewReader(strings.NewReader(body + "\r\n")))
	first, err := reader.ReadMIMEHeader()
	second, other := reader.ReadMIMEHeader()
	if err != nil || other != nil {
		t.Fatal(err, other)
	}
	if first.Get("Reporting-MTA") != "dns; "+r.Host || second.Get("Action") != r.Kind {
		t.Error(first, second)
	}
}

// P16.1, P16.2: nothing panics, whatever it is handed.
func TestAnything(t *testing.T) {
	odd := []string{"", "\x00", "\n", "--report.1", "é", "<>", strings.Repeat("x", 1<<12), "failed", "a"}
	numbers := []int{math.MinInt, -1, 0, 1, 7, 8, 1 << 31, lastTick, 2 * lastTick, math.MaxInt}
	draw := rand.New(rand.NewSource(3))
	for range 20000 {
		r := anyReport(draw)
		for range 1 + draw.Intn(3) {
			s, n := pick(draw, odd...), pick(draw, numbers...)
			switch draw.Intn(14) {
			case 0:
				r.Kind = s
			case 1:
				r.Place = n
			case 2:
				r.Now = n
			case 3:
				r.Until = n
			case 4:
				r.Host = s
			case 5:
				r.Reply.Code = n
			case 6:
				r.Reply.Enhanced[draw.Intn(3)] = n
			case 7:
				r.Reply.Text = []string{s}
			case 8:
				r.Reply.Text = nil
			case 9:
				r.Message.Rcpts = nil
			case 10:
				r.Message.Lines = []string{s, s}
			case 11:
				r.Message.From = path.Path{Local: s, Domain: s}
			case 12:
				r.Message.At = n
			case 13:
				r.Message.Mail.Envid = s
			}
		}
		want := Right(r)
		l, e := Lines(r)
		m, also := Make(r, 1)
		if e != want || also != want || (len(l) > 0) != (want == api.OK) || want != api.OK && !reflect.DeepEqual(m, envelope.Message{}) {
			t.Fatalf("%+v: %d, %d, %d", r, want, e, also)
		}
		_, _ = Code(r), Boundary(r.Message.Lines)
	}
}
