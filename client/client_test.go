package client

import (
	"fmt"
	"math"
	"math/rand"
	"reflect"
	"slices"
	"strconv"
	"strings"
	"testing"
	"unsafe"

	"duepost/api"
	"duepost/command"
	"duepost/envelope"
	"duepost/line"
	"duepost/param"
	"duepost/path"
	"duepost/reply"
	"duepost/server"
	"duepost/xtext"
)

const (
	lastTick = 1 << 40
	host     = "mail.h"
)

// code answers a reply of a code, with texts.
func code(n int, text ...string) api.Reply { return api.Reply{Code: n, Text: text} }

// rcpt answers a recipient of whom nothing is said.
func rcpt(local string) envelope.Rcpt {
	return envelope.Rcpt{Path: path.Path{Local: local, Domain: "d"}}
}

// plain answers a message of which nothing is said.
func plain() envelope.Message {
	return envelope.Message{Id: 7, At: 100, Release: 100, From: path.Path{Local: "a", Domain: "b"}, Rcpts: []envelope.Rcpt{rcpt("c")}, Lines: []string{"x"}}
}

// full answers a message of which all is said.
func full() envelope.Message {
	m := plain()
	m.Release = 160
	m.Mail = param.Mail{
		Has:  param.Has{Size: true, HoldFor: true, By: true, Priority: true},
		Size: 999, HoldFor: 60, By: 50, Priority: -3,
		Body: "8BITMIME", Ret: "HDRS", Envid: "e d", Mode: "RT",
	}
	m.Rcpts[0].Rcpt = param.Rcpt{Notify: "SF", Kind: "RFC822", Orcpt: "o p"}
	return m
}

// made answers a client of a message's first recipient, and fails where there is none.
func made(t *testing.T, m envelope.Message) *Client {
	t.Helper()
	c, e := New(host, m, 0)
	if c == nil || e != api.OK {
		t.Fatal(m, c, e)
	}
	return c
}

// hears hears a reply at tick 100, and holds what is told, and the state behind it, against what they are to be.
func hears(t *testing.T, c *Client, r api.Reply, state string, want ...string) {
	t.Helper()
	got := c.Hear(r, 100)
	if !slices.Equal(got, want) || c.State() != state || c.Over() != (state == "over") {
		t.Fatalf("%v: %q %s %v, not %q %s", r, got, c.State(), c.Over(), want, state)
	}
}

// ends holds the outcome, and the reply because of which it is over, against what they are to be.
func ends(t *testing.T, c *Client, outcome int, r api.Reply) {
	t.Helper()
	got, last := c.Outcome()
	if got != outcome || !reply.Same(last, r) {
		t.Fatalf("%d %v, not %d %v", got, last, outcome, r)
	}
}

// The replies that lead to each state.
var leads = map[string][]int{
	"greet": nil,
	"ehlo":  {220},
	"helo":  {220, 500},
	"mail":  {220, 250},
	"rcpt":  {220, 500, 250, 250},
	"data":  {220, 250, 250, 250},
	"text":  {220, 250, 250, 250, 354},
}

// states: all but that of a client that is over, in order.
var states = []string{"greet", "ehlo", "helo", "mail", "rcpt", "data", "text"}

// led answers a client in a state.
func led(t *testing.T, state string) *Client {
	t.Helper()
	c := made(t, plain())
	for _, n := range leads[state] {
		c.Hear(code(n, "x"), 100)
	}
	if c.State() != state {
		t.Fatal(c.State(), state)
	}
	return c
}

// P18.1: what a client may be of: a message that may be, asked first; one of its recipients; a domain of small letters.
func TestNew(t *testing.T) {
	long := strings.Repeat(strings.Repeat("a", 63)+".", 4)[:255]
	three := plain()
	three.Rcpts = append(three.Rcpts, rcpt("e"), rcpt("f"))
	noId, noMail, noRcpt, noRcpts, noLine, noBody := plain(), plain(), plain(), plain(), plain(), plain()
	noId.Id = 0
	noMail.Mail.Body = "X"
	noRcpt.Rcpts[0].Path.Domain = "D"
	noRcpts.Rcpts = nil
	noLine.Lines = []string{"\n"}
	noBody.Lines = slices.Repeat([]string{strings.Repeat("x", 900)}, 5)
	for i, x := range []struct {
		host  string
		m     envelope.Message
		place int
		want  api.Errno
	}{
		{host, plain(), 0, api.OK},
		{"h", full(), 0, api.OK},
		{long, three, 2, api.OK},
		{"H", noId, 9, api.ErrRange},
		{"H", noMail, 9, api.ErrForm},
		{"h", noMail, 9, api.ErrForm},
		{"h", noRcpt, 9, api.ErrForm},
		{"h", noRcpts, 0, api.ErrLong},
		{"h", noLine, 9, api.ErrForm},
		{"h", noBody, 9, api.ErrLong},
		{"H", noBody, 9, api.ErrLong},
		{"h", envelope.Message{}, 0, api.ErrRange},
		{"H", three, 3, api.ErrRange},
		{"H", three, -1, api.ErrRange},
		{"h", three, 8, api.ErrRange},
		{"h", three, math.MaxInt, api.ErrRange},
		{"h", three, math.MinInt, api.ErrRange},
		{long + "a", three, 0, api.ErrForm},
		{strings.Repeat("a.", 130) + "a", three, 0, api.ErrForm},
		{strings.Repeat("a.", 600) + "a", three, 0, api.ErrForm},
		{"H", three, 0, api.ErrForm},
		{"mail.H", three, 0, api.ErrForm},
		{"", three, 0, api.ErrForm},
		{"mail.", three, 0, api.ErrForm},
		{"-a", three, 0, api.ErrForm},
		{"a b", three, 0, api.ErrForm},
		{"a ", three, 0, api.ErrForm},
		{" a", three, 0, api.ErrForm},
		{"a\x00", three, 0, api.ErrForm},
		{"a\r\nQUIT", three, 0, api.ErrForm},
	} {
		c, e := New(x.host, x.m, x.place)
		if e != x.want || (c == nil) != (e != api.OK) {
			t.Error(i, c, e)
		}
		if c == nil {
			continue
		}
		if c.State() != "greet" || c.Over() || len(c.Words()) != 0 {
			t.Error(i, c.State(), c.Over(), c.Words())
		}
		ends(t, c, 0, api.Reply{})
		hears(t, c, code(220, "x"), "ehlo", "EHLO "+x.host)
	}
}

// P18.1, P18.2: each step of the way to a server that knows EHLO, and what is waited for.
func TestWay(t *testing.T) {
	c := made(t, plain())
	last := api.Reply{Code: 250, Enhanced: [3]int{2, 0, 0}, Text: []string{"taken", "for good"}}
	hears(t, c, code(220, "to.h"), "ehlo", "EHLO mail.h")
	ends(t, c, 0, api.Reply{})
	hears(t, c, code(250, "to.h", "PIPELINING"), "mail", "MAIL FROM:<a@b>")
	hears(t, c, code(250, "sender"), "rcpt", "RCPT TO:<c@d>")
	hears(t, c, code(250, "recipient"), "data", "DATA")
	hears(t, c, code(354, "go"), "text", "x", ".")
	ends(t, c, 0, api.Reply{})
	hears(t, c, last, "over", "QUIT")
	ends(t, c, 3, last)
	hears(t, c, code(221, "to.h"), "over")
	ends(t, c, 3, last)
}

// P18.1, P18.2: likewise to one that knows HELO alone.
func TestPlainWay(t *testing.T) {
	c := made(t, full())
	hears(t, c, code(220, "to.h"), "ehlo", "EHLO mail.h")
	hears(t, c, code(502, "what", "DSN"), "helo", "HELO mail.h")
	ends(t, c, 0, api.Reply{})
	hears(t, c, code(250, "to.h", "SIZE 1", "DSN"), "mail", "MAIL FROM:<a@b>")
	hears(t, c, code(250, "sender"), "rcpt", "RCPT TO:<c@d>")
	hears(t, c, code(251, "recipient"), "data", "DATA")
	hears(t, c, code(354, "go"), "text", "x", ".")
	hears(t, c, code(250), "over", "QUIT")
	ends(t, c, 3, code(250))
	if l := c.Words(); len(l) != 0 {
		t.Error(l)
	}
}

// P18.2, P18.3: what each class of reply leads to in each state: by the one that is told for it on, by 5 never (but to EHLO), by any other later.
func TestClasses(t *testing.T) {
	next := map[string]string{"greet": "ehlo", "ehlo": "mail", "helo": "mail", "mail": "rcpt", "rcpt": "data", "data": "text", "text": "over"}
	codes := map[int][]int{
		0: {0, 1, 2, 3, 5, -1, -250, 100, 199, 600, 999, 2500, math.MinInt, math.MaxInt},
		2: {200, 220, 250, 299},
		3: {300, 354, 399},
		4: {400, 421, 499},
		5: {500, 550, 599},
	}
	for _, state := range states {
		leading := 2
		if state == "data" {
			leading = 3
		}
		for class, all := range codes {
			for _, n := range all {
				c := led(t, state)
				r := api.Reply{Code: n, Enhanced: [3]int{n / 100, 1, 2}, Text: []string{"one", "two"}}
				said := c.Hear(r, 100)
				behind, outcome := "over", 4
				switch {
				case class == leading && state == "text":
					outcome = 3
				case class == leading:
					behind = next[state]
				case class == 5 && state == "ehlo":
					behind = "helo"
				case class == 5:
					outcome = 5
				}
				if c.State() != behind || c.Over() != (behind == "over") {
					t.Fatal(state, n, c.State())
				}
				if behind != "over" {
					ends(t, c, 0, api.Reply{})
					continue
				}
				ends(t, c, outcome, r)
				if !slices.Equal(said, []string{"QUIT"}) {
					t.Error(state, n, said)
				}
			}
		}
	}
}

// P18.2: what is over hears nothing more, and nothing of it changes.
func TestOver(t *testing.T) {
	for _, state := range states {
		for _, n := range []int{100, 421, 554} {
			c := led(t, state)
			c.Hear(code(n, "first"), 100)
			if !c.Over() { // EHLO isn't known
				continue
			}
			outcome, r := c.Outcome()
			words := c.Words()
			for _, m := range []int{0, 220, 250, 354, 400, 500} {
				hears(t, c, code(m, "h", "DSN"), "over")
				c.Lost()
				ends(t, c, outcome, r)
				if !slices.Equal(c.Words(), words) {
					t.Error(c.Words(), words)
				}
			}
		}
	}
}

// P18.2: what is lost is over by nothing that was heard; the reply is the last one that was.
func TestLost(t *testing.T) {
	for _, state := range states {
		c := led(t, state)
		var last api.Reply
		if l := leads[state]; len(l) > 0 {
			last = code(l[len(l)-1], "x")
		}
		for range 2 {
			c.Lost()
			if c.State() != "over" || !c.Over() {
				t.Error(state, c.State())
			}
			ends(t, c, 0, last)
			hears(t, c, code(250, "x"), "over")
		}
	}
}

// P18.2: the words of a server are the first ones of its lines, in capital letters, in order.
func TestWords(t *testing.T) {
	odd := "\u00e9\u0131\u017f" // small letters elsewhere
	for i, x := range []struct {
		text []string
		want []string
	}{
		{nil, nil},
		{[]string{}, nil},
		{[]string{"DSN"}, nil},
		{[]string{"h", "DSN"}, []string{"DSN"}},
		{[]string{"h", "dsn", "Size 10", "mt-Priority x y"}, []string{"DSN", "SIZE", "MT-PRIORITY"}},
		{[]string{"h", "B", "A", "B", "b c"}, []string{"B", "A", "B", "B"}},
		{[]string{"h", "A=b", "C\tD", "E-f  g "}, []string{"A=B", "C\tD", "E-F"}},
		{[]string{"h", "", " DSN", "X"}, []string{"", "", "X"}},
		{[]string{"h", odd + "z{`@[", "\x00a\xffb c"}, []string{odd + "Z{`@[", "\x00A\xffB"}},
		{[]string{"", "DSN"}, []string{"DSN"}},
	} {
		c := made(t, plain())
		c.Hear(code(220, "h", "GREETED"), 100)
		if l := c.Words(); len(l) != 0 {
			t.Error(i, l)
		}
		r := api.Reply{Code: 250 + i, Text: x.text}
		c.Hear(r, 100)
		if l := c.Words(); !slices.Equal(l, x.want) {
			t.Errorf("%d: %q, not %q", i, l, x.want)
		}
		c.Hear(code(250, "h", "LATER"), 100)
		if l := c.Words(); !slices.Equal(l, x.want) {
			t.Errorf("%d: %q, not %q", i, l, x.want)
		}
		c.Lost()
		if l := c.Words(); !slices.Equal(l, x.want) {
			t.Errorf("%d: %q, not %q", i, l, x.want)
		}
	}
	for _, n := range []int{0, 199, 300, 450, 500} {
		c := made(t, plain())
		c.Hear(code(220, "h"), 100)
		c.Hear(code(n, "h", "DSN"), 100)
		if l := c.Words(); len(l) != 0 {
			t.Error(n, l)
		}
	}
}

// said answers what a client tells of a message and its recipient to a server of some words, beside the paths.
func said(t *testing.T, m envelope.Message, now int, words ...string) (ofMail, ofRcpt string) {
	t.Helper()
	c := made(t, m)
	c.Hear(code(220, "h"), 0)
	mail := c.Hear(code(250, append([]string{"h"}, words...)...), now)
	to := c.Hear(code(250, "sender"), 3*now)
	if len(mail) != 1 || len(to) != 1 {
		t.Fatalf("%q: %q %q", words, mail, to)
	}
	from, isMail := strings.CutPrefix(mail[0], "MAIL FROM:<a@b>")
	behind, isRcpt := strings.CutPrefix(to[0], "RCPT TO:<c@d>")
	if !isMail || !isRcpt {
		t.Fatalf("%q %q", mail, to)
	}
	return from, behind
}

// P18.2, P18.3: by each word of the server just what it stands for is said, if there is something.
func TestSaid(t *testing.T) {
	until := full()
	until.Mail.Has.HoldFor, until.Mail.HoldFor = false, 0
	until.Mail.Has.HoldUntil, until.Mail.HoldUntil = true, 160
	null := full()
	null.Mail.Has.Priority, null.Mail.Priority = true, 0
	for i, x := range []struct {
		m          envelope.Message
		words      []string
		mail, rcpt string
	}{
		{full(), nil, "", ""},
		{full(), []string{"SIZE"}, " SIZE=6", ""},
		{full(), []string{"8BITMIME"}, " BODY=8BITMIME", ""},
		{full(), []string{"DSN"}, " RET=HDRS ENVID=e+20d", " NOTIFY=SUCCESS,FAILURE ORCPT=RFC822;o+20p"},
		{full(), []string{"DELIVERBY"}, " BY=40;RT", ""},
		{full(), []string{"MT-PRIORITY"}, " MT-PRIORITY=-3", ""},
		{null, []string{"MT-PRIORITY"}, " MT-PRIORITY=0", ""},
		{full(), []string{"FUTURERELEASE 60 1970-01-01T00:01:00Z", "HOLDFOR", "HOLDUNTIL"}, "", ""},
		{until, []string{"FUTURERELEASE 60 1970-01-01T00:01:00Z", "HOLDFOR", "HOLDUNTIL"}, "", ""},
		{full(), []string{"RET", "ENVID", "BY", "BODY", "NOTIFY", "ORCPT", "8BIT", "SIZES", "SIZE=10", "XDSN", "DSN=1"}, "", ""},
		{full(), []string{" DSN", "X DSN", "X SIZE 10", ""}, "", ""},
		{full(), []string{"mt-priority mixed", "deliverby 10", "dsn x", "8bitmime\u00e9", "8bitMime", "Size 100", "FUTURERELEASE"}, " SIZE=6 BODY=8BITMIME RET=HDRS ENVID=e+20d BY=40;RT MT-PRIORITY=-3", " NOTIFY=SUCCESS,FAILURE ORCPT=RFC822;o+20p"},
		{plain(), []string{"MT-PRIORITY", "DELIVERBY", "DSN", "8BITMIME", "SIZE"}, " SIZE=6", ""},
		{plain(), []string{"MT-PRIORITY", "DELIVERBY", "DSN", "8BITMIME"}, "", ""},
	} {
		mail, rcpt := said(t, x.m, 110, x.words...)
		if mail != x.mail || rcpt != x.rcpt {
			t.Errorf("%d: %q %q, not %q %q", i, mail, rcpt, x.mail, x.rcpt)
		}
	}
}

// P18.2: what is said alone is said, whatever else isn't.
func TestSaidAlone(t *testing.T) {
	all := []string{"DSN", "8BITMIME", "DELIVERBY", "MT-PRIORITY"}
	for _, x := range []struct {
		of   func(m *envelope.Message)
		mail string
		rcpt string
	}{
		{func(m *envelope.Message) { m.Mail.Body = "7BIT" }, " BODY=7BIT", ""},
		{func(m *envelope.Message) { m.Mail.Ret = "FULL" }, " RET=FULL", ""},
		{func(m *envelope.Message) { m.Mail.Envid = "\x00" }, " ENVID=+00", ""},
		{func(m *envelope.Message) { m.Mail.Has.By, m.Mail.Mode = true, "N" }, " BY=-10;N", ""},
		{func(m *envelope.Message) { m.Mail.Has.Priority, m.Mail.Priority = true, 9 }, " MT-PRIORITY=9", ""},
		{func(m *envelope.Message) { m.Mail.Has.Size, m.Mail.Size = true, 9 }, "", ""},
		{func(m *envelope.Message) { m.Rcpts[0].Rcpt.Notify = "N" }, "", " NOTIFY=NEVER"},
		{func(m *envelope.Message) { m.Rcpts[0].Rcpt = param.Rcpt{Kind: "X400", Orcpt: "+"} }, "", " ORCPT=X400;+2B"},
	} {
		m := plain()
		x.of(&m)
		mail, rcpt := said(t, m, 110, all...)
		if mail != x.mail || rcpt != x.rcpt {
			t.Errorf("%q %q, not %q %q", mail, rcpt, x.mail, x.rcpt)
		}
	}
}

// P18.2: BY is how far the deadline is, within its range, of R and RT at least 1; the time is within its own range.
func TestBy(t *testing.T) {
	const most = 999999999
	for _, x := range []struct {
		at, by, now int
		mode        string
		want        int
	}{
		{100, 50, 100, "R", 50},
		{100, 50, 149, "R", 1},
		{100, 50, 150, "R", 1},
		{100, 50, 151, "R", 1},
		{100, 50, 148, "RT", 2},
		{100, 50, 149, "RT", 1},
		{100, 50, 1000, "RT", 1},
		{100, 50, 149, "N", 1},
		{100, 50, 150, "N", 0},
		{100, 50, 151, "N", -1},
		{100, 50, 151, "NT", -1},
		{100, -50, 100, "N", -50},
		{100, -50, 100, "NT", -50},
		{100, 0, 100, "NT", 0},
		{100, 50, 0, "R", 150},
		{100, 50, -1, "R", 150},
		{100, 50, math.MinInt, "N", 150},
		{0, most, 0, "R", most},
		{1, most, 0, "R", most},
		{1, most, 1, "N", most},
		{2, most, 0, "NT", most},
		{2, most, 3, "NT", most - 1},
		{lastTick, most, 0, "RT", most},
		{0, -most, 0, "N", -most},
		{0, -most, 1, "N", -most},
		{1, -most, 0, "NT", -most + 1},
		{0, -most, lastTick, "NT", -most},
		{0, 1, lastTick, "N", -most},
		{0, 1, lastTick, "R", 1},
		{lastTick, 7, lastTick, "N", 7},
		{lastTick, 7, lastTick + 1, "N", 7},
		{lastTick, 7, math.MaxInt, "N", 7},
		{lastTick - 1, 7, math.MaxInt, "N", 6},
	} {
		m := plain()
		m.At, m.Release = x.at, x.at
		m.Mail = param.Mail{Has: param.Has{By: true}, By: x.by, Mode: x.mode}
		want := " BY=" + strconv.Itoa(x.want) + ";" + x.mode
		if got, _ := said(t, m, x.now, "DELIVERBY"); got != want {
			t.Errorf("%v: %q", x, got)
		}
		if got, _ := said(t, m, x.now, "MT-PRIORITY"); got != "" {
			t.Errorf("%v: %q", x, got)
		}
	}
}

// sized answers a message whose data have that many bytes.
func sized(t *testing.T, n int) envelope.Message {
	t.Helper()
	m := plain()
	m.Lines = nil
	for left := n - 3; left > 0; {
		size := min(left, 1000)
		if rest := left - size; rest == 1 {
			size--
		}
		m.Lines = append(m.Lines, strings.Repeat("x", size-2))
		left -= size
	}
	if data, e := line.Data(m.Lines); e != api.OK || len(data) != n {
		t.Fatal(len(data), n, e)
	}
	return m
}

// P18.2: the data may have as many bytes as the server says; where it says nothing of that form, any number. The first SIZE counts.
func TestLimit(t *testing.T) {
	for i, x := range []struct {
		size  int
		words []string
		over  bool
	}{
		{10, []string{"SIZE 10"}, false},
		{11, []string{"SIZE 10"}, true},
		{9, []string{"SIZE 10"}, false},
		{3, []string{"SIZE 3"}, false},
		{3, []string{"SIZE 2"}, true},
		{5, []string{"SIZE 1"}, true},
		{5, []string{"SIZE 0"}, false},
		{5, []string{"SIZE 000000000"}, false},
		{5, []string{"SIZE"}, false},
		{5, []string{"SIZE "}, false},
		{5, []string{"SIZE x"}, false},
		{5, []string{"SIZE 1x"}, false},
		{5, []string{"SIZE x1"}, false},
		{5, []string{"SIZE 1x1"}, false},
		{5, []string{"SIZE -1"}, false},
		{5, []string{"SIZE +1"}, false},
		{5, []string{"SIZE 1_0"}, false},
		{5, []string{"SIZE 1.5"}, false},
		{5, []string{"SIZE=1"}, false},
		{5, []string{"SIZES 1"}, false},
		{5, []string{" SIZE 1"}, false},
		{5, []string{"X SIZE 1"}, false},
		{5, []string{"SIZE \u0661"}, false},
		{10, []string{"size 9"}, true},
		{10, []string{"Size 000000009"}, true},
		{10, []string{"SIZE 010"}, false},
		{10, []string{"SIZE 0000000009"}, false},
		{10, []string{"SIZE 9999999990"}, false},
		{4096, []string{"SIZE 999999999"}, false},
		{4096, []string{"SIZE 4096"}, false},
		{4096, []string{"SIZE 4095"}, true},
		{10, []string{"DSN", "SIZE 9", "8BITMIME"}, true},
		{10, []string{"DSN", "SIZE 10", "SIZE 9"}, false},
		{10, []string{"DSN", "SIZE 9", "SIZE 10"}, true},
		{10, []string{"SIZE", "SIZE 9"}, false},
		{10, []string{"size 0", "SIZE 9"}, false},
		{10, nil, false},
	} {
		c := made(t, sized(t, x.size))
		c.Hear(code(220, "h"), 100)
		r := api.Reply{Code: 250, Enhanced: [3]int{2, 0, 0}, Text: append([]string{"SIZE 1"}, x.words...)}
		got := c.Hear(r, 100)
		want := slices.Clone(x.words)
		for j := range want {
			want[j] = strings.ToUpper(strings.Split(want[j], " ")[0])
		}
		if !slices.Equal(c.Words(), want) {
			t.Errorf("%d: %q", i, c.Words())
		}
		if c.Over() != x.over {
			t.Errorf("%d: %q %v", i, got, c.Over())
		}
		if !x.over {
			if c.State() != "mail" {
				t.Error(i, c.State())
			}
			continue
		}
		if !slices.Equal(got, []string{"QUIT"}) {
			t.Error(i, got)
		}
		ends(t, c, 5, r)
	}
}

// P18.2: the size that is told, and held against the server's, is that of the data, with each . more, and each end.
func TestSize(t *testing.T) {
	for _, lines := range [][]string{nil, {""}, {"."}, {"..", "a.", ".b"}, {"", "", "x"}, {strings.Repeat(".", 998)}} {
		n := 3
		for _, text := range lines {
			n += len(text) + 2
			if strings.HasPrefix(text, ".") {
				n++
			}
		}
		m := plain()
		m.Lines = lines
		if got, _ := said(t, m, 100, "SIZE "+strconv.Itoa(n)); got != " SIZE="+strconv.Itoa(n) {
			t.Error(got, n)
		}
		c := made(t, m)
		c.Hear(code(220, "h"), 100)
		hears(t, c, code(250, "h", "SIZE "+strconv.Itoa(n-1)), "over", "QUIT")
	}
}

// P18.2: where what is to be said of the message makes a line too long, it is over; to HELO it never does.
func TestTooLong(t *testing.T) {
	long := path.Path{Local: strings.Repeat("a", 64), Domain: strings.Repeat(strings.Repeat("b", 63)+".", 3) + "bbb"}
	ways := map[string]int{}
	for n := range 80 {
		m := plain()
		m.From = long
		m.Mail = param.Mail{Ret: "FULL", Body: "8BITMIME", Envid: strings.Repeat(" ", 43+n/3) + strings.Repeat("x", n%3)}
		ahead, e := command.Print(command.Command{Verb: "MAIL", Path: m.From, Mail: m.Mail})
		if e != api.OK {
			t.Fatal(n, e)
		}
		for _, x := range []struct {
			r    api.Reply
			more string
		}{
			{code(250, "h", "SIZE", "DSN", "8BITMIME"), " SIZE=6"},
			{code(250, "h", "SIZE 6", "DSN", "8BITMIME"), " SIZE=6"},
			{code(250, "h", "DSN", "8BITMIME"), ""},
		} {
			c := made(t, m)
			c.Hear(code(220, "h"), 100)
			got := c.Hear(x.r, 100)
			ways[c.State()]++
			if len(ahead)+len(x.more) <= 510 {
				if c.State() != "mail" || len(got) != 1 || len(got[0]) != len(ahead)+len(x.more) || !strings.Contains(got[0], x.more) {
					t.Fatal(n, c.State(), got)
				}
				continue
			}
			if c.State() != "over" || !slices.Equal(got, []string{"QUIT"}) {
				t.Fatal(n, c.State(), got)
			}
			ends(t, c, 5, x.r)
		}
		c := made(t, m)
		c.Hear(code(220, "h"), 100)
		c.Hear(code(500, "h"), 100)
		if got := c.Hear(code(250, "h", "SIZE"), 100); c.State() != "mail" || len(got) != 1 {
			t.Fatal(n, c.State(), got)
		}
	}
	if ways["mail"] == 0 || ways["over"] == 0 {
		t.Error(ways)
	}
}

// P18.2: a line of just 510 bytes can be told, one of 511 can't.
func TestLongestLine(t *testing.T) {
	for extra := range 2 {
		m := plain()
		domain := strings.Repeat(strings.Repeat("b", 63)+".", 3)
		m.Mail = param.Mail{Ret: "FULL", Body: "8BITMIME", Envid: strings.Repeat(" ", 70)}
		m.From = path.Path{Local: "a", Domain: domain + "b"}
		text, e := command.Print(command.Command{Verb: "MAIL", Path: m.From, Mail: m.Mail})
		if e != api.OK {
			t.Fatal(e)
		}
		m.From.Local = strings.Repeat("a", 1+510-len(text)-len(" SIZE=6")+extra)
		c := made(t, m)
		c.Hear(code(220, "h"), 100)
		got := c.Hear(code(250, "h", "SIZE", "DSN", "8BITMIME"), 100)
		if extra == 0 && (c.State() != "mail" || len(got) != 1 || len(got[0]) != 510) || extra == 1 && (c.State() != "over" || !slices.Equal(got, []string{"QUIT"})) {
			t.Error(extra, c.State(), got)
		}
	}
}

// P18.3: a message's text comes as its data, and is read back.
func TestText(t *testing.T) {
	draw := rand.New(rand.NewSource(1))
	for range 500 {
		m := plain()
		m.Lines = anyLines(draw)
		c := made(t, m)
		for _, n := range []int{220, 250, 250, 250} {
			c.Hear(code(n, "x"), 100)
		}
		told := c.Hear(code(354, "x"), 100)
		data, _ := line.Data(m.Lines)
		sent := strings.Join(told, "\r\n") + "\r\n"
		if sent != data || told[len(told)-1] != "." {
			t.Fatalf("%q, not %q", sent, data)
		}
		back, rest, e := line.Undata(sent)
		if !slices.Equal(back, m.Lines) || rest != "" || e != api.OK {
			t.Fatalf("%q %q %d", back, rest, e)
		}
	}
}

// P18.3: of a message's recipients the one at the place alone is told, and what is said of it.
func TestAlone(t *testing.T) {
	m := full()
	m.Rcpts = nil
	want := []string{"<postmaster>", "<b@d>", `<"c c"@d>`, "<d@d>", "<e@d>", "<f@d>", "<g@d>", "<h@d>"}
	for i, text := range want {
		p, _, e := path.Parse(text)
		if e != api.OK {
			t.Fatal(text, e)
		}
		m.Rcpts = append(m.Rcpts, envelope.Rcpt{Path: p, Rcpt: param.Rcpt{Kind: "K", Orcpt: strconv.Itoa(i)}})
	}
	for place, text := range want {
		c, e := New(host, m, place)
		if e != api.OK {
			t.Fatal(place, e)
		}
		var told []string
		for _, r := range []api.Reply{code(220, "h"), code(250, "h", "DSN"), code(250, "x"), code(250, "x"), code(354, "x"), code(250, "x")} {
			told = append(told, c.Hear(r, 100)...)
		}
		if !slices.Equal(told, []string{"EHLO mail.h", "MAIL FROM:<a@b> RET=HDRS ENVID=e+20d", "RCPT TO:" + text + " ORCPT=K;" + strconv.Itoa(place), "DATA", "x", ".", "QUIT"}) {
			t.Errorf("%d: %q", place, told)
		}
		ends(t, c, 3, code(250, "x"))
	}
}

// A message from nobody is brought on as well.
func TestFromNobody(t *testing.T) {
	m := plain()
	m.From = path.Path{}
	c := made(t, m)
	c.Hear(code(220, "h"), 100)
	hears(t, c, code(250, "h", "DSN"), "mail", "MAIL FROM:<>")
}

// P18.2: the time of BY is that of the reply behind which MAIL is told, not of any ahead of it.
func TestTime(t *testing.T) {
	c := made(t, full())
	c.Hear(code(220, "h"), 1)
	if got := c.Hear(code(250, "h", "DELIVERBY"), 130); !slices.Equal(got, []string{"MAIL FROM:<a@b> BY=20;RT"}) {
		t.Error(got)
	}
	c = made(t, full())
	c.Hear(code(220, "h"), 200)
	if got := c.Hear(code(250, "h", "DELIVERBY"), 120); !slices.Equal(got, []string{"MAIL FROM:<a@b> BY=30;RT"}) {
		t.Error(got)
	}
}

// pick answers one of some.
func pick[T any](draw *rand.Rand, l ...T) T { return l[draw.Intn(len(l))] }

// anyLines answers the lines of some text.
func anyLines(draw *rand.Rand) []string {
	var l []string
	for range draw.Intn(6) {
		l = append(l, pick(draw, "", ".", "..", "a", ".a", "a.", "QUIT", "\x01\xff\u00e9", strings.Repeat(".", 1+draw.Intn(600))))
	}
	return l
}

// anyMessage answers a message of which anything may be said.
func anyMessage(draw *rand.Rand) envelope.Message {
	m := envelope.Message{Id: 1 + draw.Intn(9), At: draw.Intn(50), Lines: anyLines(draw)}
	m.Release = m.At
	m.From = pick(draw, path.Path{}, path.Path{Local: "a", Domain: "b.c"}, path.Path{Local: `q "\`, Domain: "b"})
	m.Mail = param.Mail{Body: pick(draw, "", "7BIT", "8BITMIME"), Ret: pick(draw, "", "FULL", "HDRS"), Envid: pick(draw, "", "e", "=+ ")}
	if draw.Intn(2) > 0 {
		m.Mail.Has.By, m.Mail.By, m.Mail.Mode = true, 1+draw.Intn(50), pick(draw, "R", "N", "RT", "NT")
	}
	if draw.Intn(2) > 0 {
		m.Mail.Has.Priority, m.Mail.Priority = true, draw.Intn(19)-9
	}
	if draw.Intn(2) > 0 {
		m.Mail.Has.HoldFor, m.Mail.HoldFor = true, 1+draw.Intn(9)
	}
	if draw.Intn(2) > 0 {
		m.Mail.Has.Size, m.Mail.Size = true, draw.Intn(100)
	}
	for range 1 + draw.Intn(8) {
		p := pick(draw, path.Path{Local: "postmaster"}, path.Path{Local: "c" + strconv.Itoa(draw.Intn(9)), Domain: "d"})
		r := param.Rcpt{Notify: pick(draw, "", "N", "S", "FD", "SFD")}
		if draw.Intn(2) > 0 {
			r.Kind, r.Orcpt = "RFC822", pick(draw, "o", "o p")
		}
		m.Rcpts = append(m.Rcpts, envelope.Rcpt{Path: p, Rcpt: r})
	}
	return m
}

// anyReply answers a reply, more often than not one that leads on.
func anyReply(draw *rand.Rand, state string) api.Reply {
	n := 250
	switch state {
	case "data":
		n = 354
	case "ehlo":
		n = pick(draw, 250, 250, 502)
	}
	if draw.Intn(12) == 0 {
		n = pick(draw, 0, 199, 220, 250, 354, 421, 450, 500, 554, 600)
	}
	r := api.Reply{Code: n, Enhanced: pick(draw, [3]int{}, [3]int{n / 100, 1, 0}), Text: []string{"h"}}
	for range draw.Intn(8) {
		r.Text = append(r.Text, pick(draw, "DSN", "dsn x", "SIZE", "SIZE "+strconv.Itoa(draw.Intn(60)), "size 0", "DELIVERBY", "MT-PRIORITY", "8BITMIME", "PIPELINING", "", " DSN"))
	}
	return r
}

// happened: what a client is told, in order.
type happened struct {
	r    api.Reply
	now  int
	lost bool
}

// plainly: how a client is behind all that happened, looked up anew in all of it.
type plainly struct {
	state   string
	told    []string // the last time
	words   []string
	outcome int
	last    api.Reply
}

// lookedUp goes through all that happened, by the chapter's table of the way.
func lookedUp(m envelope.Message, place int, all []happened) plainly {
	p := plainly{state: "greet"}
	var heard api.Reply
	for _, x := range all {
		p.told = nil
		if p.state == "over" {
			continue
		}
		over := func(outcome int) {
			p.state, p.outcome, p.last = "over", outcome, heard
			if !x.lost {
				p.told = []string{"QUIT"}
			}
		}
		if x.lost {
			over(0)
			continue
		}
		heard = x.r
		way := p.state + " " + strconv.Itoa(x.r.Code/100)
		switch way {
		case "greet 2":
			p.state, p.told = "ehlo", []string{"EHLO " + host}
		case "ehlo 5":
			p.state, p.told = "helo", []string{"HELO " + host}
		case "ehlo 2", "helo 2":
			if p.state == "ehlo" {
				for _, text := range x.r.Text[1:] {
					p.words = append(p.words, strings.ToUpper(strings.SplitN(text, " ", 2)[0]))
				}
			}
			p.state, p.told = "mail", []string{mailLine(m, p.words, x.now)}
			if p.words != nil && tooMuch(m, x.r.Text[1:]) || len(p.told[0]) > 510 {
				over(5)
			}
		case "mail 2":
			p.state, p.told = "rcpt", []string{rcptLine(m.Rcpts[place], p.words)}
		case "rcpt 2":
			p.state, p.told = "data", []string{"DATA"}
		case "data 3":
			p.state, p.told = "text", textLines(m)
		case "text 2":
			over(3)
		default:
			over(4 + strings.Count(way, " 5"))
		}
	}
	return p
}

// textLines answers the lines of a message's text, as they are sent.
func textLines(m envelope.Message) []string {
	var l []string
	for _, text := range m.Lines {
		if text != "" && text[0] == '.' {
			text = "." + text
		}
		l = append(l, text)
	}
	return append(l, ".")
}

// bytesOf answers how many bytes they are.
func bytesOf(m envelope.Message) int { return len(strings.Join(textLines(m), "??")) + 2 }

// tooMuch tells if a message has more bytes than the first SIZE says.
func tooMuch(m envelope.Message, lines []string) bool {
	for _, text := range lines {
		fields := strings.SplitN(strings.ToUpper(text), " ", 2)
		if fields[0] != "SIZE" {
			continue
		}
		n := 0
		if len(fields) == 2 {
			n, _ = strconv.Atoi(fields[1])
		}
		return n > 0 && n < bytesOf(m)
	}
	return false
}

// mailLine answers the line of MAIL.
func mailLine(m envelope.Message, words []string, now int) string {
	text, _ := path.Join(m.From)
	text = "MAIL FROM:" + text
	say := func(word string, is bool, told string) {
		if is && slices.Contains(words, word) {
			text += " " + told
		}
	}
	by := m.At + m.Mail.By - now
	if m.Mail.Mode != "" && m.Mail.Mode[0] == 'R' && by < 1 {
		by = 1
	}
	say("SIZE", true, fmt.Sprint("SIZE=", bytesOf(m)))
	say("8BITMIME", m.Mail.Body != "", "BODY="+m.Mail.Body)
	say("DSN", m.Mail.Ret != "", "RET="+m.Mail.Ret)
	say("DSN", m.Mail.Envid != "", "ENVID="+xtext.Encode(m.Mail.Envid))
	say("DELIVERBY", m.Mail.Has.By, fmt.Sprint("BY=", by, ";", m.Mail.Mode))
	say("MT-PRIORITY", m.Mail.Has.Priority, fmt.Sprint("MT-PRIORITY=", m.Mail.Priority))
	return text
}

// rcptLine answers the line of RCPT.
func rcptLine(r envelope.Rcpt, words []string) string {
	text, _ := path.Join(r.Path)
	text = "RCPT TO:" + text
	if r.Rcpt.Notify != "" && slices.Contains(words, "DSN") {
		names := map[string]string{"N": "NEVER", "S": "SUCCESS", "FD": "FAILURE,DELAY", "SFD": "SUCCESS,FAILURE,DELAY"}
		text += " NOTIFY=" + names[r.Rcpt.Notify]
	}
	if r.Rcpt.Kind != "" && slices.Contains(words, "DSN") {
		text += " ORCPT=" + r.Rcpt.Kind + ";" + xtext.Encode(r.Rcpt.Orcpt)
	}
	return text
}

// P18.1 to P18.3: clients of any messages that hear any replies, held against what is looked up anew; each is over behind 7 replies.
func TestAll(t *testing.T) {
	draw := rand.New(rand.NewSource(2))
	ways := map[string]int{}
	for range 20000 {
		m := anyMessage(draw)
		place := draw.Intn(len(m.Rcpts))
		c, e := New(host, m, place)
		if e != api.OK {
			t.Fatalf("%+v: %d", m, e)
		}
		var all []happened
		replies := 0
		for range 9 {
			x := happened{r: anyReply(draw, c.State()), now: draw.Intn(120), lost: draw.Intn(40) == 0}
			all = append(all, x)
			var told []string
			if x.lost {
				c.Lost()
			} else {
				told = c.Hear(x.r, x.now)
				replies++
			}
			want := lookedUp(m, place, all)
			outcome, last := c.Outcome()
			if !slices.Equal(told, want.told) || c.State() != want.state || c.Over() != (want.state == "over") || outcome != want.outcome || !reply.Same(last, want.last) || !slices.Equal(c.Words(), want.words) {
				t.Fatalf("%+v: %+v: %q %s %d %v %q, not %+v", m, all, told, c.State(), outcome, last, c.Words(), want)
			}
			if replies >= 7 && !c.Over() {
				t.Fatalf("%+v: not over", all)
			}
			ways[fmt.Sprint(c.State(), outcome)]++
		}
	}
	for _, way := range []string{"ehlo0", "helo0", "mail0", "rcpt0", "data0", "text0", "over0", "over3", "over4", "over5"} {
		if ways[way] < 100 {
			t.Error(way, ways[way])
		}
	}
}

// P18.3: a client and a server (layer 17) understand each other: what was brought is taken, as it was, just where it is relayed.
func TestServer(t *testing.T) {
	draw := rand.New(rand.NewSource(3))
	seen := map[int]int{}
	for range 3000 {
		m := anyMessage(draw)
		place := draw.Intn(len(m.Rcpts))
		size := pick(draw, 4096, 4096, 1+draw.Intn(200))
		c, e := New(host, m, place)
		s, se := server.New("to.h", size, 1000)
		if e != api.OK || se != api.OK {
			t.Fatal(e, se)
		}
		now := m.At + draw.Intn(100)
		room := draw.Intn(8) > 0
		var taken []envelope.Message
		next := []api.Reply{s.Greet()}
		for len(next) > 0 {
			r := next[0]
			next = nil
			for _, text := range c.Hear(r, now) {
				if answer, is := s.Hear(line.Line{Text: text}, now, room); is {
					next = append(next, answer)
				}
				if got, is := s.Taken(); is {
					taken = append(taken, got)
					next = append(next, server.Done())
				}
			}
		}
		outcome, r := c.Outcome()
		seen[outcome]++
		want := 3
		switch {
		case bytesOf(m) > size:
			want = 5
		case !room:
			want = 4
		}
		if !c.Over() || outcome != want || (len(taken) == 1) != (want == 3) || !s.Gone() {
			t.Fatalf("%+v: %d %v, not %d; %+v", m, outcome, r, want, taken)
		}
		if want != 3 {
			continue
		}
		mail := m.Mail
		mail.Has.HoldFor, mail.HoldFor = false, 0
		mail.Has.Size, mail.Size = true, bytesOf(m)
		mail.By = taken[0].Mail.By
		if !envelope.Same(taken[0], envelope.Message{At: now, Release: now, From: m.From, Mail: mail, Rcpts: m.Rcpts[place : place+1], Lines: m.Lines}) {
			t.Fatalf("%+v, not %+v", taken[0], m)
		}
	}
	for _, outcome := range []int{3, 4, 5} {
		if seen[outcome] < 50 {
			t.Error(outcome, seen)
		}
	}
}

// What is handed in isn't changed, nor is its spare room.
func TestNotChanged(t *testing.T) {
	m := full()
	m.Rcpts = append(make([]envelope.Rcpt, 0, 4), m.Rcpts[0], rcpt("e"))
	m.Lines = append(make([]string, 0, 4), "x", ".y")
	spareRcpts, spareLines := m.Rcpts[:4], m.Lines[:4]
	wantRcpts, wantLines := slices.Clone(spareRcpts), slices.Clone(spareLines)
	text := append(make([]string, 0, 4), "h", "dsn", "size 100")
	spare := text[:4]
	want := slices.Clone(spare)
	c := made(t, m)
	for _, n := range []int{220, 250, 250, 250, 354, 250} {
		c.Hear(api.Reply{Code: n, Text: text}, 100)
		c.Words()
		c.Outcome()
	}
	ends(t, c, 3, api.Reply{Code: 250, Text: []string{"h", "dsn", "size 100"}})
	if !slices.Equal(spareRcpts, wantRcpts) || !slices.Equal(spareLines, wantLines) || !slices.Equal(spare, want) {
		t.Error(spareRcpts, spareLines, spare)
	}
}

// inside tells if a text stands in the memory of another.
func inside(text, all string) bool {
	if text == "" || all == "" {
		return false
	}
	p, q := uintptr(unsafe.Pointer(unsafe.StringData(text))), uintptr(unsafe.Pointer(unsafe.StringData(all)))
	return p < q+uintptr(len(all)) && q < p+uintptr(len(text))
}

// What is handed in isn't kept: what becomes of it later plays no part, and no answer has its memory.
func TestNotKept(t *testing.T) {
	name := strings.Clone("a.long.host")
	m := full()
	m.Lines = []string{strings.Clone("a line"), strings.Clone(".another")}
	lines := slices.Clone(m.Lines)
	c, e := New(name, m, 0)
	if e != api.OK || inside(c.host, name) {
		t.Fatal(e)
	}
	m.Lines[0], m.Lines[1] = "spoilt", "spoilt"
	m.Rcpts[0] = envelope.Rcpt{}
	words := []string{strings.Clone("h"), strings.Clone("DSN and more")}
	hear := func(n int, want ...string) {
		t.Helper()
		text := slices.Clone(words)
		got := c.Hear(api.Reply{Code: n, Text: text}, 100)
		text[0], text[1] = "spoilt", "spoilt"
		if !slices.Equal(got, want) {
			t.Errorf("%q, not %q", got, want)
		}
		for _, told := range got {
			if inside(told, lines[0]) || inside(told, lines[1]) {
				t.Errorf("%q is what was handed in", told)
			}
		}
	}
	hear(220, "EHLO a.long.host")
	hear(250, "MAIL FROM:<a@b> RET=HDRS ENVID=e+20d")
	hear(250, "RCPT TO:<c@d> NOTIFY=SUCCESS,FAILURE ORCPT=RFC822;o+20p")
	hear(250, "DATA")
	hear(354, "a line", "..another", ".")
	hear(250, "QUIT")
	ends(t, c, 3, api.Reply{Code: 250, Text: words})
	_, last := c.Outcome()
	for _, told := range append(last.Text, c.Words()...) {
		if inside(told, words[0]) || inside(told, words[1]) {
			t.Errorf("%q is what was handed in", told)
		}
	}
}

// What is answered is new memory: nothing that is done to it is seen in later answers.
func TestNewMemory(t *testing.T) {
	c := made(t, plain())
	spoil := func(l []string) {
		for i := range l {
			l[i] = "spoilt"
		}
		_ = append(l, "spoilt")
	}
	for _, x := range []struct {
		r    api.Reply
		want []string
	}{
		{code(220, "h"), []string{"EHLO mail.h"}},
		{code(250, "h", "SIZE", "DSN"), []string{"MAIL FROM:<a@b> SIZE=6"}},
		{code(250, "h"), []string{"RCPT TO:<c@d>"}},
		{code(250, "h"), []string{"DATA"}},
		{code(354, "h"), []string{"x", "."}},
		{code(250, "h", "i"), []string{"QUIT"}},
	} {
		spoil(c.Words())
		told := c.Hear(x.r, 100)
		if !slices.Equal(told, x.want) {
			t.Errorf("%q, not %q", told, x.want)
		}
		spoil(told)
	}
	for range 2 {
		if l := c.Words(); !slices.Equal(l, []string{"SIZE", "DSN"}) {
			t.Error(l)
		}
		ends(t, c, 3, code(250, "h", "i"))
		_, r := c.Outcome()
		spoil(r.Text)
		spoil(c.Words())
	}
}

// Clients know nothing of each other, and the same replies tell the same.
func TestApart(t *testing.T) {
	draw := rand.New(rand.NewSource(4))
	for range 500 {
		m := anyMessage(draw)
		a, b, other := made(t, m), made(t, m), made(t, anyMessage(draw))
		for range 8 {
			r, now := anyReply(draw, a.State()), draw.Intn(100)
			first := a.Hear(r, now)
			other.Hear(anyReply(draw, other.State()), draw.Intn(100))
			second := b.Hear(r, now)
			x, rx := a.Outcome()
			y, ry := b.Outcome()
			if !slices.Equal(first, second) || a.State() != b.State() || x != y || !reply.Same(rx, ry) || !slices.Equal(a.Words(), b.Words()) {
				t.Fatal(first, second)
			}
		}
	}
}

// Any reply, of any numbers and bytes, at any time, is heard; all that is told but a text is a command that can be read.
func TestAnything(t *testing.T) {
	draw := rand.New(rand.NewSource(5))
	for range 5000 {
		c := made(t, anyMessage(draw))
		for range 10 {
			r := anyReply(draw, c.State())
			for range draw.Intn(5) {
				b := make([]byte, draw.Intn(pick(draw, 4, 40, 1200)))
				draw.Read(b)
				r.Text = append(r.Text, pick(draw, "", "SIZE ", "DSN", "X ")+string(b))
			}
			if draw.Intn(10) == 0 {
				r = api.Reply{Code: pick(draw, int(draw.Uint64()), 200+draw.Intn(400)), Enhanced: [3]int{int(draw.Uint64()), -1, 1000}}
			}
			over, text := c.Over(), c.State() == "data"
			told := c.Hear(r, int(draw.Uint64()))
			if over != (len(told) == 0) {
				t.Fatal(over, told)
			}
			if text && !c.Over() {
				continue
			}
			for _, one := range told {
				if _, e := command.Parse(one); e != api.OK || len(one) > 510 {
					t.Fatalf("%q: %d", one, e)
				}
			}
			if outcome, last := c.Outcome(); c.Over() != (outcome > 0) || !c.Over() && !reflect.DeepEqual(last, api.Reply{}) {
				t.Fatal(outcome, last)
			}
		}
	}
}
