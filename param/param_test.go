package param

import (
	"regexp"
	"strconv"
	"strings"
	"testing"
	"time"
	"unsafe"

	"duepost/api"
)

// x answers so many letters.
func x(n int) string { return strings.Repeat("x", n) }

// mails: texts, what they tell, and how it is printed.
var mails = []struct {
	s     string
	m     Mail
	print string
}{
	{"", Mail{}, ""},
	{"SIZE=1", Mail{Has: Has{Size: true}, Size: 1}, "SIZE=1"},
	{"size=0", Mail{Has: Has{Size: true}}, "SIZE=0"},
	{"SiZe=000000000", Mail{Has: Has{Size: true}}, "SIZE=0"},
	{"SIZE=007", Mail{Has: Has{Size: true}, Size: 7}, "SIZE=7"},
	{"SIZE=999999999", Mail{Has: Has{Size: true}, Size: 999999999}, "SIZE=999999999"},
	{"BODY=7BIT", Mail{Body: "7BIT"}, "BODY=7BIT"},
	{"body=7bit", Mail{Body: "7BIT"}, "BODY=7BIT"},
	{"Body=8BitMime", Mail{Body: "8BITMIME"}, "BODY=8BITMIME"},
	{"RET=FULL", Mail{Ret: "FULL"}, "RET=FULL"},
	{"ret=hdrs", Mail{Ret: "HDRS"}, "RET=HDRS"},
	{"ENVID=a", Mail{Envid: "a"}, "ENVID=a"},
	{"envid=aB+2B+3D+00+FF", Mail{Envid: "aB+=\x00\xff"}, "ENVID=aB+2B+3D+00+FF"},
	{"ENVID=+41", Mail{Envid: "A"}, "ENVID=A"},
	{"ENVID=a;b,c", Mail{Envid: "a;b,c"}, "ENVID=a;b,c"},
	{"ENVID=" + x(100), Mail{Envid: x(100)}, "ENVID=" + x(100)},
	{"ENVID=" + strings.Repeat("+20", 100), Mail{Envid: strings.Repeat(" ", 100)}, "ENVID=" + strings.Repeat("+20", 100)},
	{"HOLDFOR=1", Mail{Has: Has{HoldFor: true}, HoldFor: 1}, "HOLDFOR=1"},
	{"holdfor=1048576", Mail{Has: Has{HoldFor: true}, HoldFor: 1 << 20}, "HOLDFOR=1048576"},
	{"HOLDUNTIL=1970-01-01T00:00:00Z", Mail{Has: Has{HoldUntil: true}}, "HOLDUNTIL=1970-01-01T00:00:00Z"},
	{"holduntil=2000-03-01t00:00:00+01:00", Mail{Has: Has{HoldUntil: true}, HoldUntil: 951865200}, "HOLDUNTIL=2000-02-29T23:00:00Z"},
	{"HOLDUNTIL=9999-12-31t23:59:59z", Mail{Has: Has{HoldUntil: true}, HoldUntil: 253402300799}, "HOLDUNTIL=9999-12-31T23:59:59Z"},
	{"BY=60;R", Mail{Has: Has{By: true}, By: 60, Mode: "R"}, "BY=60;R"},
	{"by=1;rt", Mail{Has: Has{By: true}, By: 1, Mode: "RT"}, "BY=1;RT"},
	{"BY=0;N", Mail{Has: Has{By: true}, Mode: "N"}, "BY=0;N"},
	{"BY=-0;nT", Mail{Has: Has{By: true}, Mode: "NT"}, "BY=0;NT"},
	{"BY=-999999999;N", Mail{Has: Has{By: true}, By: -999999999, Mode: "N"}, "BY=-999999999;N"},
	{"BY=999999999;Rt", Mail{Has: Has{By: true}, By: 999999999, Mode: "RT"}, "BY=999999999;RT"},
	{"BY=-000000001;NT", Mail{Has: Has{By: true}, By: -1, Mode: "NT"}, "BY=-1;NT"},
	{"MT-PRIORITY=9", Mail{Has: Has{Priority: true}, Priority: 9}, "MT-PRIORITY=9"},
	{"mt-priority=-9", Mail{Has: Has{Priority: true}, Priority: -9}, "MT-PRIORITY=-9"},
	{"MT-PRIORITY=-0", Mail{Has: Has{Priority: true}}, "MT-PRIORITY=0"},
	{"MT-PRIORITY=00003", Mail{Has: Has{Priority: true}, Priority: 3}, "MT-PRIORITY=3"},
	{"size=10 by=60;rt", Mail{Has: Has{Size: true, By: true}, Size: 10, By: 60, Mode: "RT"}, "SIZE=10 BY=60;RT"},
	{"mt-priority=1 by=2;n holdfor=3 envid=d ret=full body=7bit size=4",
		Mail{Has{true, true, false, true, true}, 4, 3, 0, 2, 1, "7BIT", "FULL", "d", "N"},
		"SIZE=4 BODY=7BIT RET=FULL ENVID=d HOLDFOR=3 BY=2;N MT-PRIORITY=1"},
	{"MT-PRIORITY=-1 BY=-2;NT HOLDUNTIL=1970-01-01T00:00:09Z ENVID=d RET=HDRS BODY=8BITMIME SIZE=4",
		Mail{Has{true, false, true, true, true}, 4, 0, 9, -2, -1, "8BITMIME", "HDRS", "d", "NT"},
		"SIZE=4 BODY=8BITMIME RET=HDRS ENVID=d HOLDUNTIL=1970-01-01T00:00:09Z BY=-2;NT MT-PRIORITY=-1"},
}

// P5.1, P5.2, P5.3: what may be said of a message, and back.
func TestMail(t *testing.T) {
	for _, k := range mails {
		if got, e := ParseMail(k.s); got != k.m || e != api.OK {
			t.Errorf("ParseMail(%.80q): %+v, %d, not %+v", k.s, got, e, k.m)
		}
		if e := RightMail(k.m); e != api.OK {
			t.Errorf("RightMail(%+v): %d", k.m, e)
		}
		if got, e := PrintMail(k.m); got != k.print || e != api.OK {
			t.Errorf("PrintMail(%+v): %.80q, %d, not %.80q", k.m, got, e, k.print)
		}
		if got, e := ParseMail(k.print); got != k.m || e != api.OK {
			t.Errorf("ParseMail(%.80q): %+v, %d, not %+v", k.print, got, e, k.m)
		}
	}
}

// P5.1: wrong texts of messages.
func TestMailWrong(t *testing.T) {
	const until = "HOLDUNTIL=1970-01-01T00:00:09Z"
	for s, want := range map[string]api.Errno{
		"X": api.ErrKind, "X=1": api.ErrKind, "=": api.ErrKind, "=1": api.ErrKind, "SIZE =1": api.ErrForm,
		"NOTIFY=NEVER": api.ErrKind, "ORCPT=a;b": api.ErrKind, "SIZES=1": api.ErrKind, "SIZ=1": api.ErrKind, "\tSIZE=1": api.ErrKind,
		"\u017fize=1": api.ErrKind, "MODE=R": api.ErrKind, "MT_PRIORITY=1": api.ErrKind, "PRIORITY=1": api.ErrKind,

		" ": api.ErrForm, "  ": api.ErrForm, " SIZE=1": api.ErrForm, "SIZE=1 ": api.ErrForm, "SIZE=1  BODY=7BIT": api.ErrForm, " X": api.ErrForm,

		"SIZE=1 SIZE=1": api.ErrTwice, "SIZE=1 size=x": api.ErrTwice, "SIZE=1 size": api.ErrTwice, "BODY=7BIT BODY=8BITMIME": api.ErrTwice,
		"RET=FULL ENVID=a ret=FULL": api.ErrTwice, "ENVID=a envid=a": api.ErrTwice, "HOLDFOR=1 HOLDFOR=2": api.ErrTwice,
		until + " " + until: api.ErrTwice, "BY=1;R BY=1;R": api.ErrTwice, "MT-PRIORITY=0 Mt-Priority=0": api.ErrTwice,
		"SIZE=0 SIZE=0": api.ErrTwice,

		"SIZE": api.ErrForm, "SIZE=": api.ErrForm, "SIZE=a": api.ErrForm, "SIZE=-1": api.ErrForm, "SIZE=+1": api.ErrForm, "SIZE=1.": api.ErrForm,
		"SIZE=1=": api.ErrForm, "SIZE==1": api.ErrForm, "SIZE=0000000000": api.ErrForm, "SIZE=1000000000": api.ErrForm, "SIZE=1_0": api.ErrForm,
		"SIZE=0x1": api.ErrForm, "SIZE=\u0661": api.ErrForm, "SIZE=1\t": api.ErrForm, "SIZE=1\x00": api.ErrForm,
		"BODY": api.ErrForm, "BODY=": api.ErrForm, "BODY=8BIT": api.ErrForm, "BODY=BINARYMIME": api.ErrForm, "BODY=7BIT=": api.ErrForm,
		"BODY=FULL": api.ErrForm, "BODY=8B\u0131TMIME": api.ErrForm,
		"RET": api.ErrForm, "RET=": api.ErrForm, "RET=FUL": api.ErrForm, "RET=HDR\u017f": api.ErrForm, "RET=7BIT": api.ErrForm,
		"ENVID": api.ErrForm, "ENVID=": api.ErrForm, "ENVID=a=b": api.ErrForm, "ENVID=+": api.ErrForm, "ENVID=+0": api.ErrForm, "ENVID=+ab": api.ErrForm,
		"ENVID=\x7f": api.ErrForm, "ENVID=" + x(101) + "+": api.ErrForm, "ENVID=\u00e9": api.ErrForm,
		"HOLDFOR": api.ErrForm, "HOLDFOR=": api.ErrForm, "HOLDFOR=-1": api.ErrForm, "HOLDFOR=0000000001": api.ErrForm, "HOLDFOR=1s": api.ErrForm,
		"HOLDUNTIL": api.ErrForm, "HOLDUNTIL=": api.ErrForm, "HOLDUNTIL=9": api.ErrForm, "HOLDUNTIL=1970-01-01": api.ErrForm,
		"HOLDUNTIL=1970-01-01T00:00:09": api.ErrForm, "HOLDUNTIL=1970-01-01T00:00:09+0100": api.ErrForm,
		"BY": api.ErrForm, "BY=": api.ErrForm, "BY=1": api.ErrForm, "BY=1;": api.ErrForm, "BY=;R": api.ErrForm, "BY=1;T": api.ErrForm, "BY=1;TR": api.ErrForm,
		"BY=1;RTT": api.ErrForm, "BY=1;RN": api.ErrForm, "BY=1;R;": api.ErrForm, "BY=1R": api.ErrForm, "BY=+1;R": api.ErrForm, "BY=--1;N": api.ErrForm,
		"BY=-;N": api.ErrForm, "BY=1000000000;N": api.ErrForm, "BY=-0000000001;N": api.ErrForm, "BY=0;X": api.ErrForm, "BY=1-;N": api.ErrForm,
		"MT-PRIORITY": api.ErrForm, "MT-PRIORITY=": api.ErrForm, "MT-PRIORITY=+1": api.ErrForm, "MT-PRIORITY=-": api.ErrForm,
		"MT-PRIORITY=1000000000": api.ErrForm, "MT-PRIORITY=-1000000000": api.ErrForm, "MT-PRIORITY=--1": api.ErrForm,

		"HOLDFOR=0": api.ErrRange, "HOLDFOR=1048577": api.ErrRange, "HOLDFOR=999999999": api.ErrRange, "HOLDFOR=000000000": api.ErrRange,
		"HOLDUNTIL=1969-12-31T23:59:59Z": api.ErrRange, "HOLDUNTIL=1970-01-01T00:00:00+00:01": api.ErrRange,
		"HOLDUNTIL=9999-12-31T23:59:59-00:01": api.ErrRange, "HOLDUNTIL=2001-02-29t00:00:00z": api.ErrRange, "HOLDUNTIL=2000-01-01T24:00:00Z": api.ErrRange,
		"BY=0;R": api.ErrRange, "BY=-0;RT": api.ErrRange, "BY=-1;R": api.ErrRange, "BY=-999999999;rt": api.ErrRange,
		"MT-PRIORITY=10": api.ErrRange, "MT-PRIORITY=-10": api.ErrRange, "MT-PRIORITY=999999999": api.ErrRange, "MT-PRIORITY=-999999999": api.ErrRange,

		"ENVID=" + x(101): api.ErrLong, "ENVID=" + strings.Repeat("+20", 101): api.ErrLong, "ENVID=" + x(9999): api.ErrLong,

		"HOLDFOR=1 " + until: api.ErrState, until + " HOLDFOR=1": api.ErrState, until + " SIZE=1 HOLDFOR=1 BODY=7BIT": api.ErrState,
		"HOLDFOR=1 HOLDUNTIL=1970-01-01T00:00:00Z": api.ErrState,

		// The first word that is wrong, and what is wrong with it ahead of all else.
		"X SIZE=": api.ErrKind, "SIZE= X": api.ErrForm, "SIZE=1 X SIZE=1": api.ErrKind, "SIZE=1 SIZE=1 X": api.ErrTwice, "X X": api.ErrKind,
		"HOLDFOR=0 SIZE=": api.ErrRange, "ENVID=" + x(101) + " SIZE=": api.ErrLong, "SIZE= HOLDFOR=0": api.ErrForm, "SIZE= SIZE=": api.ErrForm,
		"HOLDFOR=0 HOLDFOR=1": api.ErrRange, "HOLDFOR=1 HOLDFOR=0": api.ErrTwice, "HOLDFOR=1 " + until + " ": api.ErrForm,
		"HOLDFOR=1 " + until + " X": api.ErrKind, "HOLDFOR=1 " + until + " HOLDFOR=1": api.ErrTwice, "HOLDFOR=1 " + until + " MT-PRIORITY=10": api.ErrRange,
		"HOLDFOR=1 " + until + " ENVID=" + x(101): api.ErrLong,
	} {
		if got, e := ParseMail(s); got != (Mail{}) || e != want {
			t.Errorf("ParseMail(%.80q): %+v, %d, not %d", s, got, e, want)
		}
	}
}

// P5.2: what no text tells of a message.
func TestRightMail(t *testing.T) {
	all := func(change func(m *Mail)) Mail {
		m := Mail{Has{true, true, false, true, true}, 4, 3, 0, 2, 1, "7BIT", "FULL", "d", "N"}
		change(&m)
		return m
	}
	for i, k := range []struct {
		m    Mail
		want api.Errno
	}{
		{all(func(m *Mail) {}), api.OK},
		{all(func(m *Mail) { *m = Mail{} }), api.OK},

		{all(func(m *Mail) { m.Body = "7bit" }), api.ErrForm},
		{all(func(m *Mail) { m.Body = "8BIT" }), api.ErrForm},
		{all(func(m *Mail) { m.Body = "FULL" }), api.ErrForm},
		{all(func(m *Mail) { m.Body = " " }), api.ErrForm},
		{all(func(m *Mail) { m.Ret = "full" }), api.ErrForm},
		{all(func(m *Mail) { m.Ret = "HDRS " }), api.ErrForm},
		{all(func(m *Mail) { m.Mode = "" }), api.ErrForm},
		{all(func(m *Mail) { m.Mode = "r" }), api.ErrForm},
		{all(func(m *Mail) { m.Mode = "T" }), api.ErrForm},
		{all(func(m *Mail) { m.Mode = "RN" }), api.ErrForm},
		{all(func(m *Mail) { m.Has.By = false }), api.ErrForm},
		{all(func(m *Mail) { m.Has.By, m.By = false, 0 }), api.ErrForm},
		{all(func(m *Mail) { m.Has.By, m.Mode = false, "" }), api.ErrForm},
		{all(func(m *Mail) { m.Has.Size = false }), api.ErrForm},
		{all(func(m *Mail) { m.Has.HoldFor = false }), api.ErrForm},
		{all(func(m *Mail) { m.Has.Priority = false }), api.ErrForm},
		{all(func(m *Mail) { m.Has.Priority, m.Priority = false, -1 }), api.ErrForm},
		{all(func(m *Mail) { m.HoldUntil = 1 }), api.ErrForm},
		{all(func(m *Mail) { m.HoldUntil = -1 }), api.ErrForm},
		{Mail{Mode: "R"}, api.ErrForm},
		{Mail{Has: Has{By: true}}, api.ErrForm},

		{all(func(m *Mail) { m.Size = -1 }), api.ErrRange},
		{all(func(m *Mail) { m.Size = 1000000000 }), api.ErrRange},
		{all(func(m *Mail) { m.Size = 999999999 }), api.OK},
		{all(func(m *Mail) { m.HoldFor = 0 }), api.ErrRange},
		{all(func(m *Mail) { m.HoldFor = -1 }), api.ErrRange},
		{all(func(m *Mail) { m.HoldFor = 1<<20 + 1 }), api.ErrRange},
		{all(func(m *Mail) { m.HoldFor = 1 << 20 }), api.OK},
		{Mail{Has: Has{HoldUntil: true}, HoldUntil: -1}, api.ErrRange},
		{Mail{Has: Has{HoldUntil: true}, HoldUntil: 253402300800}, api.ErrRange},
		{Mail{Has: Has{HoldUntil: true}, HoldUntil: 253402300799}, api.OK},
		{all(func(m *Mail) { m.By = 1000000000 }), api.ErrRange},
		{all(func(m *Mail) { m.By = -1000000000 }), api.ErrRange},
		{all(func(m *Mail) { m.By = -999999999 }), api.OK},
		{all(func(m *Mail) { m.By, m.Mode = 0, "R" }), api.ErrRange},
		{all(func(m *Mail) { m.By, m.Mode = -1, "RT" }), api.ErrRange},
		{all(func(m *Mail) { m.By, m.Mode = 0, "NT" }), api.OK},
		{all(func(m *Mail) { m.By, m.Mode = 1, "RT" }), api.OK},
		{all(func(m *Mail) { m.Priority = 10 }), api.ErrRange},
		{all(func(m *Mail) { m.Priority = -10 }), api.ErrRange},
		{all(func(m *Mail) { m.Priority = -9 }), api.OK},
		{all(func(m *Mail) { m.Priority = 9 }), api.OK},
		{all(func(m *Mail) { m.Priority = -1 << 63 }), api.ErrRange},

		{all(func(m *Mail) { m.Envid = x(101) }), api.ErrLong},
		{all(func(m *Mail) { m.Envid = strings.Repeat("\xff", 100) }), api.OK},
		{all(func(m *Mail) { m.Has.HoldUntil = true }), api.ErrState},
		{all(func(m *Mail) { m.Has.HoldUntil, m.HoldUntil = true, 9 }), api.ErrState},

		// The first that applies.
		{all(func(m *Mail) { m.Size, m.Ret = -1, "x" }), api.ErrForm},
		{all(func(m *Mail) { m.Size, m.HoldUntil = -1, 1 }), api.ErrForm},
		{all(func(m *Mail) { m.Envid, m.HoldUntil = x(101), 1 }), api.ErrForm},
		{all(func(m *Mail) { m.Envid, m.By = x(101), 1<<40 }), api.ErrRange},
		{all(func(m *Mail) { m.Has.HoldUntil, m.HoldUntil = true, -1 }), api.ErrRange},
		{all(func(m *Mail) { m.Has.HoldUntil, m.Envid = true, x(101) }), api.ErrLong},
		{all(func(m *Mail) { m.Has.HoldUntil, m.Body = true, "x" }), api.ErrForm},
	} {
		if e := RightMail(k.m); e != k.want {
			t.Errorf("%d: RightMail(%+v): %d, not %d", i, k.m, e, k.want)
		}
		text, e := PrintMail(k.m)
		if e != k.want || e != api.OK && text != "" {
			t.Errorf("%d: PrintMail(%+v): %q, %d, not %d", i, k.m, text, e, k.want)
		}
		if got, e := ParseMail(text); k.want == api.OK && (got != k.m || e != api.OK) {
			t.Errorf("%d: ParseMail(%q): %+v, %d, not %+v", i, text, got, e, k.m)
		}
	}
}

// rcpts: texts, what they tell, and how it is printed.
var rcpts = []struct {
	s     string
	r     Rcpt
	print string
}{
	{"", Rcpt{}, ""},
	{"NOTIFY=NEVER", Rcpt{Notify: "N"}, "NOTIFY=NEVER"},
	{"notify=never", Rcpt{Notify: "N"}, "NOTIFY=NEVER"},
	{"NOTIFY=SUCCESS", Rcpt{Notify: "S"}, "NOTIFY=SUCCESS"},
	{"NOTIFY=failure", Rcpt{Notify: "F"}, "NOTIFY=FAILURE"},
	{"NOTIFY=Delay", Rcpt{Notify: "D"}, "NOTIFY=DELAY"},
	{"NOTIFY=DELAY,FAILURE,SUCCESS", Rcpt{Notify: "SFD"}, "NOTIFY=SUCCESS,FAILURE,DELAY"},
	{"NOTIFY=FAILURE,SUCCESS", Rcpt{Notify: "SF"}, "NOTIFY=SUCCESS,FAILURE"},
	{"NOTIFY=delay,success", Rcpt{Notify: "SD"}, "NOTIFY=SUCCESS,DELAY"},
	{"NOTIFY=FAILURE,DELAY", Rcpt{Notify: "FD"}, "NOTIFY=FAILURE,DELAY"},
	{"ORCPT=rfc822;a", Rcpt{Kind: "RFC822", Orcpt: "a"}, "ORCPT=RFC822;a"},
	{"orcpt=9;+3B;+20", Rcpt{Kind: "9", Orcpt: ";; "}, "ORCPT=9;;;+20"},
	{"ORCPT=azAZ09;B@c.D", Rcpt{Kind: "AZAZ09", Orcpt: "B@c.D"}, "ORCPT=AZAZ09;B@c.D"},
	{"ORCPT=" + x(32) + ";" + x(256), Rcpt{Kind: strings.Repeat("X", 32), Orcpt: x(256)}, "ORCPT=" + strings.Repeat("X", 32) + ";" + x(256)},
	{"ORCPT=a;" + strings.Repeat("+3D", 256), Rcpt{Kind: "A", Orcpt: strings.Repeat("=", 256)}, "ORCPT=A;" + strings.Repeat("+3D", 256)},
	{"ORCPT=a;b NOTIFY=DELAY", Rcpt{"D", "A", "b"}, "NOTIFY=DELAY ORCPT=A;b"},
	{"NOTIFY=NEVER ORCPT=a;b", Rcpt{"N", "A", "b"}, "NOTIFY=NEVER ORCPT=A;b"},
}

// P5.1, P5.2, P5.3: what may be said of a recipient, and back.
func TestRcpt(t *testing.T) {
	for _, k := range rcpts {
		if got, e := ParseRcpt(k.s); got != k.r || e != api.OK {
			t.Errorf("ParseRcpt(%.80q): %+v, %d, not %+v", k.s, got, e, k.r)
		}
		if e := RightRcpt(k.r); e != api.OK {
			t.Errorf("RightRcpt(%+v): %d", k.r, e)
		}
		if got, e := PrintRcpt(k.r); got != k.print || e != api.OK {
			t.Errorf("PrintRcpt(%+v): %.80q, %d, not %.80q", k.r, got, e, k.print)
		}
		if got, e := ParseRcpt(k.print); got != k.r || e != api.OK {
			t.Errorf("ParseRcpt(%.80q): %+v, %d, not %+v", k.print, got, e, k.r)
		}
	}
}

// P5.1: wrong texts of recipients.
func TestRcptWrong(t *testing.T) {
	for s, want := range map[string]api.Errno{
		"X": api.ErrKind, "SIZE=1": api.ErrKind, "BODY=7BIT": api.ErrKind, "=NEVER": api.ErrKind, "NOTIF\u00ff=NEVER": api.ErrKind, "O\u0280CPT=a;b": api.ErrKind,
		" ": api.ErrForm, " NOTIFY=NEVER": api.ErrForm, "NOTIFY=NEVER ": api.ErrForm, "NOTIFY=NEVER  ORCPT=a;b": api.ErrForm,
		"NOTIFY=NEVER NOTIFY=NEVER": api.ErrTwice, "NOTIFY=NEVER notify=": api.ErrTwice, "ORCPT=a;b Orcpt=c;d": api.ErrTwice,

		"NOTIFY": api.ErrForm, "NOTIFY=": api.ErrForm, "NOTIFY=N": api.ErrForm, "NOTIFY=SUCCES": api.ErrForm, "NOTIFY=\u017fUCCESS": api.ErrForm,
		"NOTIFY=NEVER,": api.ErrForm, "NOTIFY=NEVER,NEVER": api.ErrForm, "NOTIFY=NEVER,DELAY": api.ErrForm, "NOTIFY=DELAY,NEVER": api.ErrForm,
		"NOTIFY=DELAY,": api.ErrForm, "NOTIFY=,DELAY": api.ErrForm, "NOTIFY=DELAY,,FAILURE": api.ErrForm, "NOTIFY=DELAY,DELAY": api.ErrForm,
		"NOTIFY=SUCCESS,FAILURE,DELAY,success": api.ErrForm, "NOTIFY=DELAY;FAILURE": api.ErrForm, "NOTIFY=DELAY, FAILURE": api.ErrForm, "NOTIFY=,": api.ErrForm,
		"ORCPT": api.ErrForm, "ORCPT=": api.ErrForm, "ORCPT=a": api.ErrForm, "ORCPT=a;": api.ErrForm, "ORCPT=;b": api.ErrForm, "ORCPT=;": api.ErrForm,
		"ORCPT=a-b;c": api.ErrForm, "ORCPT=\u00e9;c": api.ErrForm, "ORCPT=a;b=c": api.ErrForm, "ORCPT=a;+": api.ErrForm, "ORCPT=a;+2b": api.ErrForm,
		"ORCPT=" + x(33) + ";b": api.ErrForm, "ORCPT=" + x(33) + ";" + x(257): api.ErrForm, "ORCPT=a;" + x(257) + "+": api.ErrForm, "ORCPT=a ;b": api.ErrForm,
		"ORCPT=\u212a;b": api.ErrForm,

		"ORCPT=a;" + x(257): api.ErrLong, "ORCPT=a;" + strings.Repeat("+00", 257): api.ErrLong,

		"ORCPT=a;" + x(257) + " X": api.ErrLong, "X ORCPT=a;" + x(257): api.ErrKind, "NOTIFY= NOTIFY=": api.ErrForm,
		"ORCPT=a;b X ORCPT=a;b": api.ErrKind, "ORCPT=a;b ORCPT=a;b X": api.ErrTwice,
	} {
		if got, e := ParseRcpt(s); got != (Rcpt{}) || e != want {
			t.Errorf("ParseRcpt(%.80q): %+v, %d, not %d", s, got, e, want)
		}
	}
}

// P5.2: what no text tells of a recipient.
func TestRightRcpt(t *testing.T) {
	notify := regexp.MustCompile(`\A(N|S?F?D?)\z`)
	letters := "NSFDsX, "
	all := []string{""}
	for from := 0; len(all[len(all)-1]) < 4; {
		to := len(all)
		for _, s := range all[from:to] {
			for i := range len(letters) {
				all = append(all, s+letters[i:i+1])
			}
		}
		from = to
	}
	check := func(r Rcpt, want api.Errno) {
		t.Helper()
		if e := RightRcpt(r); e != want {
			t.Errorf("RightRcpt(%+v): %d, not %d", r, e, want)
		}
		if text, e := PrintRcpt(r); e != want || (text == "") != (e != api.OK || r == Rcpt{}) {
			t.Errorf("PrintRcpt(%+v): %q, %d, not %d", r, text, e, want)
		}
	}
	for _, s := range all {
		want := api.ErrForm
		if notify.MatchString(s) {
			want = api.OK
		}
		check(Rcpt{Notify: s}, want)
	}
	for n := range 256 {
		b, want := string([]byte{byte(n)}), api.ErrForm
		if 'A' <= n && n <= 'Z' || '0' <= n && n <= '9' {
			want = api.OK
		}
		check(Rcpt{Kind: b, Orcpt: "a"}, want)
		check(Rcpt{Kind: "A" + b, Orcpt: b}, want)
		check(Rcpt{Kind: "A", Orcpt: b}, api.OK)
	}
	check(Rcpt{Kind: "A"}, api.ErrForm)
	check(Rcpt{Orcpt: "a"}, api.ErrForm)
	check(Rcpt{Orcpt: x(257)}, api.ErrForm)
	check(Rcpt{Notify: "N", Kind: "A"}, api.ErrForm)
	check(Rcpt{Kind: strings.Repeat("A", 32), Orcpt: x(256)}, api.OK)
	check(Rcpt{Kind: strings.Repeat("A", 33), Orcpt: "a"}, api.ErrForm)
	check(Rcpt{Kind: strings.Repeat("A", 33), Orcpt: x(257)}, api.ErrForm)
	check(Rcpt{Kind: "A", Orcpt: x(257)}, api.ErrLong)
	check(Rcpt{Notify: "n", Kind: "A", Orcpt: x(257)}, api.ErrForm)
	check(Rcpt{Notify: "N", Kind: "a", Orcpt: x(257)}, api.ErrForm)
}

// By the words of the chapter alone: what a word of a message looks like, but for ranges and lengths.
var wordForm = regexp.MustCompile(`\A(?:(?i:size)=(\d{1,9})|(?i:body)=(?i:7bit|8bitmime)|(?i:ret)=(?i:full|hdrs)|` +
	`(?i:envid)=(?:[!-*,-<>-~]|\+[0-9A-F]{2})+|(?i:holdfor)=(\d{1,9})|(?i:holduntil)=([-+:\dTZtz]+)|` +
	`(?i:by)=(-?\d{1,9});((?i:[rn]t?))|(?i:mt-priority)=(-?\d{1,9}))\z`)

// plainWord answers by that form what is wrong with a word of a message that stands alone.
func plainWord(s string) api.Errno {
	key, _, _ := strings.Cut(s, "=")
	if s == "" {
		return api.ErrForm
	}
	if !regexp.MustCompile(`\A(?i:size|body|ret|envid|holdfor|holduntil|by|mt-priority)\z`).MatchString(key) {
		return api.ErrKind
	}
	m := wordForm.FindStringSubmatch(s)
	if m == nil {
		return api.ErrForm
	}
	number := func(s string) int {
		n, _ := strconv.Atoi(s)
		return n
	}
	beyond := m[2] != "" && (number(m[2]) < 1 || number(m[2]) > 1<<20) ||
		m[4] != "" && strings.ContainsAny(m[5], "Rr") && number(m[4]) < 1 ||
		m[6] != "" && (number(m[6]) < -9 || number(m[6]) > 9)
	if beyond {
		return api.ErrRange
	}
	if m[3] != "" {
		return plainTime(strings.ToUpper(m[3]))
	}
	return api.OK
}

// plainTime answers if a text of signs of a time tells one.
func plainTime(s string) api.Errno {
	if !regexp.MustCompile(`\A\d{4}-\d\d-\d\dT\d\d:\d\d:\d\d(Z|[-+]\d\d:\d\d)\z`).MatchString(s) {
		return api.ErrForm
	}
	at, err := time.Parse("2006-01-02T15:04:05Z07:00", s)
	if err != nil || s[:4] < "1970" || at.Unix() < 0 || at.Unix() > 253402300799 {
		return api.ErrRange
	}
	return api.OK
}

// P5.1, P5.3: texts that are right but for one byte, which is changed, or laid in, or left out, are read by the plain form; and what is read is printed, and read the same.
func TestMailAll(t *testing.T) {
	for _, s := range []string{"size=90", "Body=7Bit", "bODY=8bitmimE", "RET=full", "ret=HDRS", "envid=a+2B", "HOLDFOR=1048576", "holduntil=2000-02-29T00:00:00Z",
		"by=-1;NT", "by=10;R", "By=60;rT", "mt-priority=-9", "MT-PRIORITY=8"} {
		for at := range len(s) + 1 {
			for b := range 128 {
				one := string([]byte{byte(b)})
				some := []string{s[:at] + one + s[at:]}
				if at < len(s) {
					some = append(some, s[:at]+one+s[at+1:], s[:at]+s[at+1:])
				}
				for _, text := range some {
					checkMail(t, text)
				}
			}
		}
	}
}

// checkMail holds what is read of one word, or two, against the plain form, and reads it back.
func checkMail(t *testing.T, text string) {
	t.Helper()
	want := api.OK
	for _, word := range strings.Split(text, " ") {
		if e := plainWord(word); want == api.OK {
			want = e
		}
	}
	m, e := ParseMail(text)
	if text != "" && e != want || e != api.OK && m != (Mail{}) {
		t.Fatalf("ParseMail(%q): %+v, %d, not %d", text, m, e, want)
	}
	if e != api.OK {
		return
	}
	print, e := PrintMail(m)
	if again, f := ParseMail(print); e != api.OK || f != api.OK || again != m {
		t.Fatalf("%q: %+v, printed %q, %d, read %+v, %d", text, m, print, e, again, f)
	}
}

// P5.1, P5.2, P5.3: all ways in which words of a message may be said, or not, one behind the other.
func TestMailSome(t *testing.T) {
	words := []string{"SIZE=0", "BODY=7BIT", "RET=HDRS", "ENVID=+20", "HOLDFOR=5", "HOLDUNTIL=1970-01-01T00:00:00Z", "BY=0;N", "MT-PRIORITY=0"}
	for set := range 1 << len(words) {
		var there, back []string
		for i, word := range words {
			if set>>i&1 == 1 {
				there, back = append(there, word), append([]string{word}, back...)
			}
		}
		m, e := ParseMail(strings.Join(back, " "))
		if set>>4&3 == 3 {
			if e != api.ErrState || m != (Mail{}) {
				t.Fatalf("%q: %+v, %d", back, m, e)
			}
			continue
		}
		if s, f := PrintMail(m); s != strings.Join(there, " ") || e != api.OK || f != api.OK {
			t.Fatalf("%q: %d, %q, %d", back, e, s, f)
		}
	}
}

// P5.1: all orders of some of the notices, each once, or one twice.
func TestNotify(t *testing.T) {
	names := []string{"SUCCESS", "FAILURE", "DELAY", "NEVER"}
	var walk func(l []int)
	walk = func(l []int) {
		count, said, wrong := [4]int{}, []string{}, false
		for _, i := range l {
			count[i]++
			wrong = wrong || count[i] > 1 || i == 3 && len(l) > 1
			said = append(said, names[i])
		}
		want := Rcpt{}
		for i, letter := range []string{"S", "F", "D", "N"} {
			if count[i] > 0 {
				want.Notify += letter
			}
		}
		e := api.OK
		if wrong || len(l) == 0 {
			want, e = Rcpt{}, api.ErrForm
		}
		text := "NOTIFY=" + strings.Join(said, ",")
		if got, f := ParseRcpt(text); got != want || f != e {
			t.Fatalf("ParseRcpt(%q): %+v, %d, not %+v, %d", text, got, f, want, e)
		}
		for i := range names {
			if len(l) < 4 {
				walk(append(l[:len(l):len(l)], i))
			}
		}
	}
	walk(nil)
}

// Rule 3: no answer is a piece of what is handed in.
func TestApart(t *testing.T) {
	within := func(part, whole string) bool {
		at, from := uintptr(unsafe.Pointer(unsafe.StringData(part))), uintptr(unsafe.Pointer(unsafe.StringData(whole)))
		return len(part) > 0 && at >= from && at < from+uintptr(len(whole))
	}
	s := strings.Clone("BODY=7BIT RET=FULL ENVID=ab BY=1;RT")
	m, e := ParseMail(s)
	if e != api.OK || within(m.Body, s) || within(m.Ret, s) || within(m.Envid, s) || within(m.Mode, s) {
		t.Errorf("ParseMail(%q): %+v, %d, or a piece of it", s, m, e)
	}
	s = strings.Clone("NOTIFY=DELAY ORCPT=RFC822;ab")
	r, e := ParseRcpt(s)
	if e != api.OK || within(r.Notify, s) || within(r.Kind, s) || within(r.Orcpt, s) {
		t.Errorf("ParseRcpt(%q): %+v, %d, or a piece of it", s, r, e)
	}
}
