package command

import (
	"regexp"
	"slices"
	"strings"
	"testing"
	"unsafe"

	"duepost/api"
	"duepost/param"
	"duepost/path"
)

// x answers so many letters.
func x(n int) string { return strings.Repeat("x", n) }

// host answers a domain of so many bytes.
func host(n int) string { return strings.Repeat("a.", n/2-1) + x(2+n%2) }

// each answers all bytes, as texts of one.
func each() []string {
	all := make([]string, 256)
	for n := range all {
		all[n] = string([]byte{byte(n)})
	}
	return all
}

// lines: what is read, and how it is printed.
var lines = []struct {
	s     string
	c     Command
	print string
}{
	{"HELO a", Command{Verb: "HELO", Arg: "a"}, "HELO a"},
	{"helo a.b", Command{Verb: "HELO", Arg: "a.b"}, "HELO a.b"},
	{"HeLo Mail.EXAMPLE.com  ", Command{Verb: "HELO", Arg: "mail.example.com"}, "HELO mail.example.com"},
	{"EHLO 1.2-3", Command{Verb: "EHLO", Arg: "1.2-3"}, "EHLO 1.2-3"},
	{"ehlo " + strings.ToUpper(host(255)), Command{Verb: "EHLO", Arg: host(255)}, "EHLO " + host(255)},

	{"mail from:<a@b> size=1", Command{Verb: "MAIL", Path: path.Path{Local: "a", Domain: "b"}, Mail: param.Mail{Has: param.Has{Size: true}, Size: 1}}, "MAIL FROM:<a@b> SIZE=1"},
	{"MAIL FROM:<>", Command{Verb: "MAIL"}, "MAIL FROM:<>"},
	{"mAiL fRoM:<> ", Command{Verb: "MAIL"}, "MAIL FROM:<>"},
	{"MAIL FROM:<A@B>", Command{Verb: "MAIL", Path: path.Path{Local: "A", Domain: "b"}}, "MAIL FROM:<A@b>"},
	{"MAIL FROM:<postmaster@b>", Command{Verb: "MAIL", Path: path.Path{Local: "postmaster", Domain: "b"}}, "MAIL FROM:<postmaster@b>"},
	{`MAIL FROM:<"a> b "@C> RET=hdrs BODY=8bitmime   `, Command{Verb: "MAIL", Path: path.Path{Local: "a> b ", Domain: "c"}, Mail: param.Mail{Body: "8BITMIME", Ret: "HDRS"}}, `MAIL FROM:<"a> b "@c> BODY=8BITMIME RET=HDRS`},
	{"MAIL FROM:<> HOLDFOR=60 BY=-5;n MT-PRIORITY=-9", Command{Verb: "MAIL", Mail: param.Mail{Has: param.Has{HoldFor: true, By: true, Priority: true}, HoldFor: 60, By: -5, Priority: -9, Mode: "N"}}, "MAIL FROM:<> HOLDFOR=60 BY=-5;N MT-PRIORITY=-9"},

	{"RCPT TO:<a@b>", Command{Verb: "RCPT", Path: path.Path{Local: "a", Domain: "b"}}, "RCPT TO:<a@b>"},
	{"rcpt to:<PostMaster>", Command{Verb: "RCPT", Path: path.Path{Local: "postmaster"}}, "RCPT TO:<postmaster>"},
	{"Rcpt tO:<a@b> orcpt=x;+41 notify=delay,success", Command{Verb: "RCPT", Path: path.Path{Local: "a", Domain: "b"}, Rcpt: param.Rcpt{Notify: "SD", Kind: "X", Orcpt: "A"}}, "RCPT TO:<a@b> NOTIFY=SUCCESS,DELAY ORCPT=X;A"},
	{"RCPT TO:<postmaster> NOTIFY=NEVER", Command{Verb: "RCPT", Path: path.Path{Local: "postmaster"}, Rcpt: param.Rcpt{Notify: "N"}}, "RCPT TO:<postmaster> NOTIFY=NEVER"},

	{"DATA", Command{Verb: "DATA"}, "DATA"},
	{"data", Command{Verb: "DATA"}, "DATA"},
	{"rSET  ", Command{Verb: "RSET"}, "RSET"},
	{"Quit ", Command{Verb: "QUIT"}, "QUIT"},

	{"NOOP", Command{Verb: "NOOP"}, "NOOP"},
	{"noop    ", Command{Verb: "NOOP"}, "NOOP"},
	{"NOOP a  B ~  ", Command{Verb: "NOOP", Arg: "a  B ~"}, "NOOP a  B ~"},
	{"HELP", Command{Verb: "HELP"}, "HELP"},
	{"help mail", Command{Verb: "HELP", Arg: "mail"}, "HELP mail"},
	{"HELP !", Command{Verb: "HELP", Arg: "!"}, "HELP !"},
	{"VRFY a", Command{Verb: "VRFY", Arg: "a"}, "VRFY a"},
	{"vrfy <A@B> ", Command{Verb: "VRFY", Arg: "<A@B>"}, "VRFY <A@B>"},
	{"VRFY " + x(505), Command{Verb: "VRFY", Arg: x(505)}, "VRFY " + x(505)},
}

// P6.1, P6.2, P6.3: what a line tells, and back, with blanks behind it, too.
func TestLines(t *testing.T) {
	for _, k := range lines {
		for _, s := range []string{k.s, k.s + " ", k.s + "   ", k.print, k.print + " ", k.print + strings.Repeat(" ", 600)} {
			if c, e := Parse(s); c != k.c || e != api.OK {
				t.Errorf("Parse(%.80q): %+v, %d, not %+v", s, c, e, k.c)
			}
		}
		if s, e := Print(k.c); s != k.print || e != api.OK {
			t.Errorf("Print(%+v): %.80q, %d, not %.80q", k.c, s, e, k.print)
		}
	}
}

// P6.1: Verbs, in their order; and each list is the caller's.
func TestVerbs(t *testing.T) {
	want := []string{"HELO", "EHLO", "MAIL", "RCPT", "DATA", "RSET", "QUIT", "NOOP", "VRFY", "HELP"}
	l := Verbs()
	if !slices.Equal(l, want) {
		t.Errorf("Verbs(): %q", l)
	}
	for i := range l {
		l[i] = "x"
	}
	if l = Verbs(); !slices.Equal(l, want) {
		t.Errorf("Verbs(), changed: %q", l)
	}
}

// P6.1: Verb of any text.
func TestVerb(t *testing.T) {
	for s, want := range map[string]string{
		"": "", " ": "", " MAIL": "", "MAIL": "MAIL", "mail": "MAIL", "mail from:<a@b>": "MAIL", "mail  x": "MAIL", "mail ": "MAIL",
		"mail\tx": "MAIL\tX", "mail\r\n": "MAIL\r\n", "from:<a> b": "FROM:<A>", "zyxwvutsrqponmlkjihgfedcba": "ZYXWVUTSRQPONMLKJIHGFEDCBA", "`{@[09": "`{@[09", "a\x00b c": "A\x00B",
		"\u017f\u00e9 x": "\u017f\u00e9", "\xff\xe1": "\xff\xe1", "noop\u00a0x": "NOOP\u00a0X",
	} {
		if got := Verb(s); got != want {
			t.Errorf("Verb(%q): %q, not %q", s, got, want)
		}
	}
}

// P6.1: what no line tells, and why.
func TestParseWrong(t *testing.T) {
	long, wide := "<"+x(65)+"@b>", "<a@"+host(256)+">"
	for want, all := range map[api.Errno][]string{
		api.ErrKind: {
			"", " ", "   ", "X", "MAI", "MAILS", "MAIL:", "MAILFROM:<a@b>", " MAIL FROM:<a@b>", " DATA", "MAIL\tFROM:<a@b>", "DATA\r", "DATA\r\n", "DATA\x00", "NOOP,", "EXPN a", "AUTH", "STARTTLS", "-DATA",
			"\u1e40AIL FROM:<a@b>", "R\u017fET", "NOOP\u00a0", "mail\xa0", "QUI T", "X " + long,

			"MAIL FROM:<a@b> X", "MAIL FROM:<a@b> NOTIFY=NEVER", "RCPT TO:<a@b> SIZE=1", "MAIL FROM:<> X SIZE=", "RCPT TO:<postmaster> =", "RCPT TO:<a@b> \u017fIZE=1", "MAIL FROM:<a@b> SIZE=1 <c@d>",
		},
		api.ErrForm: {
			"HELO", "HELO ", "EHLO", "HELO  a", "HELO a b", "HELO -a", "HELO a.", "HELO .", "HELO [1.2.3.4]", "HELO a\t", "HELO \u212a", "HELO a\x00", "EHLO " + x(64), "HELO a_b", "HELO a@b", "HELO <a@b>",
			"HELO " + host(256), "EHLO " + x(256), "HELO " + host(4000),
			"DATA x", "DATA  x", "RSET 0", "QUIT QUIT", "DATA \t", "QUIT \x00",
			"VRFY", "VRFY ", "VRFY    ", "VRFY  a", "NOOP  a", "HELP  a", "NOOP \t", "NOOP a\tb", "NOOP a\x7f", "NOOP \x1fa", "HELP \u00e9", "VRFY a\n", "VRFY \x00", "NOOP a\x80", "NOOP a\t ",

			"MAIL", "MAIL ", "MAIL FROM", "MAIL FROM:", "MAIL FROM: ", "MAIL FROM <a@b>", "MAIL FROM: <a@b>", "MAIL  FROM:<a@b>", "MAIL FROM :<a@b>", "MAIL FROM;<a@b>", "MAIL <a@b>", "MAIL TO:<a@b>", "MAIL FR", "MAIL :<a@b>", "MAIL FROMM:<a@b>", "MAIL ROM:<a@b>", "MAIL\u0020\u0020", "MAIL FROM:FROM:<a@b>",
			"MAIL FROM:a@b", "MAIL FROM:<a@b", "MAIL FROM:<", "MAIL FROM:<a>", "MAIL FROM:<@b>", "MAIL FROM:<a@-b>", `MAIL FROM:<"a@b>`, "MAIL FROM:<a b@c>", "MAIL FROM:<a@" + x(64) + ">",
			"MAIL FROM:<postmaster>", "MAIL FROM:<POSTMASTER>", "MAIL FROM:<postmaster> SIZE=1", "MAIL FROM:<Postmaster> X",
			"MAIL FROM:<a@b>x", "MAIL FROM:<a@b>SIZE=1", "MAIL FROM:<a@b>>", "MAIL FROM:<a@b>\t", "MAIL FROM:<a@b>\tSIZE=1", "MAIL FROM:<a@b>\x00", "MAIL FROM:<><>", "MAIL FROM:<a@b>X=1",
			"MAIL FROM:<a@b>  SIZE=1", "MAIL FROM:<a@b> SIZE=1  RET=FULL", "MAIL FROM:<a@b> SIZE=", "MAIL FROM:<a@b> SIZE", "MAIL FROM:<a@b> SIZE=x", "MAIL FROM:<a@b> SIZE=1\r", "MAIL FROM:<a@b> BY=1",

			"RCPT", "RCPT ", "RCPT TO", "RCPT TO:", "RCPT TO: ", "RCPT TO <a@b>", "RCPT TO: <a@b>", "RCPT  TO:<a@b>", "RCPT FROM:<a@b>", "RCPT T:<a@b>", "RCPT <a@b>", "RCPT TOO:<a@b>",
			"RCPT TO:<>", "RCPT TO:<> ", "RCPT TO:<> NOTIFY=NEVER", "RCPT TO:<> X", "RCPT TO:a@b", "RCPT TO:<a@b", "RCPT TO:<a>", "RCPT TO:<postmaster", "RCPT TO:<postmasters>", `RCPT TO:<"postmaster">`,
			"RCPT TO:<a@b>x", "RCPT TO:<a@b>NOTIFY=NEVER", "RCPT TO:<postmaster>,<a@b>", "RCPT TO:<a@b>\t", "RCPT TO:<a@b>  NOTIFY=NEVER", "RCPT TO:<a@b> NOTIFY=", "RCPT TO:<a@b> NOTIFY=NEVER,DELAY", "RCPT TO:<a@b> ORCPT=a",

			// The form is asked from the left, a path's ahead of its lengths.
			"MAIL FROM;" + long, "MAIL FROM:" + long[:len(long)-1], "RCPT FROM:" + wide, "RCPT TO:" + wide[:len(wide)-1] + ".>", "MAIL FROM:<a@b>x SIZE=1 SIZE=1", "MAIL FROM:<a@b>  X", "RCPT TO:<>  SIZE=1",
		},
		api.ErrLong: {
			"MAIL FROM:" + long, "MAIL FROM:" + long + "x", "MAIL FROM:" + long + " X", "MAIL FROM:" + wide, "RCPT TO:" + long, "RCPT TO:" + wide + "  ", "RCPT TO:" + wide + "\x00", "RCPT TO:<" + x(65) + "@" + host(256) + "> NOTIFY=",
			"MAIL FROM:<> ENVID=" + x(101), "RCPT TO:<a@b> ORCPT=a;" + x(257), "MAIL FROM:<a@b> ENVID=" + x(101) + " X",
		},
		api.ErrTwice: {"MAIL FROM:<a@b> SIZE=1 size=1", "RCPT TO:<a@b> NOTIFY=NEVER NOTIFY=NEVER"},
		api.ErrRange: {"MAIL FROM:<a@b> HOLDFOR=0", "MAIL FROM:<> MT-PRIORITY=10", "MAIL FROM:<> BY=0;R SIZE=x"},
		api.ErrState: {"MAIL FROM:<a@b> HOLDFOR=1 HOLDUNTIL=1970-01-01T00:00:00Z"},
	} {
		for _, s := range all {
			if c, e := Parse(s); c != (Command{}) || e != want {
				t.Errorf("Parse(%.80q): %+v, %d, not %d", s, c, e, want)
			}
		}
	}
}

// By the words of the chapter alone: what stands behind a verb, paths and words left aside.
var forms = map[string]*regexp.Regexp{
	"HELO": regexp.MustCompile(`(?s)\A (.*)\z`),
	"EHLO": regexp.MustCompile(`(?s)\A (.*)\z`),
	"MAIL": regexp.MustCompile(`(?s)\A [Ff][Rr][Oo][Mm]:(.*)\z`),
	"RCPT": regexp.MustCompile(`(?s)\A [Tt][Oo]:(.*)\z`),
	"DATA": regexp.MustCompile(`\A()\z`),
	"RSET": regexp.MustCompile(`\A()\z`),
	"QUIT": regexp.MustCompile(`\A()\z`),
	"NOOP": regexp.MustCompile(`\A(?: ([!-~]|[!-~][ -~]*[!-~]))?\z`),
	"VRFY": regexp.MustCompile(`\A(?: ([!-~]|[!-~][ -~]*[!-~]))\z`),
	"HELP": regexp.MustCompile(`\A(?: ([!-~]|[!-~][ -~]*[!-~]))?\z`),
}

var (
	atEnd = regexp.MustCompile(` *\z`)
	head  = regexp.MustCompile(`\A[^ ]*`)
)

// plainParse answers by the forms above what Parse is to answer of a text of bytes below 128.
func plainParse(s string) (Command, api.Errno) {
	s = s[:atEnd.FindStringIndex(s)[0]]
	word := head.FindString(s)
	c := Command{Verb: strings.ToUpper(word)}
	form, is := forms[c.Verb]
	if !is {
		return Command{}, api.ErrKind
	}
	m := form.FindStringSubmatch(s[len(word):])
	if m == nil {
		return Command{}, api.ErrForm
	}
	var e api.Errno
	switch c.Verb {
	case "MAIL", "RCPT":
		return plainPath(c, m[1])
	case "HELO", "EHLO":
		if c.Arg, e = path.Domain(m[1]); e != api.OK {
			return Command{}, api.ErrForm
		}
	default:
		c.Arg = m[1]
	}
	return c, api.OK
}

// plainPath answers what is to be told of a path, and of what is behind it.
func plainPath(c Command, s string) (Command, api.Errno) {
	p, rest, e := path.Parse(s)
	switch {
	case e != api.OK:
		return Command{}, e
	case rest != "" && (rest[0] != ' ' || rest == " "):
		return Command{}, api.ErrForm
	case c.Verb == "MAIL" && p == path.Path{Local: "postmaster"}, c.Verb == "RCPT" && p == path.Path{}:
		return Command{}, api.ErrForm
	}
	c.Path = p
	words := strings.TrimPrefix(rest, " ")
	if c.Verb == "MAIL" {
		c.Mail, e = param.ParseMail(words)
	} else {
		c.Rcpt, e = param.ParseRcpt(words)
	}
	if e != api.OK {
		return Command{}, e
	}
	return c, api.OK
}

// check holds what is read of a line against the plain forms, and what is printed of that against what was read.
func check(t *testing.T, s string) {
	t.Helper()
	want, wrong := plainParse(s)
	c, e := Parse(s)
	if c != want || e != wrong {
		t.Fatalf("Parse(%.80q): %+v, %d, not %+v, %d", s, c, e, want, wrong)
	}
	if e != api.OK {
		return
	}
	text, e := Print(c)
	again, f := Parse(text)
	if e == api.OK && (f != api.OK || again != c || len(text) > 510) || e != api.OK && e != api.ErrLong {
		t.Fatalf("Parse(%.80q): %+v, printed %.80q, %d, read %+v, %d", s, c, text, e, again, f)
	}
}

// P6.1, P6.3: lines with one byte that is changed, or laid in, or left out.
func TestParseBytes(t *testing.T) {
	for _, s := range []string{"HELO a.B", "ehlo c-d", "MAIL FROM:<>", "mail from:<a@b> size=1", `Mail From:<"a b"@c> RET=FULL`, "RCPT TO:<a@b>", "rcpt to:<postmaster> notify=never", "DATA", "rset", "Quit", "NOOP", "noop a b", "VRFY a", "vrfy a b", "HELP", "help mail"} {
		for at := range len(s) + 1 {
			check(t, s[:at])
			check(t, s[at:])
			for _, b := range each()[:128] {
				check(t, s[:at]+b+s[at:])
				check(t, s[:at]+b)
				if at < len(s) {
					check(t, s[:at]+b+s[at+1:])
					check(t, s[:at]+s[at+1:])
				}
			}
		}
	}
}

// P6.1: a byte above 126 stands in no line, wherever.
func TestParseHigh(t *testing.T) {
	for _, s := range []string{"HELO a.b", "MAIL FROM:<a@b> SIZE=1", "RCPT TO:<a@b> NOTIFY=NEVER", "DATA", "NOOP", "NOOP a b", "VRFY a b", "HELP a"} {
		for at := range len(s) + 1 {
			for _, b := range each()[127:] {
				if c, e := Parse(s[:at] + b + s[at:]); c != (Command{}) || e == api.OK {
					t.Fatalf("Parse(%q): %+v, %d", s[:at]+b+s[at:], c, e)
				}
			}
		}
	}
}

// P6.1, P6.3: lines of all ways in which pieces may be laid one behind the other.
func TestParsePieces(t *testing.T) {
	pieces := []string{" ", "FROM:", "to:", "<>", "<a@b>", "<Postmaster>", "size=1", "NOTIFY=NEVER", "a", "<" + x(65) + "@b>", "\t"}
	var lay func(s string, more int)
	lay = func(s string, more int) {
		check(t, s)
		for _, piece := range pieces {
			if more > 0 {
				lay(s+piece, more-1)
			}
		}
	}
	for _, verb := range append(Verbs(), "mail", "X", "") {
		lay(verb, 2)
		lay(verb+" ", 3)
	}
	for _, head := range []string{"MAIL FROM:", "rcpt to:"} {
		lay(head, 4)
	}
}

// P6.2: what is no command, and why.
func TestPrintWrong(t *testing.T) {
	ab, host0, words, who := path.Path{Local: "a", Domain: "b"}, path.Path{Local: "postmaster"}, param.Mail{Ret: "FULL"}, param.Rcpt{Notify: "N"}
	for want, all := range map[api.Errno][]Command{
		api.ErrKind: {
			{}, {Verb: "mail"}, {Verb: "X"}, {Verb: " "}, {Verb: "DATA "}, {Verb: " DATA"}, {Verb: "Data"}, {Verb: "EXPN", Arg: "a"}, {Verb: "MAIL FROM:"}, {Verb: "NOOP\x00"},
			{Arg: "a"}, {Path: ab}, {Verb: "x", Arg: x(600)}, {Verb: x(600)}, {Verb: "x", Path: path.Path{Local: x(65)}},
		},
		api.ErrForm: {
			{Verb: "HELO"}, {Verb: "EHLO"}, {Verb: "HELO", Arg: "A"}, {Verb: "HELO", Arg: "a.B"}, {Verb: "HELO", Arg: " a"}, {Verb: "HELO", Arg: "a "}, {Verb: "HELO", Arg: "-"}, {Verb: "EHLO", Arg: x(64)}, {Verb: "EHLO", Arg: host(256)}, {Verb: "EHLO", Arg: x(600)},
			{Verb: "HELO", Arg: "a", Path: ab}, {Verb: "HELO", Arg: "a", Mail: words}, {Verb: "HELO", Arg: "a", Rcpt: who}, {Verb: "EHLO", Path: ab},
			{Verb: "DATA", Arg: "a"}, {Verb: "DATA", Arg: " "}, {Verb: "RSET", Path: ab}, {Verb: "QUIT", Mail: words}, {Verb: "DATA", Rcpt: who}, {Verb: "RSET", Mail: param.Mail{Size: 1}}, {Verb: "QUIT", Mail: param.Mail{Has: param.Has{Priority: true}}}, {Verb: "DATA", Path: host0}, {Verb: "DATA", Rcpt: param.Rcpt{Kind: "x"}},
			{Verb: "VRFY"}, {Verb: "VRFY", Arg: " "}, {Verb: "VRFY", Arg: " a"}, {Verb: "VRFY", Arg: "a "}, {Verb: "NOOP", Arg: " "}, {Verb: "NOOP", Arg: " a"}, {Verb: "HELP", Arg: "a "}, {Verb: "HELP", Arg: "a\tb"}, {Verb: "NOOP", Arg: "\r\n"}, {Verb: "NOOP", Arg: "a\x7f"}, {Verb: "NOOP", Arg: "\x1f"}, {Verb: "HELP", Arg: "\u00e9"}, {Verb: "NOOP", Arg: "a\x00b"},
			{Verb: "NOOP", Path: ab}, {Verb: "HELP", Arg: "a", Mail: words}, {Verb: "VRFY", Arg: "a", Rcpt: who}, {Verb: "VRFY", Path: ab}, {Verb: "VRFY", Arg: "a", Path: ab},
			{Verb: "MAIL", Arg: "a"}, {Verb: "MAIL", Path: ab, Rcpt: who}, {Verb: "MAIL", Path: ab, Arg: " "}, {Verb: "MAIL", Path: host0}, {Verb: "MAIL", Path: path.Path{Local: "a"}}, {Verb: "MAIL", Path: path.Path{Domain: "b"}}, {Verb: "MAIL", Path: path.Path{Local: "a", Domain: "B"}}, {Verb: "MAIL", Path: path.Path{Local: "\x00", Domain: "b"}}, {Verb: "MAIL", Path: path.Path{Local: x(65)}},
			{Verb: "MAIL", Path: ab, Mail: param.Mail{Ret: "full"}}, {Verb: "MAIL", Mail: param.Mail{Size: 1}}, {Verb: "MAIL", Path: ab, Mail: param.Mail{Mode: "R"}},
			{Verb: "RCPT"}, {Verb: "RCPT", Rcpt: who}, {Verb: "RCPT", Path: ab, Arg: "a"}, {Verb: "RCPT", Path: ab, Mail: words}, {Verb: "RCPT", Path: ab, Mail: param.Mail{By: 1}}, {Verb: "RCPT", Path: path.Path{Local: "a"}}, {Verb: "RCPT", Path: path.Path{Local: "Postmaster"}}, {Verb: "RCPT", Path: path.Path{Domain: "b"}}, {Verb: "RCPT", Path: ab, Rcpt: param.Rcpt{Notify: "DF"}}, {Verb: "RCPT", Path: host0, Rcpt: param.Rcpt{Kind: "X"}},

			// The first that applies.
			{Verb: "NOOP", Arg: x(600) + " "}, {Verb: "NOOP", Arg: x(600), Path: ab}, {Verb: "MAIL", Arg: "a", Path: path.Path{Local: x(65), Domain: "b"}}, {Verb: "MAIL", Path: path.Path{Local: x(65), Domain: "b"}, Rcpt: who}, {Verb: "RCPT", Path: path.Path{Local: x(65), Domain: "b"}, Mail: words}, {Verb: "RCPT", Rcpt: param.Rcpt{Kind: "X", Orcpt: x(257)}},
			{Verb: "RCPT", Path: path.Path{Local: "a", Domain: "-"}, Rcpt: param.Rcpt{Kind: "X", Orcpt: x(257)}}, {Verb: "MAIL", Path: path.Path{Domain: "b"}, Mail: param.Mail{Has: param.Has{Size: true}, Size: -1}}, {Verb: "MAIL", Path: host0, Mail: param.Mail{Envid: x(101)}},
		},
		api.ErrLong: {
			{Verb: "MAIL", Path: path.Path{Local: x(65), Domain: "b"}}, {Verb: "MAIL", Path: path.Path{Local: "a", Domain: host(256)}}, {Verb: "RCPT", Path: path.Path{Local: x(65)}}, {Verb: "RCPT", Path: path.Path{Domain: host(256)}}, {Verb: "RCPT", Path: path.Path{Local: x(65), Domain: "-"}, Rcpt: param.Rcpt{Notify: "x"}}, {Verb: "MAIL", Path: path.Path{Local: x(65), Domain: "b"}, Mail: param.Mail{Size: 1}},
			{Verb: "MAIL", Mail: param.Mail{Envid: x(101)}}, {Verb: "RCPT", Path: ab, Rcpt: param.Rcpt{Kind: "X", Orcpt: x(257)}},
			{Verb: "NOOP", Arg: x(506)}, {Verb: "HELP", Arg: x(506)}, {Verb: "VRFY", Arg: x(506)}, {Verb: "VRFY", Arg: x(5000)}, {Verb: "RCPT", Path: ab, Rcpt: param.Rcpt{Kind: "X", Orcpt: strings.Repeat(" ", 256)}}, {Verb: "MAIL", Path: path.Path{Local: strings.Repeat(`"`, 64), Domain: host(255)}, Mail: param.Mail{Envid: x(100), Ret: "FULL"}},
		},
		api.ErrRange: {{Verb: "MAIL", Path: ab, Mail: param.Mail{Has: param.Has{Size: true}, Size: -1}}, {Verb: "MAIL", Mail: param.Mail{Has: param.Has{HoldFor: true}}}},
		api.ErrState: {{Verb: "MAIL", Path: ab, Mail: param.Mail{Has: param.Has{HoldFor: true, HoldUntil: true}, HoldFor: 1}}},
	} {
		for _, c := range all {
			if s, e := Print(c); s != "" || e != want {
				t.Errorf("Print(%+v): %.80q, %d, not %d", c, s, e, want)
			}
		}
	}
}

// P6.2: texts of just as many bytes as may be, and of one more.
func TestPrintLong(t *testing.T) {
	text := func(verb string) func(int) Command {
		return func(more int) Command { return Command{Verb: verb, Arg: x(505 + more)} }
	}
	for name, of := range map[string]func(more int) Command{
		"NOOP": text("NOOP"),
		"VRFY": text("VRFY"),
		"HELP": text("HELP"),
		"MAIL": func(more int) Command { // beside the domain: MAIL FROM:< and 64 bytes, @ and >, ENVID= and 300 bytes, and a blank
			return Command{Verb: "MAIL", Path: path.Path{Local: x(64), Domain: host(510 - 11 - 64 - 2 - 306 - 1 + more)}, Mail: param.Mail{Envid: strings.Repeat(" ", 100)}}
		},
		"RCPT": func(more int) Command { // beside the domain: RCPT TO:<a@ and >, ORCPT=X; and 290 bytes, and a blank
			return Command{Verb: "RCPT", Path: path.Path{Local: "a", Domain: host(510 - 12 - 298 - 1 + more)}, Rcpt: param.Rcpt{Kind: "X", Orcpt: x(239) + strings.Repeat(" ", 17)}}
		},
	} {
		for more := -9; more <= 0; more++ {
			s, e := Print(of(more))
			if c, f := Parse(s + " "); len(s) != 510+more || e != api.OK || c != of(more) || f != api.OK {
				t.Errorf("%s, %d: %d bytes, %d, read %d", name, more, len(s), e, f)
			}
		}
		for more := 1; more <= 9; more++ {
			if s, e := Print(of(more)); s != "" || e != api.ErrLong {
				t.Errorf("%s, %d: %d bytes, %d", name, more, len(s), e)
			}
		}
	}
}

// P6.1: how long a line is plays no part.
func TestParseLong(t *testing.T) {
	for s, want := range map[string]Command{
		"NOOP " + x(506):                    {Verb: "NOOP", Arg: x(506)},
		"VRFY " + x(70000):                  {Verb: "VRFY", Arg: x(70000)},
		"DATA" + strings.Repeat(" ", 70000): {Verb: "DATA"},
		"MAIL FROM:<" + x(64) + "@" + host(255) + "> ENVID=" + strings.Repeat("+20", 100): {Verb: "MAIL", Path: path.Path{Local: x(64), Domain: host(255)}, Mail: param.Mail{Envid: strings.Repeat(" ", 100)}},
	} {
		if c, e := Parse(s); c != want || e != api.OK {
			t.Errorf("Parse(%.80q): %d", s, e)
		}
	}
}

// plainPrint answers by the words of the chapter alone what Print is to answer.
func plainPrint(c Command) (string, api.Errno) {
	tells := map[string]string{"HELO": "domain", "EHLO": "domain", "MAIL": "mail", "RCPT": "rcpt", "DATA": "", "RSET": "", "QUIT": "", "NOOP": "text", "VRFY": "text", "HELP": "text"}
	what, is := tells[c.Verb]
	if !is {
		return "", api.ErrKind
	}
	text := c.Verb
	isMail, isRcpt := what == "mail", what == "rcpt"
	small, e := path.Domain(c.Arg)
	switch {
	case c.Arg != "" && what != "domain" && what != "text", c.Path != path.Path{} && !isMail && !isRcpt, c.Mail != param.Mail{} && !isMail, c.Rcpt != param.Rcpt{} && !isRcpt,
		what == "domain" && (e != api.OK || small != c.Arg),
		what == "text" && !regexp.MustCompile(`\A([!-~]([ -~]*[!-~])?)?\z`).MatchString(c.Arg), c.Verb == "VRFY" && c.Arg == "",
		isMail && c.Path.Domain == "" && c.Path.Local != "", isRcpt && c.Path == path.Path{}:
		return "", api.ErrForm
	}
	if isMail || isRcpt {
		p, e := path.Print(c.Path)
		if e != api.OK {
			return "", e
		}
		words, e := param.PrintRcpt(c.Rcpt)
		if isMail {
			words, e = param.PrintMail(c.Mail)
		}
		if e != api.OK {
			return "", e
		}
		text += map[bool]string{true: " FROM:", false: " TO:"}[isMail] + p
		if words != "" {
			text += " " + words
		}
	}
	if c.Arg != "" {
		text += " " + c.Arg
	}
	if len(text) > 510 {
		return "", api.ErrLong
	}
	return text, api.OK
}

// P6.2, P6.3: all ways in which a command's parts may stand together, right and wrong ones.
func TestPrintAll(t *testing.T) {
	args := []string{"", "a", "A", "a.b-c", "a b", " a", "a ", " ", "~", "\x1f", "\x7f", "\u00e9", "a\n", host(255), host(256), x(505), x(506)}
	paths := []path.Path{{}, {Local: "a", Domain: "b"}, {Local: `a" b`, Domain: "c.d"}, {Local: "postmaster"}, {Local: "Postmaster"}, {Local: "a"}, {Domain: "b"}, {Local: "a", Domain: "B"}, {Local: x(64), Domain: host(255)}, {Local: x(65)}, {Local: x(65), Domain: "b"}, {Domain: host(256)}}
	mails := []param.Mail{{}, {Ret: "FULL"}, {Has: param.Has{Size: true}}, {Size: 1}, {Has: param.Has{HoldFor: true}}, {Envid: x(101)}, {Envid: strings.Repeat("=", 100), Body: "7BIT"}, {Has: param.Has{HoldFor: true, HoldUntil: true}, HoldFor: 1}}
	rcpts := []param.Rcpt{{}, {Notify: "SFD"}, {Notify: "n"}, {Kind: "X"}, {Kind: "X", Orcpt: x(256)}, {Kind: "X", Orcpt: x(257)}, {Kind: "X", Orcpt: strings.Repeat("=", 256)}}
	for _, verb := range append(Verbs(), "", "mail", "X", "NOOP ") {
		for _, arg := range args {
			for _, p := range paths {
				for _, m := range mails {
					for _, r := range rcpts {
						c := Command{verb, arg, p, m, r}
						want, wrong := plainPrint(c)
						s, e := Print(c)
						if s != want || e != wrong {
							t.Fatalf("Print(%+v): %.80q, %d, not %.80q, %d", c, s, e, want, wrong)
						}
						if again, f := Parse(s + "  "); e == api.OK && (again != c || f != api.OK) {
							t.Fatalf("%.80q: %+v, %d, not %+v", s, again, f, c)
						}
					}
				}
			}
		}
	}
}

// P6.2: each byte at each place of an Arg.
func TestArgBytes(t *testing.T) {
	for _, b := range each() {
		for _, arg := range []string{b, b + "a", "a" + b, "a" + b + "c", "a." + b} {
			for _, verb := range []string{"HELO", "EHLO", "NOOP", "VRFY", "HELP"} {
				c := Command{Verb: verb, Arg: arg}
				want, wrong := plainPrint(c)
				s, e := Print(c)
				if s != want || e != wrong {
					t.Fatalf("Print(%+v): %q, %d, not %q, %d", c, s, e, want, wrong)
				}
				if again, f := Parse(s); e == api.OK && (again != c || f != api.OK) {
					t.Fatalf("%q: %+v, %d, not %+v", s, again, f, c)
				}
			}
		}
	}
}

// Rule 3: no answer is a piece of what is handed in.
func TestApart(t *testing.T) {
	within := func(part, whole string) bool {
		at, from := uintptr(unsafe.Pointer(unsafe.StringData(part))), uintptr(unsafe.Pointer(unsafe.StringData(whole)))
		return len(part) > 0 && at >= from && at < from+uintptr(len(whole))
	}
	for _, s := range []string{"HELO a.b", "MAIL FROM:<a@b> ENVID=ab RET=FULL BY=1;R BODY=7BIT", "RCPT TO:<a@b> NOTIFY=NEVER ORCPT=X;ab", "RCPT TO:<postmaster>", "DATA", "NOOP ab", "VRFY ab", "HELP ab"} {
		s = strings.Clone(s)
		c, e := Parse(s)
		if e != api.OK {
			t.Fatalf("Parse(%q): %d", s, e)
		}
		for _, part := range []string{c.Verb, c.Arg, c.Path.Local, c.Path.Domain, c.Mail.Envid, c.Mail.Ret, c.Mail.Body, c.Mail.Mode, c.Rcpt.Notify, c.Rcpt.Kind, c.Rcpt.Orcpt, Verb(s)} {
			if within(part, s) {
				t.Errorf("a piece of %q is told: %q", s, part)
			}
		}
		text, e := Print(c)
		if e != api.OK || within(text, c.Verb) || within(text, c.Arg) {
			t.Errorf("Print(%+v): %q, %d, or where a part of it lies", c, text, e)
		}
	}
}
