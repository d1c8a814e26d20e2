package path

import (
	"regexp"
	"slices"
	"strings"
	"testing"
	"unsafe"

	"duepost/api"
)

// By the words of the chapter alone: what a label, an atom, and a local part between quotes look like.
const (
	labelForm  = "[A-Za-z0-9](?:[A-Za-z0-9-]{0,61}[A-Za-z0-9])?"
	domainForm = labelForm + `(?:\.` + labelForm + ")*"
	atomForm   = "[A-Za-z0-9!#$%&'*+/=?^_|~`{}-]+"
	atomsForm  = atomForm + `(?:\.` + atomForm + ")*"
	quotedForm = `"(?:[ !#-\[\]-~]|\\[ -~])+"`
	hostForm   = "[Pp][Oo][Ss][Tt][Mm][Aa][Ss][Tt][Ee][Rr]"
)

var (
	domainOf   = regexp.MustCompile(`\A` + domainForm + `\z`)
	atomsOf    = regexp.MustCompile(`\A` + atomsForm + `\z`)
	textAtHead = regexp.MustCompile(`\A<(?:|(` + hostForm + `)|(` + atomsForm + "|" + quotedForm + ")@(" + domainForm + "))>")
	escaped    = regexp.MustCompile(`\\(.)`)
)

// lower answers a text with small letters, those of A to Z alone.
func lower(s string) string {
	return strings.Map(func(r rune) rune {
		if 'A' <= r && r <= 'Z' {
			return r + 32
		}
		return r
	}, s)
}

// plainParse answers by the forms above what Parse is to answer of a text of bytes below 128.
func plainParse(s string) (Path, string, api.Errno) {
	m := textAtHead.FindStringSubmatch(s)
	if m == nil {
		return Path{}, "", api.ErrForm
	}
	rest := s[len(m[0]):]
	if m[1] != "" {
		return Path{Local: "postmaster"}, rest, api.OK
	}
	p := Path{Local: m[2], Domain: lower(m[3])}
	if strings.HasPrefix(p.Local, `"`) {
		p.Local = escaped.ReplaceAllString(strings.TrimSuffix(p.Local[1:], `"`), "$1")
	}
	if len(p.Local) > 64 || len(p.Domain) > 255 {
		return Path{}, "", api.ErrLong
	}
	return p, rest, api.OK
}

// texts answers all texts of these bytes, up to that length.
func texts(bytes string, length int) []string {
	all := []string{""}
	for from := 0; length > 0; length-- {
		to := len(all)
		for _, s := range all[from:to] {
			for i := range len(bytes) {
				all = append(all, s+bytes[i:i+1])
			}
		}
		from = to
	}
	return all
}

// each answers all bytes, as texts of one.
func each() []string {
	all := make([]string, 256)
	for n := range all {
		all[n] = string([]byte{byte(n)})
	}
	return all
}

// x answers so many letters.
func x(n int) string { return strings.Repeat("x", n) }

// host answers a domain of so many bytes, of labels that may be.
func host(n int) string {
	s := strings.Repeat(x(62)+".", n/63)
	if left := n - len(s); left > 0 {
		return s + x(left)
	}
	return s[:len(s)-2] + "xy" // as no domain ends with a dot
}

// domains: what is one, and as what it is told; and what is none.
var domains = []struct {
	s, want string
	e       api.Errno
}{
	{"a", "a", api.OK},
	{"Z", "z", api.OK},
	{"7", "7", api.OK},
	{"c.d", "c.d", api.OK},
	{"C.d", "c.d", api.OK},
	{"MAIL.Example.COM", "mail.example.com", api.OK},
	{"ABCDEFGHIJKLMNOPQRSTUVWXYZ", "abcdefghijklmnopqrstuvwxyz", api.OK},
	{"abcdefghijklmnopqrstuvwxyz", "abcdefghijklmnopqrstuvwxyz", api.OK},
	{"0123456789", "0123456789", api.OK},
	{"1.2.3.4", "1.2.3.4", api.OK},
	{"a-b", "a-b", api.OK},
	{"a--b.0-9", "a--b.0-9", api.OK},
	{"xn--80ak6aa92e", "xn--80ak6aa92e", api.OK},
	{"postmaster", "postmaster", api.OK},
	{x(63), x(63), api.OK},
	{x(63) + "." + x(63), x(63) + "." + x(63), api.OK},
	{"a" + strings.Repeat("-", 61) + "b", "a" + strings.Repeat("-", 61) + "b", api.OK},
	{host(254), host(254), api.OK},
	{host(255), host(255), api.OK},
	{strings.Repeat("a.", 127) + "B", strings.Repeat("a.", 127) + "b", api.OK},

	{"", "", api.ErrForm},
	{".", "", api.ErrForm},
	{"..", "", api.ErrForm},
	{".a", "", api.ErrForm},
	{"a.", "", api.ErrForm},
	{"a..b", "", api.ErrForm},
	{"-", "", api.ErrForm},
	{"-a", "", api.ErrForm},
	{"a-", "", api.ErrForm},
	{"a.-b", "", api.ErrForm},
	{"a.b-", "", api.ErrForm},
	{"a-.b", "", api.ErrForm},
	{"-a.b", "", api.ErrForm},
	{"a b", "", api.ErrForm},
	{" a", "", api.ErrForm},
	{"a ", "", api.ErrForm},
	{"a_b", "", api.ErrForm},
	{"a@b", "", api.ErrForm},
	{"[1.2.3.4]", "", api.ErrForm},
	{"é.de", "", api.ErrForm},
	{"\u212a.de", "", api.ErrForm}, // its small letter is a k, but it is none of A to Z
	{"a\x00", "", api.ErrForm},
	{"a\r\n", "", api.ErrForm},
	{x(64), "", api.ErrForm},
	{"a." + x(64), "", api.ErrForm},
	{x(64) + ".a", "", api.ErrForm},
	{x(255), "", api.ErrForm},
	{host(254) + ".", "", api.ErrForm},
	{strings.Repeat(".", 255), "", api.ErrForm},

	{host(256), "", api.ErrLong},
	{host(4000), "", api.ErrLong},
	{x(256), "", api.ErrLong},
	{strings.Repeat(".", 256), "", api.ErrLong},
	{strings.Repeat("\xff", 256), "", api.ErrLong},
	{host(255) + ".", "", api.ErrLong},
}

// P4.1: Domain.
func TestDomain(t *testing.T) {
	for _, d := range domains {
		if got, e := Domain(d.s); got != d.want || e != d.e {
			t.Errorf("Domain(%.40q): %.40q, %d, not %.40q, %d", d.s, got, e, d.want, d.e)
		}
	}
}

// P4.1: Domain, of all short texts of the bytes that matter, and of each byte at each place of one.
func TestDomainAll(t *testing.T) {
	some := texts("aZ0-._", 6)
	for _, b := range each() {
		some = append(some, b, b+"b", "a"+b, "a"+b+"b", "a."+b, "a."+b+"c", b+".c", "c.a"+b)
	}
	for _, s := range some {
		want, wrong := lower(s), api.OK
		if !domainOf.MatchString(s) {
			want, wrong = "", api.ErrForm
		}
		if got, e := Domain(s); got != want || e != wrong {
			t.Fatalf("Domain(%q): %q, %d, not %q, %d", s, got, e, want, wrong)
		}
	}
}

// P4.1, P4.2: Right, and Print, of paths and of what is none.
func TestPrint(t *testing.T) {
	all := "!#$%&'*+-/=?^_|~`{}azAZ09"
	for _, k := range []struct {
		p    Path
		want string
		e    api.Errno
	}{
		{Path{}, "<>", api.OK},
		{Path{"postmaster", ""}, "<postmaster>", api.OK},
		{Path{"postmaster", "c.d"}, "<postmaster@c.d>", api.OK},
		{Path{"Postmaster", "c.d"}, "<Postmaster@c.d>", api.OK},
		{Path{"a", "b"}, "<a@b>", api.OK},
		{Path{"Mary.Ann", "mail.example.com"}, "<Mary.Ann@mail.example.com>", api.OK},
		{Path{all, "c-d.e"}, "<" + all + "@c-d.e>", api.OK},
		{Path{all + "." + all, "1"}, "<" + all + "." + all + "@1>", api.OK},
		{Path{"a.b.c", "d"}, "<a.b.c@d>", api.OK},

		{Path{"a b", "c.d"}, `<"a b"@c.d>`, api.OK},
		{Path{" ", "d"}, `<" "@d>`, api.OK},
		{Path{".", "d"}, `<"."@d>`, api.OK},
		{Path{".a", "d"}, `<".a"@d>`, api.OK},
		{Path{"a.", "d"}, `<"a."@d>`, api.OK},
		{Path{"a..b", "d"}, `<"a..b"@d>`, api.OK},
		{Path{"a.b c.d", "d"}, `<"a.b c.d"@d>`, api.OK},
		{Path{`"`, "d"}, `<"\""@d>`, api.OK},
		{Path{`\`, "d"}, `<"\\"@d>`, api.OK},
		{Path{`\"`, "d"}, `<"\\\""@d>`, api.OK},
		{Path{`a"b\c`, "d"}, `<"a\"b\\c"@d>`, api.OK},
		{Path{"a@b>", "d"}, `<"a@b>"@d>`, api.OK},
		{Path{"<(),:;[]>", "d"}, `<"<(),:;[]>"@d>`, api.OK},

		{Path{x(64), host(255)}, "<" + x(64) + "@" + host(255) + ">", api.OK},
		{Path{strings.Repeat(`"`, 64), "d"}, `<"` + strings.Repeat(`\"`, 64) + `"@d>`, api.OK},
		{Path{x(65), "d"}, "", api.ErrLong},
		{Path{x(65), ""}, "", api.ErrLong},
		{Path{"a", host(256)}, "", api.ErrLong},
		{Path{"", host(256)}, "", api.ErrLong},
		{Path{"a", strings.Repeat("-", 256)}, "", api.ErrLong},
		{Path{strings.Repeat("\x00", 65), "-"}, "", api.ErrLong},
		{Path{"\x00", host(256)}, "", api.ErrLong},
		{Path{"", host(255)}, "", api.ErrForm},
		{Path{x(64), ""}, "", api.ErrForm},

		{Path{"", "c.d"}, "", api.ErrForm},
		{Path{"a", ""}, "", api.ErrForm},
		{Path{"POSTMASTER", ""}, "", api.ErrForm},
		{Path{"Postmaster", ""}, "", api.ErrForm},
		{Path{"postmasters", ""}, "", api.ErrForm},
		{Path{"postmaste", ""}, "", api.ErrForm},
		{Path{" postmaster", ""}, "", api.ErrForm},
		{Path{"a\x1f", "d"}, "", api.ErrForm},
		{Path{"\x7f", "d"}, "", api.ErrForm},
		{Path{"a\n", "d"}, "", api.ErrForm},
		{Path{"é", "d"}, "", api.ErrForm},
		{Path{"a", "D"}, "", api.ErrForm},
		{Path{"a", "c.dE"}, "", api.ErrForm},
		{Path{"a", "c.d."}, "", api.ErrForm},
		{Path{"a", "-c"}, "", api.ErrForm},
		{Path{"a", "[1.2.3.4]"}, "", api.ErrForm},
		{Path{"a", x(64)}, "", api.ErrForm},
		{Path{"a", " "}, "", api.ErrForm},
	} {
		if e := Right(k.p); e != k.e {
			t.Errorf("Right(%.60q): %d, not %d", k.p, e, k.e)
		}
		if got, e := Print(k.p); got != k.want || e != k.e {
			t.Errorf("Print(%.60q): %.60q, %d, not %.60q, %d", k.p, got, e, k.want, k.e)
		}
	}
}

// P4.1: a path's domain is right just if Domain tells it as it is, and it is too long just where Domain says so.
func TestRightDomain(t *testing.T) {
	for _, d := range domains {
		want := d.e
		if want == api.OK && d.s != d.want || d.s == "" {
			want = api.ErrForm
		}
		if e := Right(Path{"a", d.s}); e != want {
			t.Errorf("Right(a at %.40q): %d, not %d", d.s, e, want)
		}
	}
}

// P4.1, P4.2: each byte at each place of a local part.
func TestLocalBytes(t *testing.T) {
	for _, b := range each() {
		for _, local := range []string{b, "a" + b, b + "a", "a" + b + "c", "a." + b, b + b} {
			p, wrong := Path{local, "d"}, api.OK
			want := "<" + local + "@d>"
			switch {
			case b < " " || b > "~":
				want, wrong = "", api.ErrForm
			case !atomsOf.MatchString(local):
				want = `<"` + strings.NewReplacer(`\`, `\\`, `"`, `\"`).Replace(local) + `"@d>`
			}
			if e := Right(p); e != wrong {
				t.Fatalf("Right(%q): %d, not %d", p, e, wrong)
			}
			if got, e := Print(p); got != want || e != wrong {
				t.Fatalf("Print(%q): %q, %d, not %q, %d", p, got, e, want, wrong)
			}
		}
	}
}

// P4.1: Null.
func TestNull(t *testing.T) {
	if !Null(Path{}) {
		t.Error("Null of neither")
	}
	for _, p := range []Path{{"postmaster", ""}, {"a", ""}, {"", "b"}, {"a", "b"}, {" ", ""}, {"", " "}, {"\x00", ""}} {
		if Null(p) {
			t.Errorf("Null(%q)", p)
		}
	}
}

// P4.2: Parse of texts, and what is behind them.
func TestParse(t *testing.T) {
	for _, k := range []struct {
		s    string
		want Path
		rest string
	}{
		{"<>", Path{}, ""},
		{"<> SIZE=1", Path{}, " SIZE=1"},
		{"<>>", Path{}, ">"},
		{"<><>", Path{}, "<>"},
		{"<>a@b>", Path{}, "a@b>"},
		{"<a@b>", Path{"a", "b"}, ""},
		{"<a@b> SIZE=1", Path{"a", "b"}, " SIZE=1"},
		{"<a@b><c@d>", Path{"a", "b"}, "<c@d>"},
		{"<a@b>\x00\xff", Path{"a", "b"}, "\x00\xff"},
		{"<Mary.Ann@Mail.EXAMPLE.com>", Path{"Mary.Ann", "mail.example.com"}, ""},
		{"<!#$%&'*+-/=?^_|~`{}@d>", Path{"!#$%&'*+-/=?^_|~`{}", "d"}, ""},
		{"<-a-.-@d>", Path{"-a-.-", "d"}, ""},

		{"<postmaster>", Path{"postmaster", ""}, ""},
		{"<POSTMASTER> x", Path{"postmaster", ""}, " x"},
		{"<PostMaster>@b>", Path{"postmaster", ""}, "@b>"},
		{"<postmaster@c.d>", Path{"postmaster", "c.d"}, ""},
		{"<PostMaster@c.d>", Path{"PostMaster", "c.d"}, ""},

		{`<"a b"@C.d>`, Path{"a b", "c.d"}, ""},
		{`<"ab"@c.d>`, Path{"ab", "c.d"}, ""},
		{`<"a..b"@d>`, Path{"a..b", "d"}, ""},
		{`<"postmaster"@d>`, Path{"postmaster", "d"}, ""},
		{`<"\a\ \."@d>`, Path{"a .", "d"}, ""},
		{`<"\""@d>`, Path{`"`, "d"}, ""},
		{`<"\\"@d>`, Path{`\`, "d"}, ""},
		{`<"\\\""@d>`, Path{`\"`, "d"}, ""},
		{`<"\\a"@d>`, Path{`\a`, "d"}, ""},
		{`<"a@b>c"@d> "`, Path{"a@b>c", "d"}, ` "`},
		{`<"<a@b>"@d>`, Path{"<a@b>", "d"}, ""},
		{`<">"@d>`, Path{">", "d"}, ""},
		{`<" "@d>`, Path{" ", "d"}, ""},
		{`<"\ "@d>`, Path{" ", "d"}, ""},
		{`<"~\~"@d>`, Path{"~~", "d"}, ""},

		{"<" + x(64) + "@" + host(255) + ">", Path{x(64), host(255)}, ""},
		{"<" + x(64) + "@" + strings.ToUpper(host(255)) + ">" + x(1000), Path{x(64), host(255)}, x(1000)},
		{`<"` + strings.Repeat(`\x`, 64) + `"@d>`, Path{x(64), "d"}, ""},
		{`<"` + strings.Repeat(`\"`, 64) + `"@d>`, Path{strings.Repeat(`"`, 64), "d"}, ""},
		{"<a@" + x(63) + ">", Path{"a", x(63)}, ""},
	} {
		if got, rest, e := Parse(k.s); got != k.want || rest != k.rest || e != api.OK {
			t.Errorf("Parse(%.60q): %.60q, %.60q, %d", k.s, got, rest, e)
		}
	}
}

// P4.2: Parse of what no path's text stands ahead of: the form is asked ahead of lengths.
func TestParseWrong(t *testing.T) {
	for _, s := range []string{
		"", "<", ">", "a", "a@b", "a@b>", " <a@b>", "<<a@b>", "<a@b", "<a@", "<a", "<@", "<@>", "<a@>", "<@b>", "< >", "< a@b>", "<a @b>", "<a@ b>", "<a@b >", "<a@b c>",
		"<a>", "<a.b>", "<a@b@c>", "<a@@b>", "<a,b@c>", "<a>b@c>", "<@a:b@c>", "<@a,@b:c@d>", "<a@[1.2.3.4]>", "<a\\b@c>", "<\\a@c>", "<(a)@b>", "<a:b@c>", "<a;b@c>", "<[a]@b>", "<a<b@c>",
		"<.a@b>", "<a.@b>", "<a..b@c>", "<.@b>", "<a@.b>", "<a@b.>", "<a@b..c>", "<a@-b>", "<a@b->", "<a@b-.c>", "<a@b_c>", "<a@b\n>", "<a\x00@b>", "<é@b>", "<a@é>", "<\x7f@b>", "<a\t@b>",
		"<postmaster", "<postmaster >", "<postmasters>", "<postmaste>", "<post master>", "<\"postmaster\">", "<postmaster@>", "<postma\u017fter>", "<po\u017ftmaster@b", "<@postmaster>", "<.postmaster>",
		`<"">`, `<""@b>`, `<"a">`, `<"a"`, `<"a`, `<"`, `<"\`, `<"\"@b>`, `<"a\"@b>`, `<"\\\"@b>`, `<"a"b"@c>`, `<"a"b@c>`, `<a"b"@c>`, `<a"@c>`, `<"a"."b"@c>`, `<"a".b@c>`, `<a."b@C.d>`, `<a."b"@c>`,
		`<"a"@>`, `<"a"@b`, `<"a"@`, `<"a" @b>`, `<"a"@"b">`, "<\"\x1f\"@b>", "<\"a\x7f\"@b>", "<\"a\\\x1f\"@b>", "<\"\\\x7f\"@b>", "<\"\\é\"@b>", "<\"\x00\"@b>", "<\"a\nb\"@c>", `<"\a">`, `<""""@b>`,
		"<a@" + x(64) + ">", "<a@b." + x(64) + ">", "<a@" + x(300) + ">",
		"<" + x(65) + ">", "<" + x(65) + "@>", "<" + x(65) + "@b", "<" + x(65) + "@-b>", "<" + x(65) + "@" + x(64) + ">", "<" + x(65) + ".@b>", `<"` + x(65) + `@b>`,
		"<@" + host(256) + ">", "<a." + "@" + host(256) + ">", "<a@" + host(256), "<a@" + host(256) + ".>", "<a@-" + host(256) + ">", `<""@` + host(256) + ">", "<" + x(65) + "@" + host(256) + ".>",
	} {
		if got, rest, e := Parse(s); got != (Path{}) || rest != "" || e != api.ErrForm {
			t.Errorf("Parse(%.60q): %.60q, %.60q, %d", s, got, rest, e)
		}
	}
	for _, s := range []string{
		"<" + x(65) + "@b>", "<" + x(65) + "@b>rest", "<" + x(32) + "." + x(32) + "@b>", `<"` + x(65) + `"@b>`, `<"` + strings.Repeat(`\x`, 65) + `"@b>`, `<"` + strings.Repeat(" ", 65) + `"@b>`, "<" + x(5000) + "@b>", "<postmaster" + x(55) + "@b>",
		"<a@" + host(256) + ">", "<a@" + host(256) + ">rest", "<a@" + host(10000) + ">", "<a@" + strings.Repeat("a.", 128) + "b>", `<"a b"@` + host(256) + ">", "<" + x(65) + "@" + host(256) + ">",
	} {
		if got, rest, e := Parse(s); got != (Path{}) || rest != "" || e != api.ErrLong {
			t.Errorf("Parse(%.60q): %.60q, %.60q, %d", s, got, rest, e)
		}
	}
}

// P4.2: Parse, of all short texts of the bytes that matter, and of each byte at each place of some.
func TestParseAll(t *testing.T) {
	var some []string
	for _, s := range texts(`<>"\@a.`, 6) {
		some = append(some, s, "<"+s, "<"+s+"@b>", `<"`+s+`"@b>`, "<a@"+s+">")
	}
	for _, s := range []string{"<a@b>", "<>", `<"a b"@C.d>`, `<"\a\"\\"@c>`, "<PostMaster>", "<a.b@c-d.E> SIZE=1"} {
		for at := range len(s) {
			some = append(some, s[:at])
			for n := range 128 {
				b := string([]byte{byte(n)})
				some = append(some, s[:at]+b+s[at:], s[:at]+b+s[at+1:])
			}
		}
	}
	for _, s := range some {
		want, rest, wrong := plainParse(s)
		if got, left, e := Parse(s); got != want || left != rest || e != wrong {
			t.Fatalf("Parse(%q): %q, %q, %d, not %q, %q, %d", s, got, left, e, want, rest, wrong)
		}
	}
}

// P4.2: a byte above 126 stands in no path's text, wherever.
func TestParseHigh(t *testing.T) {
	for _, s := range []string{"<a@b>", `<"a\b"@c>`, "<postmaster>"} {
		for at := range len(s) {
			for _, b := range each()[127:] {
				for _, text := range []string{s[:at] + b + s[at:], s[:at] + b + s[at+1:]} {
					if got, rest, e := Parse(text); got != (Path{}) || rest != "" || e != api.ErrForm {
						t.Fatalf("Parse(%q): %q, %q, %d", text, got, rest, e)
					}
				}
			}
		}
	}
}

// paths answers some that may be, no two of them alike.
func paths() []Path {
	all := []Path{{}, {"postmaster", ""}, {"postmaster", "d"}, {"POSTMASTER", "d"}, {x(64), host(255)}, {strings.Repeat(`\`, 64), host(255)}, {"a", x(63)}}
	for _, local := range texts(`aA.@>"\ `, 4)[1:] {
		all = append(all, Path{local, "d"}, Path{local, "c.d-0"})
	}
	for b := byte(32); b <= 126; b++ {
		all = append(all, Path{"x" + string([]byte{b}), "e"}, Path{string([]byte{b, '.', 'x'}), "f"})
	}
	return all
}

// P4.3: what was printed is read, whatever stands behind it; and no two paths have one text.
func TestBack(t *testing.T) {
	seen := map[string]Path{}
	for _, p := range paths() {
		text, e := Print(p)
		if e != api.OK || Right(p) != api.OK {
			t.Fatalf("Print(%.60q): %d", p, e)
		}
		if other, is := seen[text]; is {
			t.Fatalf("%.60q and %.60q: %.60q", p, other, text)
		}
		seen[text] = p
		for _, behind := range []string{"", " ", ">", "<>", "@b>", `"`, `"@c>`, `\`, ".", "\x00\xff", "x", text} {
			if got, rest, e := Parse(text + behind); got != p || rest != behind || e != api.OK {
				t.Fatalf("%.60q with %.40q behind: %.60q, %.40q, %d", text, behind, got, rest, e)
			}
		}
		for at := range len(text) {
			if got, rest, e := Parse(text[:at]); got != (Path{}) || rest != "" || e != api.ErrForm {
				t.Fatalf("Parse(%.60q): %.60q, %.40q, %d", text[:at], got, rest, e)
			}
		}
	}
}

// P4.3: however a path is read, it is right, and its one text is printed.
func TestOneText(t *testing.T) {
	for text, all := range map[string][]string{
		"<>":             {"<>"},
		"<postmaster>":   {"<postmaster>", "<POSTMASTER>", "<pOSTMASTEr>"},
		"<ab@c.d>":       {"<ab@c.d>", "<ab@C.D>", `<"ab"@c.d>`, `<"\a\b"@C.d>`, `<"a\b"@c.D>`},
		`<"a b"@c.d>`:    {`<"a b"@c.d>`, `<"a\ b"@C.d>`, `<"\a\ \b"@c.d>`},
		`<"\"\\"@d>`:     {`<"\"\\"@d>`, `<"\"\\"@D>`},
		"<a.b@d>":        {"<a.b@d>", `<"a.b"@d>`, `<"a\.b"@d>`},
		`<"a..b"@d>`:     {`<"a..b"@d>`, `<"a.\.b"@d>`},
		"<AB@d>":         {"<AB@d>", `<"AB"@d>`, "<AB@D>"},
		"<postmaster@d>": {"<postmaster@d>", `<"postmaster"@d>`, `<"\postmaster"@D>`},
	} {
		for _, s := range all {
			p, _, e := Parse(s)
			if e != api.OK || Right(p) != api.OK {
				t.Errorf("Parse(%q): %q, %d, %d", s, p, e, Right(p))
			}
			if got, e := Print(p); got != text || e != api.OK {
				t.Errorf("%q, printed: %q, %d, not %q", s, got, e, text)
			}
		}
	}
	for _, s := range texts(`"\A. `, 6) {
		p, _, e := Parse(`<"` + s + `"@B>`)
		if e != api.OK {
			continue
		}
		text, e := Print(p)
		if again, rest, f := Parse(text); again != p || rest != "" || e != api.OK || f != api.OK {
			t.Fatalf("%q: %q, %d, read again %q, %d", s, text, e, again, f)
		}
	}
}

// P4.2: Join.
func TestJoin(t *testing.T) {
	form, long := Path{"a", ""}, Path{x(65), "b"}
	for _, k := range []struct {
		l    []Path
		want string
		e    api.Errno
	}{
		{nil, "", api.OK},
		{[]Path{}, "", api.OK},
		{[]Path{{}}, "<>", api.OK},
		{[]Path{{}, {}}, "<> <>", api.OK},
		{[]Path{{"a", "b"}}, "<a@b>", api.OK},
		{[]Path{{"a", "b"}, {"postmaster", ""}, {}, {"a b", "c.d"}}, `<a@b> <postmaster> <> <"a b"@c.d>`, api.OK},
		{[]Path{form}, "", api.ErrForm},
		{[]Path{long}, "", api.ErrLong},
		{[]Path{form, long}, "", api.ErrForm},
		{[]Path{long, form}, "", api.ErrLong},
		{[]Path{{"a", "b"}, {}, long, form, {"a", "b"}}, "", api.ErrLong},
		{[]Path{{"a", "b"}, form}, "", api.ErrForm},
	} {
		given := slices.Clone(k.l)
		if got, e := Join(k.l...); got != k.want || e != k.e {
			t.Errorf("Join(%.60q): %.60q, %d, not %.60q, %d", k.l, got, e, k.want, k.e)
		}
		if !slices.Equal(given, k.l) {
			t.Errorf("Join changed %.60q", given)
		}
	}
	if got, e := Join(); got != "" || e != api.OK {
		t.Errorf("Join of none: %q, %d", got, e)
	}
}

// P4.3: paths that were joined are read, one behind the other.
func TestJoinBack(t *testing.T) {
	all := paths()
	s, e := Join(all...)
	if e != api.OK {
		t.Fatal(e)
	}
	for i, p := range all {
		got, rest, e := Parse(s)
		if got != p || e != api.OK || strings.HasPrefix(rest, " ") != (i < len(all)-1) {
			t.Fatalf("path %d: %.60q, %d, not %.60q", i, got, e, p)
		}
		s = strings.TrimPrefix(rest, " ")
	}
	if s != "" {
		t.Errorf("%.60q is left", s)
	}
}

// Rule 3: no answer is a piece of what is handed in.
func TestApart(t *testing.T) {
	within := func(part, whole string) bool {
		at, from := uintptr(unsafe.Pointer(unsafe.StringData(part))), uintptr(unsafe.Pointer(unsafe.StringData(whole)))
		return len(part) > 0 && at >= from && at < from+uintptr(len(whole))
	}
	for _, s := range []string{"<ab@c.d> rest", `<"a b"@c.d> rest`, "<> rest", "<postmaster> rest"} {
		s = strings.Clone(s)
		p, rest, e := Parse(s)
		if e != api.OK || rest != " rest" {
			t.Fatalf("Parse(%q): %q, %q, %d", s, p, rest, e)
		}
		if within(p.Local, s) || within(p.Domain, s) || within(rest, s) {
			t.Errorf("a piece of %q is told", s)
		}
	}
	s := strings.Clone("c.d")
	if got, e := Domain(s); got != s || e != api.OK || within(got, s) {
		t.Errorf("Domain(%q): %q, %d, or where the text lies", s, got, e)
	}
}
