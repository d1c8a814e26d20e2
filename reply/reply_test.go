package reply

import (
	"fmt"
	"math"
	"regexp"
	"slices"
	"strconv"
	"strings"
	"testing"
	"unsafe"

	"duepost/api"
)

// none: no enhanced code.
var none = [3]int{}

// x answers so many letters.
func x(n int) string { return strings.Repeat("x", n) }

// times answers a text so many times.
func times(n int, s string) []string { return slices.Repeat([]string{s}, n) }

// each answers all bytes, as texts of one.
func each() []string {
	all := make([]string, 256)
	for n := range all {
		all[n] = string([]byte{byte(n)})
	}
	return all
}

// texts answers all texts of no more than so many of these signs.
func texts(signs string, most int) []string {
	all := []string{""}
	for from, n := 0, 0; n < most; n++ {
		to := len(all)
		for _, s := range all[from:to] {
			for i := range len(signs) {
				all = append(all, s+signs[i:i+1])
			}
		}
		from = to
	}
	return all
}

// of answers a reply.
func of(code int, e [3]int, text ...string) api.Reply {
	return api.Reply{Code: code, Enhanced: e, Text: text}
}

// alike tells if two replies are, by other means than Same.
func alike(a, b api.Reply) bool {
	return a.Code == b.Code && a.Enhanced[0] == b.Enhanced[0] && a.Enhanced[1] == b.Enhanced[1] && a.Enhanced[2] == b.Enhanced[2] && slices.Equal(a.Text, b.Text)
}

// tell answers a reply as a fault of it is told.
func tell(r api.Reply) string { return fmt.Sprintf("{%d %d %.80q}", r.Code, r.Enhanced, r.Text) }

// empty tells if a reply is none at all.
func empty(r api.Reply) bool { return r.Code == 0 && r.Enhanced == none && len(r.Text) == 0 }

// printed: replies, and their lines, of which each reply is told again.
var printed = []struct {
	r api.Reply
	l []string
}{
	{of(250, [3]int{2, 0, 0}, "a", "b"), []string{"250-2.0.0 a", "250 2.0.0 b"}},
	{of(220, none, "mail.example.com"), []string{"220 mail.example.com"}},
	{of(354, none, "go"), []string{"354 go"}},
	{of(200, none, ""), []string{"200 "}},
	{of(299, [3]int{2, 999, 999}, ""), []string{"299 2.999.999 "}},
	{of(300, none, "", "", ""), []string{"300-", "300-", "300 "}},
	{of(399, none, " ", "  a "), []string{"399- ", "399   a "}},
	{of(400, [3]int{4, 0, 999}, "", "a"), []string{"400-4.0.999 ", "400 4.0.999 a"}},
	{of(499, [3]int{4, 10, 100}, "~", " "), []string{"499-4.10.100 ~", "499 4.10.100  "}},
	{of(500, [3]int{5, 5, 2}, "line"), []string{"500 5.5.2 line"}},
	{of(599, [3]int{5, 99, 0}, "-", "- "), []string{"599-5.99.0 -", "599 5.99.0 - "}},
	{of(550, none, "250 2.0.0 a", "no"), []string{"550-250 2.0.0 a", "550 no"}},
	{of(250, [3]int{2, 1, 0}, "2.1.0 a", "2.1.0 "), []string{"250-2.1.0 2.1.0 a", "250 2.1.0 2.1.0 "}},
	{of(250, none, "2.1.0", "2.1.0 a"), []string{"250-2.1.0", "250 2.1.0 a"}},
	{of(250, none, "2.1.0 a", "2.1.1 a"), []string{"250-2.1.0 a", "250 2.1.1 a"}},
	{of(250, none, "5.1.0 a"), []string{"250 5.1.0 a"}},
	{of(354, none, "3.0.0 a"), []string{"354 3.0.0 a"}},
	{of(250, none, " 2.0.0 a"), []string{"250  2.0.0 a"}},
	{of(250, none, x(506)), []string{"250 " + x(506)}},
	{of(250, [3]int{2, 0, 0}, x(500)), []string{"250 2.0.0 " + x(500)}},
	{of(450, [3]int{4, 100, 99}, x(497), ""), []string{"450-4.100.99 " + x(497), "450 4.100.99 "}},
	{of(250, none, times(32, "a")...), append(times(31, "250-a"), "250 a")},
	{of(550, [3]int{5, 1, 1}, times(32, x(500))...), append(times(31, "550-5.1.1 "+x(500)), "550 5.1.1 "+x(500))},
}

// behind: what may stand behind a reply's lines.
func behind() [][]string {
	return [][]string{nil, {""}, {"250 a"}, {"250-a"}, {"250-2.0.0 c", "250 2.0.0 d"}, {"x"}, {"\x00"}, {"250-" + x(600)}, times(40, "250-a"), {"", "\xff", "100 a"}}
}

// P7.1, P7.2, P7.3: a reply's lines, and back, whatever stands behind them; of fewer lines more are to come.
func TestLines(t *testing.T) {
	for _, k := range printed {
		if e := Right(k.r); e != api.OK {
			t.Errorf("Right(%s): %d", tell(k.r), e)
		}
		if l, e := Print(k.r); !slices.Equal(l, k.l) || e != api.OK {
			t.Errorf("Print(%s): %.80q, %d, not %.80q", tell(k.r), l, e, k.l)
		}
		for _, more := range behind() {
			if r, n, e := Parse(slices.Concat(k.l, more)); !alike(r, k.r) || n != len(k.l) || e != api.OK {
				t.Errorf("Parse(%.80q) with %.40q behind: %s, %d, %d, not %s", k.l, more, tell(r), n, e, tell(k.r))
			}
		}
		for i := range k.l {
			if r, n, e := Parse(k.l[:i]); !empty(r) || n != 0 || e != api.ErrEnd {
				t.Errorf("Parse(%.80q), %d of them: %s, %d, %d", k.l, i, tell(r), n, e)
			}
		}
	}
}

// P7.1: Class of any number.
func TestClass(t *testing.T) {
	for code := -1000; code <= 2000; code++ {
		want := 0
		if code >= 200 && code <= 599 {
			want = int(strconv.Itoa(code)[0] - '0')
		}
		if got := Class(code); got != want {
			t.Errorf("Class(%d): %d, not %d", code, got, want)
		}
	}
	for _, code := range []int{math.MinInt, math.MinInt32, math.MaxInt32, math.MaxInt, 1<<32 + 250} {
		if got := Class(code); got != 0 {
			t.Errorf("Class(%d): %d", code, got)
		}
	}
}

// P7.1: Right, and Print, of each code with enhanced ones.
func TestCodes(t *testing.T) {
	right := func(code int, e [3]int) bool {
		for _, first := range []int{2, 4, 5} {
			if code/100 == first && e[0] == first && e[1] >= 0 && e[1] < 1000 && e[2] >= 0 && e[2] < 1000 {
				return true
			}
		}
		return code >= 200 && code < 600 && e[0] == 0 && e[1] == 0 && e[2] == 0
	}
	numbers := []int{math.MinInt, -1, 0, 1, 999, 1000, math.MaxInt}
	for _, code := range []int{math.MinInt, -250, -2, 0, 2, 25, 99, 100, 199, 200, 250, 299, 300, 354, 399, 400, 499, 500, 599, 600, 999, 1000, 2000, 2500, math.MaxInt} {
		for _, first := range []int{math.MinInt, -2, -1, 0, 1, 2, 3, 4, 5, 6, 9, 20, 25, math.MaxInt} {
			for _, second := range numbers {
				for _, third := range numbers {
					e, want := [3]int{first, second, third}, api.ErrRange
					if right(code, e) {
						want = api.OK
					}
					if got := Right(of(code, e, "a")); got != want {
						t.Errorf("Right(%d, %d): %d, not %d", code, e, got, want)
					}
					if l, got := Print(of(code, e, "a")); got != want || (len(l) == 1) != (want == api.OK) {
						t.Errorf("Print(%d, %d): %q, %d, not %d", code, e, l, got, want)
					}
				}
			}
		}
	}
}

// P7.1: what is no reply, and why; the first that applies.
func TestWrong(t *testing.T) {
	two, many, bad, long := [3]int{2, 0, 0}, times(33, "a"), "a\n", x(507)
	for want, all := range map[api.Errno][]api.Reply{
		api.ErrRange: {
			{}, of(199, none, "a"), of(600, none, "a"), of(0, none, "a"), of(-250, none, "a"), of(250, [3]int{4, 0, 0}, "a"), of(250, [3]int{0, 0, 1}, "a"), of(354, [3]int{3, 0, 0}, "a"), of(354, two, "a"), of(250, [3]int{2, 1000, 0}, "a"), of(250, [3]int{2, 0, -1}, "a"), of(100, [3]int{1, 0, 0}, "a"), of(600, [3]int{6, 0, 0}, "a"),
			of(199, none), of(600, none, bad), of(199, none, many...), of(600, none, long), of(250, [3]int{5, 0, 0}), of(250, [3]int{5, 0, 0}, bad), of(250, [3]int{2, 0, 1000}, long), of(250, [3]int{2, -1, 0}, many...),
		},
		api.ErrForm: {
			of(250, none, "a\r\n"), of(250, none, "\x00"), of(250, none, "\x1f"), of(250, none, "\x7f"), of(250, none, "\u00e9"), of(250, none, "\xff"), of(250, none, "a\tb"), of(250, two, bad), of(250, none, "a", bad), of(250, none, bad, "a"), of(250, none, "a", bad, "a"),
			of(250, none, long, bad), of(250, none, bad, long), of(250, none, long+"\t"), of(250, none, append(slices.Clone(many), bad)...), of(250, none, append([]string{bad}, many...)...), of(250, two, append(times(32, long), bad)...),
		},
		api.ErrLong: {
			of(250, none), of(250, two), of(354, none, []string{}...), of(250, none, many...), of(250, two, times(33, "")...), of(250, none, times(1000, "a")...),
			of(250, none, long), of(250, none, long, "a"), of(250, none, "a", long), of(250, two, x(501)), of(250, two, "a", x(501), "a"), of(450, [3]int{4, 999, 999}, x(497)), of(450, [3]int{4, 10, 9}, x(500)), of(450, [3]int{4, 9, 10}, x(500)), of(250, none, x(100000)),
		},
	} {
		for _, r := range all {
			if e := Right(r); e != want {
				t.Errorf("Right(%s): %d, not %d", tell(r), e, want)
			}
			if l, e := Print(r); len(l) > 0 || e != want {
				t.Errorf("Print(%s): %.80q, %d, not %d", tell(r), l, e, want)
			}
		}
	}
}

// P7.1, P7.2: each byte at each place of a text, and of a line.
func TestBytes(t *testing.T) {
	for _, b := range each() {
		for _, text := range []string{b, b + "a", "a" + b, "a" + b + "c"} {
			want := api.OK
			if b < " " || b > "~" {
				want = api.ErrForm
			}
			for _, r := range []api.Reply{of(250, none, text), of(550, [3]int{5, 0, 0}, text), of(250, none, "a", text), of(250, none, text, "a")} {
				if e := Right(r); e != want {
					t.Fatalf("Right(%s): %d, not %d", tell(r), e, want)
				}
			}
			for _, l := range [][]string{{"250 " + text}, {"250-a", "250 " + text}, {"250-" + text, "250 a"}} {
				if r, n, e := Parse(l); e != want || (n == len(l)) != (want == api.OK) || empty(r) != (want != api.OK) {
					t.Fatalf("Parse(%q): %s, %d, %d, not %d", l, tell(r), n, e, want)
				}
			}
		}
	}
}

// P7.2: lines as they may be that aren't printed so, and how many of them are the reply's.
func TestParse(t *testing.T) {
	for _, k := range []struct {
		l []string
		r api.Reply
		n int
	}{
		{[]string{"250"}, of(250, none, ""), 1},
		{[]string{"250", "250 a"}, of(250, none, ""), 1},
		{[]string{"250-", "250"}, of(250, none, "", ""), 2},
		{[]string{"250-a", "250", "x"}, of(250, none, "a", ""), 2},
		{[]string{"250 a", "250-b"}, of(250, none, "a"), 1},
		{[]string{"250 a", "\x00"}, of(250, none, "a"), 1},
		{[]string{"354"}, of(354, none, ""), 1},
		{[]string{"250--", "250 -"}, of(250, none, "-", "-"), 2},
		{[]string{"250 250-a"}, of(250, none, "250-a"), 1},

		{[]string{"250 2.0.0"}, of(250, none, "2.0.0"), 1},
		{[]string{"250 2.0.0 "}, of(250, [3]int{2, 0, 0}, ""), 1},
		{[]string{"250 2.0.0  a "}, of(250, [3]int{2, 0, 0}, " a "), 1},
		{[]string{"250-2.0.0 a", "250 2.0.0"}, of(250, none, "2.0.0 a", "2.0.0"), 2},
		{[]string{"250-2.0.0 a", "250"}, of(250, none, "2.0.0 a", ""), 2},
		{[]string{"250-2.0.0 a", "250 b"}, of(250, none, "2.0.0 a", "b"), 2},
		{[]string{"250-a", "250 2.0.0 b"}, of(250, none, "a", "2.0.0 b"), 2},
		{[]string{"250-2.0.0 a", "250-2.0.1 b", "250 2.0.0 c"}, of(250, none, "2.0.0 a", "2.0.1 b", "2.0.0 c"), 3},
		{[]string{"250-2.0.0 a", "250 2.0.0 b", "250 c"}, of(250, [3]int{2, 0, 0}, "a", "b"), 2},
		{[]string{"250 2.00.0 a"}, of(250, none, "2.00.0 a"), 1},
		{[]string{"250 2.0.01 a"}, of(250, none, "2.0.01 a"), 1},
		{[]string{"250 02.0.0 a"}, of(250, none, "02.0.0 a"), 1},
		{[]string{"250 2.1000.0 a"}, of(250, none, "2.1000.0 a"), 1},
		{[]string{"250 2.0.1000 a"}, of(250, none, "2.0.1000 a"), 1},
		{[]string{"250 2.999.999 a"}, of(250, [3]int{2, 999, 999}, "a"), 1},
		{[]string{"250 2.0 a"}, of(250, none, "2.0 a"), 1},
		{[]string{"250 2.0.0.0 a"}, of(250, none, "2.0.0.0 a"), 1},
		{[]string{"250 2.0.0. a"}, of(250, none, "2.0.0. a"), 1},
		{[]string{"250 2..0 a"}, of(250, none, "2..0 a"), 1},
		{[]string{"250 .0.0 a"}, of(250, none, ".0.0 a"), 1},
		{[]string{"250 2.-1.0 a"}, of(250, none, "2.-1.0 a"), 1},
		{[]string{"250 2.+1.0 a"}, of(250, none, "2.+1.0 a"), 1},
		{[]string{"250 2.0.0a b"}, of(250, none, "2.0.0a b"), 1},
		{[]string{"250 2.0.0-a b"}, of(250, none, "2.0.0-a b"), 1},
		{[]string{"250  2.0.0 b"}, of(250, none, " 2.0.0 b"), 1},
		{[]string{"250 4.0.0 a"}, of(250, none, "4.0.0 a"), 1},
		{[]string{"250 0.0.0 a"}, of(250, none, "0.0.0 a"), 1},
		{[]string{"354 3.0.0 a"}, of(354, none, "3.0.0 a"), 1},
		{[]string{"450 4.0.0 a"}, of(450, [3]int{4, 0, 0}, "a"), 1},
		{[]string{"550 4.0.0 a"}, of(550, none, "4.0.0 a"), 1},

		{[]string{"250 " + x(506)}, of(250, none, x(506)), 1},
		{append(times(31, "250-"+x(506)), "250"), of(250, none, append(times(31, x(506)), "")...), 32},
	} {
		if r, n, e := Parse(k.l); !alike(r, k.r) || n != k.n || e != api.OK {
			t.Errorf("Parse(%.80q): %s, %d, %d, not %s, %d", k.l, tell(r), n, e, tell(k.r), k.n)
		}
	}
}

// P7.2: what no first lines tell a reply, and why: line by line, and of a line the form ahead of the length.
func TestParseWrong(t *testing.T) {
	long := "250-" + x(507)
	for want, all := range map[api.Errno][][]string{
		api.ErrForm: {
			{""}, {"2"}, {"25"}, {"25 "}, {"abc"}, {"25a a"}, {"2.0.0 a"}, {" 250 a"}, {"-250 a"}, {"+25 a"}, {"2 5 a"}, {"199 a"}, {"600 a"}, {"100"}, {"000 a"}, {"020 a"}, {"099-a"}, {"999 a"}, {"0250 a"},
			{"250a"}, {"2500"}, {"250.a"}, {"250:a"}, {"250\ta"}, {"250\r"}, {"250\r\n"}, {"250 a\r\n"}, {"250 a\n"}, {"250\x00"}, {"250 \x7f"}, {"250 \u00e9"}, {"250_a"}, {"250+a"}, {"250,a"}, {"\u0662\u0665\u0660 a"},
			{"250-a", ""}, {"250-a", "25"}, {"250-a", "251 a"}, {"250-a", "350 a"}, {"250-a", "450"}, {"250-a", "200-a"}, {"250-a", "a"}, {"250-a", "2.0.0 a"}, {"250-a", "250a"}, {"250-a", "250 \t"}, {"250-a", "250-b", "251 c"},
			{"", "250 a"}, {"250-\x00", "250 a"}, {"", long}, {"250-a", "251-a", long},
			{long + "\x00"}, {"999" + x(600)}, {"250" + x(600)}, {"250-a", "251-" + x(600)},
			append(times(32, "250-a"), ""), append(times(32, "250-a"), "251 a"), append(times(32, "250-a"), "250 \x00"), append(times(31, "250-a"), "251 a"),
		},
		api.ErrLong: {
			{long}, {"250 " + x(507)}, {"250 " + x(100000)}, {"250-2.0.0 " + x(501)}, {"250 2.0.0 " + x(501)}, {long, "250 a"}, {long, ""}, {long, "251 a"}, {"250-a", long}, {"250-a", "250 " + x(507)},
			append(times(32, "250-a"), "250 a"), append(times(32, "250-a"), "250-a"), append(times(32, "250-a"), "250"), times(100, "250-a"), append(times(32, "250-a"), long), append(append(times(32, "250-a"), "250 a"), ""),
		},
		api.ErrEnd: {
			nil, {}, {"250-"}, {"250-a"}, {"250-250 a"}, {"250-2.0.0 a"}, {"250-a", "250-b"}, {"250-" + x(506)}, times(31, "250-a"), times(32, "250-a"), {"250-2.0.0 a", "250-2.0.0 b"}, {"354-"},
		},
	} {
		for _, l := range all {
			if r, n, e := Parse(l); !empty(r) || n != 0 || e != want {
				t.Errorf("Parse(%.80q): %s, %d, %d, not %d", l, tell(r), n, e, want)
			}
		}
	}
}

var (
	lineOf     = regexp.MustCompile(`\A([2-5][0-9]{2})(?:([- ])([ -~]*))?\z`)
	enhancedOf = regexp.MustCompile(`\A([245])\.(0|[1-9][0-9]{0,2})\.(0|[1-9][0-9]{0,2}) `)
)

// plainParse answers what Parse is to, told once more and plainly.
func plainParse(l []string) (api.Reply, int, api.Errno) {
	r := api.Reply{}
	for i, s := range l {
		m := lineOf.FindStringSubmatch(s)
		switch {
		case m == nil || i > 0 && strconv.Itoa(r.Code) != m[1]:
			return api.Reply{}, 0, api.ErrForm
		case len(s) > 510 || i >= 32:
			return api.Reply{}, 0, api.ErrLong
		}
		r.Code, _ = strconv.Atoi(m[1])
		r.Text = append(r.Text, m[3])
		if m[2] == "-" {
			continue
		}
		first := enhancedOf.FindStringSubmatch(r.Text[0])
		if first == nil || first[1] != m[1][:1] {
			return r, i + 1, api.OK
		}
		for _, text := range r.Text {
			if !strings.HasPrefix(text, first[0]) {
				return r, i + 1, api.OK
			}
		}
		for k := range r.Enhanced {
			r.Enhanced[k], _ = strconv.Atoi(first[k+1])
		}
		for k, text := range r.Text {
			r.Text[k] = text[len(first[0]):]
		}
		return r, i + 1, api.OK
	}
	return api.Reply{}, 0, api.ErrEnd
}

// hold holds Parse against what is plainly so; and what is parsed is a reply, that is parsed again from its own lines.
func hold(t *testing.T, l ...string) {
	t.Helper()
	want, count, wrong := plainParse(l)
	r, n, e := Parse(l)
	if !alike(r, want) || n != count || e != wrong {
		t.Fatalf("Parse(%.80q): %s, %d, %d, not %s, %d, %d", l, tell(r), n, e, tell(want), count, wrong)
	}
	if e != api.OK {
		return
	}
	lines, e := Print(r)
	if e != api.OK || len(lines) != n {
		t.Fatalf("Print(%s): %.80q, %d", tell(r), lines, e)
	}
	if again, n, e := Parse(lines); !alike(again, r) || n != len(lines) || e != api.OK {
		t.Fatalf("Parse(%.80q): %s, %d, %d, not %s", lines, tell(again), n, e, tell(r))
	}
}

// P7.2: Parse, of all short lines of the bytes that matter.
func TestParseAll(t *testing.T) {
	for _, s := range texts("250- \t", 6) {
		hold(t, s)
		hold(t, "250-", s)
	}
	for _, s := range texts("2.01 ", 7) {
		hold(t, "250 "+s)
	}
	for _, s := range texts("02459. ", 3) {
		for _, code := range []string{"250", "354", "450", "550"} {
			hold(t, code+" "+s+".0.0 a")
			hold(t, code+" 4."+s+".0 a")
			hold(t, code+" 2.0."+s+" a")
			hold(t, code+" 5.0.1"+s+" a")
		}
	}
	some := []string{"", "a", "2.0.0", "2.0.0 ", "2.0.0 a", "2.0.1 a", "2.0.00 a", "4.0.0 a", " 2.0.0 a"}
	for _, a := range some {
		for _, b := range some {
			for _, c := range some {
				for _, sign := range []string{" ", "-"} {
					hold(t, "250-"+a, "250"+sign+b, "250 "+c)
					hold(t, "450-"+a, "450-"+b, "450"+sign+c, "450")
				}
			}
		}
	}
}

// P7.2: Parse, of each code of three bytes that are digits, or not.
func TestParseCodes(t *testing.T) {
	for _, a := range each() {
		for _, b := range texts("0159+- a", 2) {
			for _, behind := range []string{"", " ", "-", "a", " a", " 2.0.0 a", " 5.0.0 a"} {
				hold(t, a+b+behind)
			}
		}
	}
	for code := range 1000 {
		text := strconv.Itoa(1000 + code)[1:]
		hold(t, text+" a")
		hold(t, text+"-a", "250 a")
		hold(t, "250-a", text+" a")
	}
}

// P7.3: what was printed is parsed, however many lines it has; but that an enhanced code of texts alone is taken for one.
func TestBack(t *testing.T) {
	some := []string{"", " ", "a", "2.0.0", "2.0.0 ", "2.0.0 a", "2.0.1 b", "4.0.0 a", "250 a", "-", "250-"}
	for _, code := range []int{200, 250, 354, 450, 599} {
		for _, e := range [][3]int{none, {2, 0, 0}, {2, 0, 1}, {4, 0, 0}, {5, 999, 10}} {
			for _, a := range some {
				for _, b := range some {
					for _, r := range []api.Reply{of(code, e, a), of(code, e, a, b), of(code, e, a, b, a)} {
						back(t, r)
					}
				}
			}
		}
	}
	for n := 1; n <= 32; n++ {
		back(t, of(250, none, times(n, "a")...))
		back(t, of(250, [3]int{2, 0, 0}, times(n, "")...))
	}
}

// back prints a reply, if it is one, and parses it.
func back(t *testing.T, r api.Reply) {
	t.Helper()
	l, e := Print(r)
	if e != Right(r) {
		t.Fatalf("Print(%s): %d, but Right: %d", tell(r), e, Right(r))
	}
	if e != api.OK {
		return
	}
	want := r
	if r.Enhanced == none {
		want, _, _ = plainParse(l)
	}
	for _, more := range behind() {
		if got, n, e := Parse(slices.Concat(l, more)); !alike(got, want) || n != len(l) || e != api.OK {
			t.Fatalf("%.80q with %.40q behind: %s, %d, %d, not %s", l, more, tell(got), n, e, tell(want))
		}
	}
	for i := range l {
		if _, _, e := Parse(l[:i]); e != api.ErrEnd {
			t.Fatalf("%.80q, %d of them: %d", l, i, e)
		}
	}
}

// P7.1: Of, and what is wrong: the enhanced code is told ahead of all else.
func TestOf(t *testing.T) {
	long := x(507)
	for _, k := range []struct {
		code     int
		enhanced string
		text     []string
		r        api.Reply
		e        api.Errno
	}{
		{250, "2.0.0", []string{"a", "b"}, of(250, [3]int{2, 0, 0}, "a", "b"), api.OK},
		{250, "", []string{"a"}, of(250, none, "a"), api.OK},
		{250, "", []string{""}, of(250, none, ""), api.OK},
		{354, "", []string{"go"}, of(354, none, "go"), api.OK},
		{421, "4.10.999", []string{"a"}, of(421, [3]int{4, 10, 999}, "a"), api.OK},
		{599, "5.0.1", times(32, ""), of(599, [3]int{5, 0, 1}, times(32, "")...), api.OK},
		{250, "", []string{"2.0.0 a"}, of(250, none, "2.0.0 a"), api.OK},
		{250, "2.0.0", []string{"2.0.0 a"}, of(250, [3]int{2, 0, 0}, "2.0.0 a"), api.OK},
		{250, "2.0.0", []string{x(500)}, of(250, [3]int{2, 0, 0}, x(500)), api.OK},
		{250, "", []string{x(506)}, of(250, none, x(506)), api.OK},

		{250, "", nil, api.Reply{}, api.ErrLong},
		{250, "2.0.0", nil, api.Reply{}, api.ErrLong},
		{250, "", []string{long}, api.Reply{}, api.ErrLong},
		{250, "2.0.0", []string{x(501)}, api.Reply{}, api.ErrLong},
		{250, "", times(33, "a"), api.Reply{}, api.ErrLong},
		{250, "", []string{"a", "\n"}, api.Reply{}, api.ErrForm},
		{250, "2.0.0", []string{long, "\x7f"}, api.Reply{}, api.ErrForm},
		{250, "", append(times(33, "a"), "\x00"), api.Reply{}, api.ErrForm},
		{199, "", []string{"a"}, api.Reply{}, api.ErrRange},
		{600, "", nil, api.Reply{}, api.ErrRange},
		{0, "", []string{"\n"}, api.Reply{}, api.ErrRange},
		{-250, "", []string{long}, api.Reply{}, api.ErrRange},
		{math.MinInt, "", []string{"a"}, api.Reply{}, api.ErrRange},

		{199, "2.0.0", []string{"a"}, api.Reply{}, api.ErrForm},
		{100, "1.0.0", []string{"a"}, api.Reply{}, api.ErrForm},
		{600, "6.0.0", []string{"a"}, api.Reply{}, api.ErrForm},
		{0, "0.0.0", nil, api.Reply{}, api.ErrForm},
		{0, "x", nil, api.Reply{}, api.ErrForm},
		{250, "x", nil, api.Reply{}, api.ErrForm},
		{250, "4.0.0", []string{long}, api.Reply{}, api.ErrForm},
		{354, "3.0.0", []string{"go"}, api.Reply{}, api.ErrForm},
		{354, "0.0.0", []string{"go"}, api.Reply{}, api.ErrForm},
	} {
		given := slices.Clone(k.text)
		if r, e := Of(k.code, k.enhanced, k.text...); !alike(r, k.r) || e != k.e {
			t.Errorf("Of(%d, %q, %.40q): %s, %d, not %s, %d", k.code, k.enhanced, k.text, tell(r), e, tell(k.r), k.e)
		}
		if !slices.Equal(given, k.text) {
			t.Errorf("Of changed %.80q", given)
		}
	}
	for _, enhanced := range []string{
		" ", "2", "2.0", "2.0.", "2..0", ".0.0", "..", "2.0.0.", "2.0.0.0", ".2.0.0", " 2.0.0", "2.0.0 ", "2.0.0 a", "2. 0.0", "2,0,0", "2-0-0", "02.0.0", "2.00.0", "2.0.00", "2.01.0", "2.0.01", "2.1000.0", "2.0.1000", "2.0000.0",
		"+2.0.0", "2.+0.0", "2.0.+0", "-2.0.0", "2.-0.0", "2.0.-1", "0.0.0", "0.0.1", "1.0.0", "3.0.0", "4.0.0", "5.0.0", "20.0.0", "22.0.0", "2.0.a", "2.a.0", "a.0.0", "2.0.\u0660", "2.0.0\n", "2.0.0\x00", "2.0x1.0", "2.1_0.0", strings.Repeat(".", 100000), "2.0." + strings.Repeat("1", 100000), "2.0.18446744073709551616",
	} {
		if r, e := Of(250, enhanced, "a"); !empty(r) || e != api.ErrForm {
			t.Errorf("Of(250, %.40q): %s, %d", enhanced, tell(r), e)
		}
	}
	for n := range 1000 {
		text := strconv.Itoa(n)
		if r, e := Of(550, "5."+text+".0", "a"); r.Enhanced != [3]int{5, n, 0} || e != api.OK {
			t.Errorf("Of(550, 5.%d.0): %s, %d", n, tell(r), e)
		}
		if r, e := Of(450, "4.0."+text, "a"); r.Enhanced != [3]int{4, 0, n} || e != api.OK {
			t.Errorf("Of(450, 4.0.%d): %s, %d", n, tell(r), e)
		}
	}
}

// P7.2: Same, of any two, replies or not.
func TestSame(t *testing.T) {
	all := []api.Reply{
		{}, of(250, none, "a"), of(251, none, "a"), of(250, [3]int{2, 0, 0}, "a"), of(250, [3]int{2, 0, 1}, "a"), of(250, [3]int{2, 1, 0}, "a"), of(250, [3]int{3, 0, 0}, "a"), of(250, none, "A"), of(250, none, "b"), of(250, none, ""), of(250, none), of(250, none, "a", "b"), of(250, none, "a", "c"), of(250, none, "b", "a"), of(250, none, "a", "b", ""), of(250, none, "ab"), of(250, none, "", "a"), of(250, none, "a", ""), of(250, none, "2.0.0 a"), of(0, none, ""), of(-1, [3]int{-1, 0, 0}, "\x00"),
	}
	for i, a := range all {
		for j, b := range all {
			b.Text = slices.Clone(b.Text)
			if got := Same(a, b); got != (i == j) {
				t.Errorf("Same(%s, %s): %t", tell(a), tell(b), got)
			}
		}
	}
	if !Same(of(250, none), of(250, none, []string{}...)) || !Same(api.Reply{Text: []string{}}, api.Reply{}) {
		t.Error("Same: no text and no lines of it are alike")
	}
}

// shared tells if two lists have room in common.
func shared(a, b []string) bool {
	a, b = a[:cap(a)], b[:cap(b)]
	return len(a) > 0 && len(b) > 0 && &a[len(a)-1] == &b[len(b)-1]
}

// within tells if a text is a piece of another.
func within(part, whole string) bool {
	at, from := uintptr(unsafe.Pointer(unsafe.StringData(part))), uintptr(unsafe.Pointer(unsafe.StringData(whole)))
	return len(part) > 0 && at >= from && at < from+uintptr(len(whole))
}

// Rule 3: what is handed in is as it was, and its spare room; and no answer lies there.
func TestApart(t *testing.T) {
	room := func() []string {
		l := []string{strings.Clone("250-2.0.0 ab"), strings.Clone("250 2.0.0 cd"), "spare"}
		return l[:2]
	}
	kept := func(l []string) bool { return slices.Equal(l[:3], append(room(), "spare")) }

	l := room()
	r, _, e := Parse(l)
	if e != api.OK || !kept(l) || shared(r.Text, l) || within(r.Text[0], l[0]) || within(r.Text[1], l[1]) {
		t.Errorf("Parse: %s, %d, of %q", tell(r), e, l[:3])
	}
	if r, _, e = Parse(l[1:]); e != api.OK || shared(r.Text, l) || within(r.Text[0], l[1]) {
		t.Errorf("Parse of one: %s, %d", tell(r), e)
	}
	plain := []string{strings.Clone("250 ab")}
	if r, _, e = Parse(plain); e != api.OK || within(r.Text[0], plain[0]) {
		t.Errorf("Parse without an enhanced code: %s, %d", tell(r), e)
	}

	l = room()
	if r, e = Of(250, "", l...); e != api.OK || !kept(l) || shared(r.Text, l) || within(r.Text[0], l[0]) || !slices.Equal(r.Text, l) {
		t.Errorf("Of: %s, %d, of %q", tell(r), e, l[:3])
	}
	l[0] = "changed"
	if r.Text[0] == l[0] {
		t.Error("Of kept what was handed in")
	}

	l = room()
	r = of(250, none, l...)
	a, _ := Print(r)
	b, _ := Print(r)
	if !kept(l) || shared(a, l) || shared(a, b) {
		t.Errorf("Print: %q and %q, of %q", a, b, l[:3])
	}
	if Right(r) != api.OK || !Same(r, r) || !kept(l) {
		t.Errorf("Right or Same changed %q", l[:3])
	}
}
