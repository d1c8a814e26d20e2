package line

import (
	"math"
	"slices"
	"strings"
	"testing"
	"unsafe"

	"duepost/api"
)

// cutter answers a cutter that may be.
func cutter(t *testing.T, most int) *Cutter {
	t.Helper()
	c, e := New(most)
	if c == nil || e != api.OK {
		t.Fatalf("New(%d): %v, %d", most, c, e)
	}
	return c
}

// texts answers all texts of these bytes, up to that length.
func texts(bytes string, length int) []string {
	all := []string{""}
	for from := 0; length > 0; length-- {
		to := len(all)
		for _, s := range all[from:to] {
			for i := range len(bytes) {
				all = append(all, s+bytes[i:i+1])
			}
		}
		from = to
	}
	return all
}

// P1.1: what a New is told.
func TestNew(t *testing.T) {
	for _, most := range []int{math.MinInt, -2, -1, 0, 1, 1<<16 + 1, 1 << 32, math.MaxInt} {
		if c, e := New(most); c != nil || e != api.ErrRange {
			t.Errorf("New(%d): %v, %d", most, c, e)
		}
	}
	for _, most := range []int{2, 3, api.MaxLine, api.MaxText, 1<<16 - 1, 1 << 16} {
		c := cutter(t, most)
		if c.Pending() != 0 || c.Lines() != 0 {
			t.Errorf("New(%d): %d pending, %d lines", most, c.Pending(), c.Lines())
		}
	}
}

// P1.1: the lines, and what stands behind the last one's end.
func TestFeed(t *testing.T) {
	long, form := Line{Wrong: api.ErrLong}, Line{Wrong: api.ErrForm}
	for _, x := range []struct {
		most    int
		pieces  []string
		want    []Line
		pending int
	}{
		{512, nil, nil, 0},
		{512, []string{"", ""}, nil, 0},
		{512, []string{"abc"}, nil, 3},
		{512, []string{"\r\n"}, []Line{{}}, 0},
		{512, []string{"HELO a\r\n"}, []Line{{Text: "HELO a"}}, 0},
		{512, []string{"a\r\n\r\nb\r\nc"}, []Line{{Text: "a"}, {}, {Text: "b"}}, 1},
		{512, []string{"a", "", "b\r", "", "\nc\r", "\n\r"}, []Line{{Text: "ab"}, {Text: "c"}}, 1},
		{512, []string{"\t \x01\x7f\x80\xff\xc3\xa9\r\n"}, []Line{{Text: "\t \x01\x7f\x80\xff\xc3\xa9"}}, 0},

		{512, []string{"a\x00b\r\n"}, []Line{form}, 0},
		{512, []string{"a\nb\r\n"}, []Line{form}, 0},
		{512, []string{"a\rb\r\n"}, []Line{form}, 0},
		{512, []string{"a\r\r\nb\r\n"}, []Line{form, {Text: "b"}}, 0},
		{512, []string{"\n\r\nb\r\n"}, []Line{form, {Text: "b"}}, 0},
		{512, []string{"a\n", "b\r", "c", "\n\r"}, nil, 7},

		{2, []string{"\r\na\r\n\r\n"}, []Line{{}, long, {}}, 0},
		{2, []string{"\r\r\n\n\r\n\x00\r\n"}, []Line{long, long, long}, 0},
		{3, []string{"a\r\nab\r\n\r\r\n"}, []Line{{Text: "a"}, long, form}, 0},
		{8, []string{"123456\r\n1234567\r\n12345678\r\nx\r\n"}, []Line{{Text: "123456"}, long, long, {Text: "x"}}, 0},
		{8, []string{"1234567\r", "\n123456\r\n"}, []Line{long, {Text: "123456"}}, 0},
		{8, []string{"1\x0034567\r\n1\n34567\r\n1\r34567\r\n"}, []Line{long, long, long}, 0},
		{8, []string{"1234567890\rx\ry\n", "\r", "\nz"}, []Line{long}, 1},
		{8, []string{strings.Repeat("x", 1000)}, nil, 1000},
		{8, []string{strings.Repeat("x", 1000), "\r"}, nil, 1001},
		{1 << 16, []string{strings.Repeat("x", 1<<16-2), "\r\n"}, []Line{{Text: strings.Repeat("x", 1<<16-2)}}, 0},
		{1 << 16, []string{strings.Repeat("x", 1<<16-1), "\r\n"}, []Line{long}, 0},
	} {
		c := cutter(t, x.most)
		if got := c.Feed(x.pieces...); !slices.Equal(got, x.want) || c.Pending() != x.pending || c.Lines() != len(x.want) {
			t.Errorf("most %d, %.40q: %.40v, %d pending, %d lines", x.most, x.pieces, got, c.Pending(), c.Lines())
		}
	}
}

// P1.1: Pending and Lines go on from feed to feed, over lines that are wrong too.
func TestCounts(t *testing.T) {
	c := cutter(t, 4)
	for _, x := range []struct {
		piece          string
		pending, lines int
	}{{"a", 1, 0}, {"", 1, 0}, {"b\r", 3, 0}, {"\n", 0, 1}, {"abcdefgh", 8, 1}, {"ij", 10, 1}, {"\r\n", 0, 2}, {"\x00\r\nx\r\n", 0, 4}, {"\n\n\n", 3, 4}, {"\n\n\n", 6, 4}, {"\r\n\r\n\r", 1, 6}} {
		c.Feed(x.piece)
		if c.Pending() != x.pending || c.Lines() != x.lines {
			t.Errorf("behind %q: %d pending, %d lines", x.piece, c.Pending(), c.Lines())
		}
	}
}

// plainly answers by the words of the chapter alone what a cutter of that most answers, fed s whole.
func plainly(s string, most int) (l []Line, pending int) {
	parts := strings.Split(s, "\r\n")
	for _, text := range parts[:len(parts)-1] {
		switch {
		case len(text)+2 > most:
			l = append(l, Line{Wrong: api.ErrLong})
		case strings.Contains(text, "\x00") || strings.Contains(text, "\r") || strings.Contains(text, "\n"):
			l = append(l, Line{Wrong: api.ErrForm})
		default:
			l = append(l, Line{Text: text})
		}
	}
	return l, len(parts[len(parts)-1])
}

// P1.1, P1.3: however bytes are parted into pieces, and pieces into feeds.
func TestParts(t *testing.T) {
	for _, s := range append(texts("a\r\n\x00", 6), "ab\r\ncdefg\r\n\r\n", "\r\r\r\n\n\r\nab\r\n", "abcdef\r\n\r\nab") {
		for most := 2; most <= 5; most++ {
			want, pending := plainly(s, most)
			for i := 0; i <= len(s); i++ {
				whole, parted := cutter(t, most), cutter(t, most)
				once := whole.Feed(s[:i], s[i:])
				twice := slices.Concat(parted.Feed(s[:i]), parted.Feed(s[i:]))
				if !slices.Equal(once, want) || whole.Pending() != pending || whole.Lines() != len(want) {
					t.Fatalf("%q and %q, most %d: %v, %d pending, not %v, %d", s[:i], s[i:], most, once, whole.Pending(), want, pending)
				}
				if !slices.Equal(twice, want) || parted.Pending() != pending || parted.Lines() != len(want) {
					t.Fatalf("%q then %q, most %d: %v, %d pending, not %v, %d", s[:i], s[i:], most, twice, parted.Pending(), want, pending)
				}
			}
			single := cutter(t, most)
			if got := single.Feed(strings.Split(s, "")...); !slices.Equal(got, want) || single.Pending() != pending {
				t.Fatalf("%q by bytes, most %d: %v, %d pending", s, most, got, single.Pending())
			}
		}
	}
}

// P1.1: what is too much of a line is let go as it comes.
func TestLetGo(t *testing.T) {
	c := cutter(t, 100)
	piece := strings.Repeat("x", 1<<16)
	for range 64 {
		c.Feed(piece)
		if cap(c.kept) > 1<<10 || len(c.kept) > 100 {
			t.Fatalf("%d bytes are kept, room for %d", len(c.kept), cap(c.kept))
		}
	}
	if c.Pending() != 64<<16 {
		t.Error(c.Pending())
	}
	if l := c.Feed("\r\nx\r\n"); !slices.Equal(l, []Line{{Wrong: api.ErrLong}, {Text: "x"}}) {
		t.Errorf("%v", l)
	}
}

// Rule 3, and two cutters beside each other: nothing is shared.
func TestFeedApart(t *testing.T) {
	a, b := cutter(t, 64), cutter(t, 64)
	pieces := []string{"one\r\ntwo\r\nth", "over"}
	first := a.Feed(pieces[:1]...)
	if b.Pending() != 0 || b.Lines() != 0 || len(b.Feed("\r\n")) != 1 {
		t.Error("a cutter heard what another one was fed")
	}
	a.Feed("ree\r\nXXXXXXXX\r\n")
	if !slices.Equal(first, []Line{{Text: "one"}, {Text: "two"}}) {
		t.Errorf("an answer has changed: %v", first)
	}
	if !slices.Equal(pieces, []string{"one\r\ntwo\r\nth", "over"}) {
		t.Errorf("the pieces have changed: %q", pieces)
	}
	if within(first[0].Text, pieces[0]) {
		t.Error("a line is a piece of what was fed")
	}
}

// within tells if a text lies in the memory of another one.
func within(part, whole string) bool {
	at, from := uintptr(unsafe.Pointer(unsafe.StringData(part))), uintptr(unsafe.Pointer(unsafe.StringData(whole)))
	return len(part) > 0 && at >= from && at < from+uintptr(len(whole))
}

// P1.2: Plain.
func TestPlain(t *testing.T) {
	for n := range 256 {
		b := string([]byte{byte(n)})
		want := n != 0 && n != 10 && n != 13
		for _, s := range []string{b, b + "ab", "ab" + b, "a" + b + "b", strings.Repeat("é.", 40) + b, b + strings.Repeat("\xff ", 40)} {
			if Plain(s) != want {
				t.Errorf("Plain(%q)", s)
			}
		}
	}
	if !Plain("") || Plain("a\r\n") {
		t.Error("of none, or of an end")
	}
}

// P1.2: Data.
func TestData(t *testing.T) {
	x998, x999 := strings.Repeat("x", 998), strings.Repeat("x", 999)
	for _, x := range []struct {
		l    []string
		want string
		e    api.Errno
	}{
		{nil, ".\r\n", api.OK},
		{[]string{}, ".\r\n", api.OK},
		{[]string{""}, "\r\n.\r\n", api.OK},
		{[]string{".a"}, "..a\r\n.\r\n", api.OK},
		{[]string{".", "..", "...", "a.", " ."}, "..\r\n...\r\n....\r\na.\r\n .\r\n.\r\n", api.OK},
		{[]string{"Subject: a", "", "b\xff\t"}, "Subject: a\r\n\r\nb\xff\t\r\n.\r\n", api.OK},
		{[]string{x998}, x998 + "\r\n.\r\n", api.OK},
		{[]string{"." + x998[1:]}, ".." + x998[1:] + "\r\n.\r\n", api.OK},
		{[]string{x999}, "", api.ErrLong},
		{[]string{"a", "." + x998}, "", api.ErrLong},
		{[]string{"a\x00"}, "", api.ErrForm},
		{[]string{"a\r"}, "", api.ErrForm},
		{[]string{"a", "\nb"}, "", api.ErrForm},
		{[]string{"a\r\n"}, "", api.ErrForm},
		{[]string{x998 + "\n"}, "", api.ErrForm},
		{[]string{x999, "\x00"}, "", api.ErrForm},
	} {
		given := slices.Clone(x.l)
		if s, e := Data(x.l); s != x.want || e != x.e {
			t.Errorf("Data(%.40q): %.40q, %d", x.l, s, e)
		}
		if !slices.Equal(given, x.l) {
			t.Errorf("Data changed %.40q", given)
		}
	}
}

// P1.2: Undata.
func TestUndata(t *testing.T) {
	x998, x999, stop := strings.Repeat("x", 998), strings.Repeat("x", 999), "\r\n.\r\n"
	for _, x := range []struct {
		s    string
		l    []string
		rest string
		e    api.Errno
	}{
		{".\r\n", nil, "", api.OK},
		{".\r\nQUIT\r\n", nil, "QUIT\r\n", api.OK},
		{"\r\n.\r\n", []string{""}, "", api.OK},
		{"a\r\n\r\nb\r\n.\r\nc", []string{"a", "", "b"}, "c", api.OK},
		{"..\r\n...a\r\n.b\r\nc.\r\n .\r\n.\r\n.\r\n", []string{".", "..a", "b", "c.", " ."}, ".\r\n", api.OK},
		{".\r\na\x00\n\r" + x999 + x999, nil, "a\x00\n\r" + x999 + x999, api.OK},
		{x999 + stop, []string{x999}, "", api.OK},
		{"." + x998 + stop, []string{x998}, "", api.OK},

		{"", nil, "", api.ErrEnd},
		{".", nil, "", api.ErrEnd},
		{".\r", nil, "", api.ErrEnd},
		{".\n", nil, "", api.ErrEnd},
		{"\r\n.", nil, "", api.ErrEnd},
		{"a.\r\n", nil, "", api.ErrEnd},
		{"a\n.\r\n", nil, "", api.ErrEnd},
		{"a\r.\r\n", nil, "", api.ErrEnd},
		{"a\r\n..\r\n", nil, "", api.ErrEnd},
		{". \r\n", nil, "", api.ErrEnd},
		{".\r\r\n", nil, "", api.ErrEnd},
		{"a\x00\r\nb\n\r\n" + x999 + "x\r\n", nil, "", api.ErrEnd},

		{"a\x00" + stop, nil, "", api.ErrForm},
		{"a\nb" + stop, nil, "", api.ErrForm},
		{"a\r" + stop, nil, "", api.ErrForm},
		{"\n.\r\na" + stop + "c", nil, "", api.ErrForm},
		{".\r\r\n.\r\n", nil, "", api.ErrForm},
		{x999 + "x\r\n\r" + stop, nil, "", api.ErrForm},

		{x999 + "x" + stop, nil, "", api.ErrLong},
		{"a\r\n." + x999 + stop + "c", nil, "", api.ErrLong},
	} {
		if l, rest, e := Undata(x.s); !slices.Equal(l, x.l) || rest != x.rest || e != x.e {
			t.Errorf("Undata(%.40q): %.40q, %.40q, %d", x.s, l, rest, e)
		}
	}
}

// P1.2: Undata ends at the first line of one . alone, wherever ends and dots stand.
func TestUndataEnd(t *testing.T) {
	for _, s := range texts(".\r\na", 8) {
		behind := strings.Index("\r\n"+s, "\r\n.\r\n")
		l, rest, e := Undata(s)
		if behind < 0 {
			if e != api.ErrEnd || len(l) != 0 || rest != "" {
				t.Fatalf("Undata(%q): %q, %q, %d", s, l, rest, e)
			}
			continue
		}
		want, wrong := []string{}, api.OK
		for text := range strings.SplitSeq(s[:behind], "\r\n") {
			if behind > 0 {
				want = append(want, strings.TrimPrefix(text, "."))
			}
			if strings.ContainsAny(text, "\r\n") {
				wrong = api.ErrForm
			}
		}
		if behind > 0 { // the last line's own end
			want = want[:len(want)-1]
		}
		left := s[behind+3:]
		if wrong != api.OK {
			want, left = nil, ""
		}
		if !slices.Equal(l, want) || rest != left || e != wrong {
			t.Fatalf("Undata(%q): %q, %q, %d, not %q, %q, %d", s, l, rest, e, want, left, wrong)
		}
	}
}

// Rule 3: what Undata answers is no piece of what it is handed.
func TestUndataApart(t *testing.T) {
	s := strings.Clone("abc\r\n..def\r\n.\r\nrest")
	l, rest, e := Undata(s)
	if e != api.OK || len(l) != 2 || rest != "rest" {
		t.Fatalf("%q, %q, %d", l, rest, e)
	}
	for _, part := range append(l, rest) {
		if within(part, s) {
			t.Errorf("%q is a piece of the data", part)
		}
	}
}

// P1.3: what is laid as data is read back, by Undata and by a cutter, whatever stands behind it.
func TestBack(t *testing.T) {
	some := []string{"", ".", "..", "a", ".a", "a.", strings.Repeat("x", 998), "." + strings.Repeat(".", 997)}
	lists := [][]string{{}}
	for _, a := range some {
		lists = append(lists, []string{a})
		for _, b := range some {
			lists = append(lists, []string{a, b}, []string{a, b, a})
		}
	}
	for _, l := range lists {
		s, e := Data(l)
		if e != api.OK {
			t.Fatalf("Data(%.40q): %d", l, e)
		}
		for _, behind := range []string{"", ".", "\n", "\r\n", ".\r\n", "\r\n.\r\n", "x", "\x00", s} {
			if got, rest, e := Undata(s + behind); !slices.Equal(got, l) || rest != behind || e != api.OK {
				t.Fatalf("%.40q with %.40q behind: %.40q, %.40q, %d", l, behind, got, rest, e)
			}
		}
		c := cutter(t, api.MaxText+1)
		for i, x := range c.Feed(s) {
			if x.Wrong != api.OK || i < len(l) && strings.TrimPrefix(x.Text, ".") != l[i] {
				t.Fatalf("%.40q: line %d is %.40q, %d", l, i, x.Text, x.Wrong)
			}
		}
		if c.Lines() != len(l)+1 || c.Pending() != 0 {
			t.Fatalf("%.40q: %d lines, %d pending", l, c.Lines(), c.Pending())
		}
	}
}
