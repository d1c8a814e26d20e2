package xtext

import (
	"strconv"
	"strings"
	"testing"
	"unsafe"

	"duepost/api"
)

// allPlain: the plain signs, one by one as the chapter tells them (33 to 126, but + and =).
const allPlain = `!"#$%&'()*` + `,-./0123456789:;<` + `>?@ABCDEFGHIJKLMNOPQRSTUVWXYZ[\]^_` + "`abcdefghijklmnopqrstuvwxyz{|}~"

// each answers all bytes, as texts of one.
func each() []string {
	all := make([]string, 256)
	for n := range all {
		all[n] = string([]byte{byte(n)})
	}
	return all
}

// byDigits answers the sign that tells a byte by its digits.
func byDigits(b byte) string {
	s := strings.ToUpper(strconv.FormatInt(int64(b), 16))
	return "+" + strings.Repeat("0", 2-len(s)) + s
}

// plainly answers by the words of the chapter alone what a text's xtext is.
func plainly(s string) string {
	word := ""
	for i := range len(s) {
		if strings.Contains(allPlain, s[i:i+1]) {
			word += s[i : i+1]
		} else {
			word += byDigits(s[i])
		}
	}
	return word
}

// signs answers all signs of xtext, by the texts that they tell.
func signs() map[string]string {
	all := map[string]string{}
	for _, b := range each() {
		all[byDigits(b[0])] = b
	}
	for i := range len(allPlain) {
		all[allPlain[i:i+1]] = allPlain[i : i+1]
	}
	return all
}

// P2.1: Encode and Count, of ordinary texts and at the edges of what is plain.
func TestEncode(t *testing.T) {
	for _, x := range []struct{ s, want string }{
		{"", ""},
		{"a b", "a+20b"},
		{"QQ314159", "QQ314159"},
		{"bob@example.com", "bob@example.com"},
		{"!", "!"},
		{"~", "~"},
		{" ", "+20"},
		{"\x7f", "+7F"},
		{"+", "+2B"},
		{"=", "+3D"},
		{"*", "*"},
		{",", ","},
		{"<", "<"},
		{">", ">"},
		{"\x00\x01\x0a\x0d\x1f", "+00+01+0A+0D+1F"},
		{"\x80\x9f\xa0\xff", "+80+9F+A0+FF"},
		{"é", "+C3+A9"},
		{"+20", "+2B20"},
		{"a+b=c", "a+2Bb+3Dc"},
		{allPlain, allPlain},
		{strings.Repeat("=", 256), strings.Repeat("+3D", 256)},
	} {
		if got := Encode(x.s); got != x.want {
			t.Errorf("Encode(%q): %q, not %q", x.s, got, x.want)
		}
		if n := Count(x.s); n != len(x.want) {
			t.Errorf("Count(%q): %d, not %d", x.s, n, len(x.want))
		}
	}
}

// P2.1: Encode and Count, of all texts of up to two bytes.
func TestEncodeAll(t *testing.T) {
	for _, a := range each() {
		for _, b := range append(each(), "") {
			want := plainly(a + b)
			if got := Encode(a + b); got != want {
				t.Fatalf("Encode(%q): %q, not %q", a+b, got, want)
			}
			if n := Count(a + b); n != len(want) {
				t.Fatalf("Count(%q): %d, not %d", a+b, n, len(want))
			}
		}
	}
}

// P2.1: Decode and Canon of what is right.
func TestDecode(t *testing.T) {
	for _, x := range []struct{ s, want, canon string }{
		{"", "", ""},
		{"a+20b", "a b", "a+20b"},
		{"abc", "abc", "abc"},
		{"+41", "A", "A"},
		{"+41+42C", "ABC", "ABC"},
		{"+2B", "+", "+2B"},
		{"+3D", "=", "+3D"},
		{"+2B41", "+41", "+2B41"},
		{"+2B+34+31", "+41", "+2B41"},
		{"+21+7E", "!~", "!~"},
		{"+20+7F", " \x7f", "+20+7F"},
		{"+00+0F+F0+FF", "\x00\x0f\xf0\xff", "+00+0F+F0+FF"},
		{"+12", "\x12", "+12"},
		{"+411", "A1", "A1"},
		{"+C3+A9", "é", "+C3+A9"},
		{"a+61a", "aaa", "aaa"},
		{allPlain, allPlain, allPlain},
		{strings.Repeat("+61", 1000), strings.Repeat("a", 1000), strings.Repeat("a", 1000)},
	} {
		if got, e := Decode(x.s); got != x.want || e != api.OK {
			t.Errorf("Decode(%.40q): %.40q, %d", x.s, got, e)
		}
		if got, e := Canon(x.s); got != x.canon || e != api.OK {
			t.Errorf("Canon(%.40q): %.40q, %d", x.s, got, e)
		}
	}
}

// P2.1: Decode and Canon of what isn't signs of xtext: nothing is told but the error.
func TestDecodeWrong(t *testing.T) {
	for _, s := range []string{
		"=", "a=b", "=41", "+3D=",
		" ", "a b", "a ", " a", "\x00", "\t", "a\r\n", "\x1f", "\x7f", "\x80", "\xff", "é",
		"+", "+4", "a+", "a+4", "++", "+++", "++41", "+4+1", "+4+41", "+41+", "+41+4",
		"+4a", "+a4", "+ff", "+fF", "+Ff", "+2b", "+3d",
		"+G0", "+0G", "+/0", "+0/", "+:0", "+0:", "+@0", "+0@", "+`0", "+g0",
		"+ 1", "+1 ", "+-1", "+0x", "+x0", "+4\x00", "+\x00", "+\xff\xff", "+é",
		"+4=", "+=1", strings.Repeat("a", 1000) + "=", strings.Repeat("+41", 1000) + "+4",
	} {
		if got, e := Decode(s); got != "" || e != api.ErrForm {
			t.Errorf("Decode(%.40q): %.40q, %d", s, got, e)
		}
		if got, e := Canon(s); got != "" || e != api.ErrForm {
			t.Errorf("Canon(%.40q): %.40q, %d", s, got, e)
		}
	}
}

// P2.1: what each + and two bytes more tell.
func TestDecodeDigits(t *testing.T) {
	right := signs()
	for _, a := range each() {
		for _, b := range each() {
			s := "+" + a + b
			want, is := right[s]
			wrong := api.OK
			if !is {
				wrong = api.ErrForm
			}
			if got, e := Decode(s); got != want || e != wrong {
				t.Fatalf("Decode(%q): %q, %d", s, got, e)
			}
		}
	}
}

// P2.1: one byte is a sign just if it is plain; and two are, if both are.
func TestDecodeBytes(t *testing.T) {
	for _, a := range append(each(), "") {
		for _, b := range each() {
			want, wrong := a+b, api.OK
			if a != "" && !strings.Contains(allPlain, a) || !strings.Contains(allPlain, b) {
				want, wrong = "", api.ErrForm
			}
			if got, e := Decode(a + b); got != want || e != wrong {
				t.Fatalf("Decode(%q): %q, %d", a+b, got, e)
			}
		}
	}
}

// P2.2: what was encoded is decoded; its xtext has plain signs and + alone, and is its own canon.
func TestBack(t *testing.T) {
	texts := []string{"", "a b", "+41", "=", "x@y.z", strings.Join(each(), ""), strings.Repeat("\x00~ ", 500)}
	for _, a := range each() {
		for _, b := range each() {
			texts = append(texts, a+b)
		}
	}
	for _, s := range texts {
		word := Encode(s)
		if got, e := Decode(word); got != s || e != api.OK {
			t.Fatalf("%.40q, encoded %.40q: %.40q, %d", s, word, got, e)
		}
		if left := strings.Trim(word, allPlain+"+"); left != "" {
			t.Fatalf("%.40q, encoded: %.40q", s, word)
		}
		if got, e := Canon(word); got != word || e != api.OK {
			t.Fatalf("Canon(%.40q): %.40q, %d", word, got, e)
		}
	}
}

// P2.2: one text has one xtext, by whatever signs it was told.
func TestCanon(t *testing.T) {
	right := signs()
	for a, x := range right {
		for b, y := range right {
			want := plainly(x + y)
			if got, e := Canon(a + b); got != want || e != api.OK {
				t.Fatalf("Canon(%q): %q, %d, not %q", a+b, got, e, want)
			}
		}
	}
}

// Rule 3: no answer is a piece of what is handed in.
func TestApart(t *testing.T) {
	s := strings.Clone("plain")
	decoded, _ := Decode(s)
	canon, _ := Canon(s)
	for _, got := range []string{Encode(s), decoded, canon} {
		if got != s || unsafe.StringData(got) == unsafe.StringData(s) {
			t.Errorf("%q lies where the text lies", got)
		}
	}
}
