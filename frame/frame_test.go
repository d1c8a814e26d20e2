package frame

import (
	"bytes"
	"encoding/binary"
	"hash/crc32"
	"slices"
	"strings"
	"testing"
	"unsafe"

	"duepost/api"
)

// x answers so many letters.
func x(n int) string { return strings.Repeat("x", n) }

// each answers all bytes, one behind the other.
func each() string {
	all := make([]byte, 256)
	for n := range all {
		all[n] = byte(n)
	}
	return string(all)
}

// turned answers a text of which the byte at a place is turned by bits.
func turned(s string, at int, by byte) string {
	b := []byte(s)
	b[at] ^= by
	return string(b)
}

// plainSum answers a sum bit by bit, as the chapter tells it.
func plainSum(s string) uint32 {
	register := uint32(4294967295)
	for _, b := range []byte(s) {
		register ^= uint32(b)
		for n := 0; n < 8; n++ {
			if register%2 == 1 {
				register = register/2 ^ 3988292384
			} else {
				register /= 2
			}
		}
	}
	return register ^ 4294967295
}

// head answers what stands ahead of a record of that length.
func head(length int) string {
	b := binary.LittleEndian.AppendUint16(nil, uint16(length))
	return string(binary.LittleEndian.AppendUint32(b, crc32.ChecksumIEEE(b)))
}

// framed answers a record's frame by other means than Print.
func framed(record string) string {
	return head(len(record)) + record + string(binary.LittleEndian.AppendUint32(nil, crc32.ChecksumIEEE([]byte(record))))
}

// plainScan answers what Scan is to: as long as a frame of what its length tells stands there, to the byte.
func plainScan(s string) ([]string, int) {
	var records []string
	at := 0
	for len(s)-at >= 10 {
		length := int(binary.LittleEndian.Uint16([]byte(s[at:])))
		if len(s)-at < length+10 {
			break
		}
		record := s[at+6 : at+6+length]
		if s[at:at+length+10] != framed(record) {
			break
		}
		records = append(records, record)
		at += length + 10
	}
	return records, at
}

// expect holds Scan against the records that it is to answer, and their frames' bytes.
func expect(t *testing.T, s string, want []string, count int) {
	t.Helper()
	if l, n := Scan(s); !slices.Equal(l, want) || n != count {
		t.Fatalf("Scan(%.80q): %.40q, %d, not %.40q, %d", s, l, n, want, count)
	}
}

// hold holds Scan against what is plainly so.
func hold(t *testing.T, s string) {
	t.Helper()
	want, count := plainScan(s)
	expect(t, s, want, count)
}

// printed answers records' frames, which may be.
func printed(t *testing.T, records ...string) string {
	t.Helper()
	s, e := Print(records...)
	if e != api.OK {
		t.Fatalf("Print(%.80q): %d", records, e)
	}
	return s
}

// lists: records as they are printed together.
func lists() [][]string {
	return [][]string{
		nil, {""}, {"a"}, {"\x00"}, {"\xff"}, {"123456789"}, {"", ""}, {"a", "b"}, {"a", "", "b"}, {"a", "a", "a"}, {"", "", "", "a"},
		{each()}, {x(255)}, {x(256)}, {x(257), "a"}, {framed("a")}, {framed("a"), framed(""), "b"}, {"a", each(), "\r\n.\r\n"}, {strings.Repeat("\x00", 300), "a"},
	}
}

// P8.1: Sum, of texts whose sums are known.
func TestSum(t *testing.T) {
	for s, want := range map[string]uint32{
		"":          0,
		"123456789": 3421780262,
		"a":         0xe8b7be43,
		"abc":       0x352441c2,
		"The quick brown fox jumps over the lazy dog": 0x414fa339,
		"\x00":                     0xd202ef8d,
		"\x00\x00\x00\x00":         0x2144df1c,
		"\xff":                     0xff000000,
		"\xff\xff\xff\xff":         0xffffffff,
		strings.Repeat("\x00", 32): 0x190a55ad,
		strings.Repeat("\xff", 32): 0xff6cab0b,
	} {
		if got := Sum(s); got != want {
			t.Errorf("Sum(%q): %d, not %d", s, got, want)
		}
	}
}

// P8.1: Sum, of each text of up to two bytes, and of long ones.
func TestSumAll(t *testing.T) {
	all := []string{"", each(), each() + each(), x(65535), strings.Repeat(each(), 300), "é\x00\r\n"}
	for _, a := range []byte(each()) {
		all = append(all, string([]byte{a}), string([]byte{a, 0, 0, 0, 0, a}))
		for _, b := range []byte(each()) {
			all = append(all, string([]byte{a, b}))
		}
	}
	for _, s := range all {
		got := Sum(s)
		if want := plainSum(s); got != want || got != crc32.ChecksumIEEE([]byte(s)) {
			t.Fatalf("Sum(%.40q): %d, not %d", s, got, want)
		}
	}
}

// P8.1: Print and Size, byte by byte: of lengths and sums the lowest byte is first.
func TestPrint(t *testing.T) {
	for _, k := range []struct {
		records []string
		want    string
	}{
		{nil, ""},
		{[]string{}, ""},
		{[]string{""}, "\x00\x00\xff\x12\xd9\x41" + "\x00\x00\x00\x00"},
		{[]string{"a"}, "\x01\x00\xbe\x23\xc2\x58" + "a" + "\x43\xbe\xb7\xe8"},
		{[]string{"123456789"}, "\x09\x00\xb6\xa9\x1b\x90" + "123456789" + "\x26\x39\xf4\xcb"},
		{[]string{"a", ""}, "\x01\x00\xbe\x23\xc2\x58" + "a" + "\x43\xbe\xb7\xe8" + "\x00\x00\xff\x12\xd9\x41" + "\x00\x00\x00\x00"},
		{[]string{"", "a"}, "\x00\x00\xff\x12\xd9\x41" + "\x00\x00\x00\x00" + "\x01\x00\xbe\x23\xc2\x58" + "a" + "\x43\xbe\xb7\xe8"},
	} {
		if got, e := Print(k.records...); got != k.want || e != api.OK {
			t.Errorf("Print(%q): %q, %d, not %q", k.records, got, e, k.want)
		}
	}
	for _, records := range lists() {
		want, size := "", 0
		for _, record := range records {
			want += framed(record)
			size += Size(record)
			if n := Size(record); n != len(framed(record)) {
				t.Errorf("Size(%.40q): %d, not %d", record, n, len(framed(record)))
			}
		}
		if got := printed(t, records...); got != want || len(got) != size {
			t.Errorf("Print(%.80q): %.80q, not %.80q", records, got, want)
		}
	}
}

// P8.1, P8.2: records of all lengths that matter, up to the longest, as frames and back.
func TestLengths(t *testing.T) {
	all := []int{65535, 65534, 65280, 65279, 65281, 32768, 32767, 4096, 1000}
	for n := range 520 {
		all = append(all, n)
	}
	for _, n := range all {
		want := strings.Repeat(each(), 256)[:n]
		s := printed(t, want)
		if n != len(s)-10 || Size(want) != len(s) || s != framed(want) {
			t.Fatalf("Print of %d bytes: %.40q, Size %d", n, s, Size(want))
		}
		expect(t, s, []string{want}, n+10)
		expect(t, s[:len(s)-1], nil, 0)
		expect(t, s+s, []string{want, want}, 2*(n+10))
		expect(t, s+s[:len(s)-1], []string{want}, n+10)
	}
}

// P8.1: Print of a record that is too long, wherever it stands: nothing is told but the error.
func TestPrintLong(t *testing.T) {
	long := x(65536)
	for i, records := range [][]string{
		{long}, {long, "a"}, {"a", long}, {"a", long, "b"}, {long, long}, {"", "", long}, {x(65535), long}, {x(65537)}, {x(131072)}, {x(131071)}, {x(1 << 20)},
		append(slices.Repeat([]string{"a"}, 1000), long),
	} {
		if s, e := Print(records...); s != "" || e != api.ErrLong {
			t.Errorf("%d: Print: %.40q, %d", i, s, e)
		}
	}
	if s, e := Print(x(65535), "", x(65535)); s != framed(x(65535))+framed("")+framed(x(65535)) || e != api.OK {
		t.Errorf("Print of the longest: %d bytes, %d", len(s), e)
	}
	// Size names no bound, so that it counts by the form alone.
	for _, n := range []int{65535, 65536, 100000} {
		if got := Size(x(n)); got != n+10 {
			t.Errorf("Size of %d bytes: %d", n, got)
		}
	}
}

// behind: what is no frame, and may stand behind frames.
func behind() []string {
	one := framed("abc")
	return []string{
		"", "\x00", "a", each(), x(100000), strings.Repeat("\x00", 10), strings.Repeat("\x00", 100), strings.Repeat("\xff", 10), strings.Repeat("\xff", 70000),
		one[:1], one[:5], one[:6], one[:9], one[:len(one)-1], one[1:], "\x00" + one, turned(one, 0, 1) + one, turned(one, len(one)-1, 128) + one, turned(one, 7, 32),
		head(0), head(0) + "\x00\x00\x00\x01", head(4) + "abc" + one[9:], head(2) + "abc" + one[9:], head(3), head(65535), head(65535) + x(65535), head(0) + "\xff\xff\xff\xff", head(1) + "a" + "\xe8\xb7\xbe\x43",
		"\x00\x03" + one[2:], "\x03\x00\x00\x00\x00\x00" + one[6:], "\x03\x00" + one[6:], one[:6] + "abc", one[:6] + "abc\x00\x00\x00\x00", one[:6] + one[9:],
	}
}

// P8.2: what was printed is scanned, with whatever is no frame behind it.
func TestBehind(t *testing.T) {
	for _, records := range lists() {
		s := printed(t, records...)
		for _, more := range behind() {
			expect(t, s+more, records, len(s))
		}
	}
	for _, more := range behind() {
		expect(t, more, nil, 0)
		hold(t, more)
		hold(t, more+framed("a"))
	}
}

// P8.2: cut off anywhere, the records of the frames that are whole are scanned, and no more.
func TestCut(t *testing.T) {
	for _, records := range lists() {
		s := printed(t, records...)
		whole, end := 0, 0
		for n := range len(s) + 1 {
			if whole < len(records) && n == end+len(framed(records[whole])) {
				whole, end = whole+1, n
			}
			expect(t, s[:n], records[:whole], end)
		}
		if whole != len(records) {
			t.Fatalf("%.80q: %d of them whole", records, whole)
		}
	}
}

// P8.2: with one byte turned, in whatever way, just the records ahead of its frame are scanned.
func TestTurned(t *testing.T) {
	for _, records := range [][]string{{""}, {"a"}, {"a", "", "bc"}, {"\x00\x00\x00\x00", "\xff\xff"}, {framed("a"), "b"}, {x(256), "a"}} {
		s := printed(t, records...)
		ahead, from := 0, 0
		for at := range s {
			if at == from+len(framed(records[ahead])) {
				ahead, from = ahead+1, at
			}
			for by := range 255 {
				expect(t, turned(s, at, byte(by+1)), records[:ahead], from)
			}
		}
	}
}

// P8.2: a byte turned in a frame of the longest record, and in those beside it.
func TestTurnedLong(t *testing.T) {
	records := []string{"a", strings.Repeat(each(), 256)[:65535], "b"}
	s := printed(t, records...)
	long, last := len(framed("a")), len(s)-len(framed("b"))
	places := []int{0, 1, long - 1, long, long + 1, long + 2, long + 5, long + 6, last - 5, last - 4, last - 1, last, last + 1, len(s) - 1}
	for at := long; at < last; at += 997 {
		places = append(places, at)
	}
	for _, at := range places {
		for _, by := range []byte{1, 128, 255} {
			switch s := turned(s, at, by); {
			case at < long:
				expect(t, s, nil, 0)
			case at < last:
				expect(t, s, records[:1], long)
			default:
				expect(t, s, records[:2], last)
			}
		}
	}
}

// P8.1: Scan of frames of which a byte is let go, laid in, or said twice, against what is plainly so.
func TestScanShifted(t *testing.T) {
	for _, records := range lists() {
		s := printed(t, records...)
		if len(s) > 100 {
			continue
		}
		for at := range s {
			hold(t, s[:at]+s[at+1:])
			hold(t, s[at:])
			hold(t, s[:at]+s)
			hold(t, s[:at]+s[at:at+1]+s[at:])
			for _, b := range []byte(each()) {
				hold(t, s[:at]+string([]byte{b})+s[at:])
			}
		}
	}
}

// P8.1: Scan of heads of each length, with fewer bytes behind them than they tell, or as many and a wrong sum.
func TestScanHeads(t *testing.T) {
	for n := range 65536 {
		expect(t, head(n), nil, 0)
		expect(t, head(n)+"abcd", nil, 0)
	}
	for n := range 300 {
		hold(t, head(n)+x(n)+"\x00\x00\x00\x00")
		hold(t, head(n)+x(n)+"\xff\xff\xff\xff")
		expect(t, head(n+1)+framed(x(n))[6:], nil, 0)
	}
}

// P8.2: many records, one behind the other.
func TestMany(t *testing.T) {
	var records []string
	var all bytes.Buffer
	for n := range 5000 {
		records = append(records, each()[:n%256])
		all.WriteString(framed(records[n]))
	}
	if s := printed(t, records...); s != all.String() {
		t.Fatalf("Print of many: %d bytes, not %d", len(s), all.Len())
	}
	expect(t, all.String(), records, all.Len())
	expect(t, all.String()+"\x00", records, all.Len())
	if l, n := Scan(strings.Repeat(framed(""), 100000)); len(l) != 100000 || n != 1000000 {
		t.Errorf("Scan of many empty ones: %d, %d", len(l), n)
	}
}

// within tells if a text is a piece of another.
func within(part, whole string) bool {
	at, from := uintptr(unsafe.Pointer(unsafe.StringData(part))), uintptr(unsafe.Pointer(unsafe.StringData(whole)))
	return len(part) > 0 && at >= from && at < from+uintptr(len(whole))
}

// Rule 3: what is handed in is as it was, and its spare room; and no answer lies there.
func TestApart(t *testing.T) {
	records := []string{strings.Clone("ab"), strings.Clone("cd"), "spare"}
	s := printed(t, records[:2]...)
	if !slices.Equal(records, []string{"ab", "cd", "spare"}) {
		t.Errorf("Print changed %q", records)
	}
	a, n := Scan(s)
	b, m := Scan(s)
	if n != m || !slices.Equal(a, b) || !slices.Equal(a, records[:2]) {
		t.Fatalf("Scan: %q, %d, and again %q, %d", a, n, b, m)
	}
	for i := range a {
		if within(a[i], s) || within(a[i], b[i]) || within(a[i], records[i]) {
			t.Errorf("%q lies where it was", a[i])
		}
	}
	a[0] = "changed"
	if b[0] != "ab" {
		t.Error("two answers share their memory")
	}
}
