package date

import (
	"math"
	"strconv"
	"strings"
	"testing"

	"duepost/api"
)

const (
	dayOf      = 86400
	latestTime = 253402300799
	latestDay  = 2932896
)

// odd: numbers that are far out of any range.
var odd = []int{math.MinInt, math.MinInt + 1, -1 << 40, -1 << 32, -10000, 1 << 32, 1 << 32 * 1970, 1 << 40, math.MaxInt - 1, math.MaxInt}

// month answers by the words of the chapter alone how many days a month has.
func month(year, month int) int {
	switch month {
	case 1, 3, 5, 7, 8, 10, 12:
		return 31
	case 4, 6, 9, 11:
		return 30
	case 2:
		if year%400 == 0 || year%4 == 0 && year%100 != 0 {
			return 29
		}
		return 28
	}
	return 0
}

// padded answers a number with all its digits.
func padded(n, width int) string {
	s := strconv.Itoa(n)
	for len(s) < width {
		s = "0" + s
	}
	return s
}

// two answers a number of two digits.
func two(n int) string { return padded(n, 2) }

// dates calls see with each date there is, in order, and with how many days it is behind the first.
func dates(see func(d Date, days int)) {
	days := 0
	for y := 1970; y <= 9999; y++ {
		for m := 1; m <= 12; m++ {
			for d := 1; d <= month(y, m); d++ {
				see(Date{y, m, d}, days)
				days++
			}
		}
	}
}

// P3.1: in which years February has 29 days.
func TestLeap(t *testing.T) {
	for year, want := range map[int]bool{
		1970: false, 1971: false, 1972: true, 1973: false, 1974: false, 1976: true,
		1996: true, 1999: false, 2000: true, 2001: false, 2004: true, 2026: false,
		2096: true, 2100: false, 2104: true, 2200: false, 2300: false, 2400: true, 2800: true,
		9900: false, 9996: true, 9999: false, 9600: true,
	} {
		if Leap(year) != want {
			t.Errorf("Leap(%d): %v", year, !want)
		}
	}
	for year := 1970; year <= 9999; year++ {
		if Leap(year) != (month(year, 2) == 29) {
			t.Errorf("Leap(%d): %v", year, Leap(year))
		}
	}
}

// P3.1: how many days a month has; none has what is no month.
func TestLength(t *testing.T) {
	for year := 1970; year <= 9999; year++ {
		for m := -1; m <= 14; m++ {
			if n := Length(year, m); n != month(year, m) {
				t.Fatalf("Length(%d, %d): %d", year, m, n)
			}
		}
	}
	for _, m := range append(odd, -12, -1, 0, 13, 24, 28, 256+1, 1<<32+1) {
		for _, year := range []int{1970, 1972, 2000, 9999} {
			if n := Length(year, m); n != 0 {
				t.Errorf("Length(%d, %d): %d", year, m, n)
			}
		}
	}
}

// Rule 5: whatever the year, Leap and Length end.
func TestOddYears(t *testing.T) {
	for _, year := range odd {
		for _, m := range append(odd, 1, 2, 12) {
			if n := Length(year, m); n != month(year, m) {
				t.Errorf("Length(%d, %d): %d", year, m, n)
			}
		}
		if Leap(year) != (month(year, 2) == 29) {
			t.Errorf("Leap(%d): %v", year, Leap(year))
		}
	}
}

// P3.1: Days of, and the date at, days that are known.
func TestDays(t *testing.T) {
	for d, want := range map[Date]int{
		{1970, 1, 1}: 0, {1970, 1, 2}: 1, {1970, 1, 31}: 30, {1970, 2, 1}: 31, {1970, 2, 28}: 58, {1970, 3, 1}: 59,
		{1970, 12, 31}: 364, {1971, 1, 1}: 365, {1972, 2, 28}: 788, {1972, 2, 29}: 789, {1972, 3, 1}: 790, {1973, 1, 1}: 1096,
		{2000, 1, 1}: 10957, {2000, 2, 29}: 11016, {2000, 3, 1}: 11017, {2000, 12, 31}: 11322, {2001, 1, 1}: 11323,
		{2100, 2, 28}: 47540, {2100, 3, 1}: 47541, {2026, 11, 18}: 20775, {9999, 12, 31}: latestDay,
	} {
		if n, e := Days(d); n != want || e != api.OK {
			t.Errorf("Days(%v): %d, %d, not %d", d, n, e, want)
		}
		if got, e := Of(want); got != d || e != api.OK {
			t.Errorf("Of(%d): %v, %d, not %v", want, got, e, d)
		}
	}
}

// P3.1: Days and Of, of all dates there are.
func TestDaysAll(t *testing.T) {
	last := -1
	dates(func(d Date, days int) {
		last = days
		if n, e := Days(d); n != days || e != api.OK {
			t.Fatalf("Days(%v): %d, %d, not %d", d, n, e, days)
		}
		if got, e := Of(days); got != d || e != api.OK {
			t.Fatalf("Of(%d): %v, %d, not %v", days, got, e, d)
		}
	})
	if last != latestDay {
		t.Fatalf("the last date is %d", last)
	}
}

// P3.1: Days of what is no date.
func TestDaysWrong(t *testing.T) {
	wrong := []Date{
		{}, {1969, 12, 31}, {1969, 1, 1}, {1968, 2, 29}, {0, 1, 1}, {-1970, 1, 1}, {1600, 2, 29}, {10000, 1, 1}, {12000, 2, 29},
		{1970, 0, 1}, {1970, -1, 1}, {1970, 13, 1}, {9999, 13, 1}, {1970, 0, 0}, {1970, 13, 0},
		{1970, 1, 0}, {1970, 1, -1}, {1970, 1, 32}, {9999, 12, 32}, {9999, 12, 0},
		{1970, 2, 29}, {2000, 2, 30}, {2100, 2, 29}, {1972, 2, 30}, {2001, 2, 29}, {9900, 2, 29},
	}
	for y := range 31 {
		for m := 1; m <= 12; m++ {
			year := 1970 + 267*y
			wrong = append(wrong, Date{year, m, month(year, m) + 1}, Date{year, m, 0}, Date{year, m, -1})
		}
	}
	for _, n := range odd {
		wrong = append(wrong, Date{n, 1, 1}, Date{1970, n, 1}, Date{1970, 1, n}, Date{n, n, n}, Date{2000, n, n})
	}
	for _, d := range wrong {
		if n, e := Days(d); n != 0 || e != api.ErrRange {
			t.Errorf("Days(%v): %d, %d", d, n, e)
		}
	}
}

// P3.1: Of days at which there is no date.
func TestOfWrong(t *testing.T) {
	for _, days := range append(odd, -1, -2, -365, latestDay+1, latestDay+2, latestDay+366, latestTime) {
		if d, e := Of(days); d != (Date{}) || e != api.ErrRange {
			t.Errorf("Of(%d): %v, %d", days, d, e)
		}
	}
}

// P3.2: Parse of texts of the form.
func TestParse(t *testing.T) {
	for _, x := range []struct {
		s    string
		want int
		e    api.Errno
	}{
		{"1970-01-01T00:00:00Z", 0, api.OK},
		{"1970-01-01T00:00:01Z", 1, api.OK},
		{"1970-01-01T00:01:00Z", 60, api.OK},
		{"1970-01-01T01:00:00Z", 3600, api.OK},
		{"1970-01-02T00:00:00Z", dayOf, api.OK},
		{"1970-01-01T23:59:59Z", 86399, api.OK},
		{"2000-03-01T00:00:00Z", 951868800, api.OK},
		{"2000-03-01T00:00:00+01:00", 951865200, api.OK},
		{"2000-03-01T00:00:00-01:00", 951872400, api.OK},
		{"2000-03-01T00:00:00+00:01", 951868740, api.OK},
		{"2000-03-01T00:00:00-00:01", 951868860, api.OK},
		{"2000-03-01T00:00:00+05:45", 951868800 - 20700, api.OK},
		{"2000-03-01T00:00:00+00:00", 951868800, api.OK},
		{"2000-03-01T00:00:00-00:00", 951868800, api.OK},
		{"2000-03-01T00:00:00+23:59", 951868800 - 86340, api.OK},
		{"2000-03-01T00:00:00-23:59", 951868800 + 86340, api.OK},
		{"2000-02-29T12:34:56Z", 951827696, api.OK},
		{"2026-11-18T10:20:30+02:00", 1794990030, api.OK},
		{"9999-12-31T23:59:59Z", latestTime, api.OK},

		// taken to the zone Z
		{"1970-01-01T00:00:00-00:01", 60, api.OK},
		{"1970-01-01T00:01:00+00:01", 0, api.OK},
		{"1970-01-01T00:00:59+00:01", 0, api.ErrRange},
		{"1970-01-01T00:00:00+00:01", 0, api.ErrRange},
		{"1970-01-01T23:59:00+23:59", 0, api.OK},
		{"1970-01-01T23:58:59+23:59", 0, api.ErrRange},
		{"9999-12-31T23:59:59+00:01", latestTime - 60, api.OK},
		{"9999-12-31T23:59:59-00:00", latestTime, api.OK},
		{"9999-12-31T23:58:59-00:01", latestTime, api.OK},
		{"9999-12-31T23:59:00-00:01", 0, api.ErrRange},
		{"9999-12-31T23:59:59-00:01", 0, api.ErrRange},
		{"9999-12-31T00:00:59-23:59", latestTime, api.OK},
		{"9999-12-31T00:01:00-23:59", 0, api.ErrRange},

		// a number out of its range, whatever the zone makes of it
		{"1969-12-31T23:59:59Z", 0, api.ErrRange},
		{"1969-12-31T23:59:59-00:01", 0, api.ErrRange},
		{"1969-12-31T23:00:00-01:00", 0, api.ErrRange},
		{"0000-01-01T00:00:00Z", 0, api.ErrRange},
		{"0000-00-00T00:00:00Z", 0, api.ErrRange},
		{"1970-00-01T00:00:00Z", 0, api.ErrRange},
		{"1970-13-01T00:00:00Z", 0, api.ErrRange},
		{"1970-99-01T00:00:00Z", 0, api.ErrRange},
		{"1970-01-00T00:00:00Z", 0, api.ErrRange},
		{"1970-01-32T00:00:00Z", 0, api.ErrRange},
		{"1970-04-31T00:00:00Z", 0, api.ErrRange},
		{"1970-02-29T00:00:00Z", 0, api.ErrRange},
		{"2000-02-30T00:00:00Z", 0, api.ErrRange},
		{"2100-02-29T00:00:00Z", 0, api.ErrRange},
		{"2000-02-28T24:00:00Z", 0, api.ErrRange},
		{"2000-02-28T99:00:00Z", 0, api.ErrRange},
		{"2000-02-28T23:60:00Z", 0, api.ErrRange},
		{"2000-02-28T23:59:60Z", 0, api.ErrRange},
		{"2016-12-31T23:59:60Z", 0, api.ErrRange},
		{"2000-02-28T00:00:00+24:00", 0, api.ErrRange},
		{"2000-02-28T00:00:00-24:00", 0, api.ErrRange},
		{"2000-02-28T00:00:00+23:60", 0, api.ErrRange},
		{"2000-02-28T00:00:00-00:60", 0, api.ErrRange},
		{"9999-99-99T99:99:99+99:99", 0, api.ErrRange},
		{"9999-12-31T24:00:00+01:00", 0, api.ErrRange},

		// not of the form, which is told ahead of any range
		{"", 0, api.ErrForm},
		{"Z", 0, api.ErrForm},
		{"1970-01-01", 0, api.ErrForm},
		{"1970-01-01Z", 0, api.ErrForm},
		{"1970-01-01T00:00:00", 0, api.ErrForm},
		{"1970-01-01T00:00Z", 0, api.ErrForm},
		{"1970-01-01T00:00:00z", 0, api.ErrForm},
		{"1970-01-01t00:00:00Z", 0, api.ErrForm},
		{"1970-01-01 00:00:00Z", 0, api.ErrForm},
		{" 1970-01-01T00:00:00Z", 0, api.ErrForm},
		{"1970-01-01T00:00:00Z ", 0, api.ErrForm},
		{"1970-01-01T00:00:00Z\n", 0, api.ErrForm},
		{"1970-01-01T00:00:00ZZ", 0, api.ErrForm},
		{"1970-01-01T00:00:00 Z", 0, api.ErrForm},
		{"1970-01-01T00:00:00Z+00:00", 0, api.ErrForm},
		{"1970-01-01T00:00:00+00:00Z", 0, api.ErrForm},
		{"1970-01-01T00:00:00+0000", 0, api.ErrForm},
		{"1970-01-01T00:00:00+00", 0, api.ErrForm},
		{"1970-01-01T00:00:00+00:0", 0, api.ErrForm},
		{"1970-01-01T00:00:00+0:00", 0, api.ErrForm},
		{"1970-01-01T00:00:00+00:00:00", 0, api.ErrForm},
		{"1970-01-01T00:00:00 00:00", 0, api.ErrForm},
		{"1970-01-01T00:00:00Z00:00", 0, api.ErrForm},
		{"1970-01-01T00:00:00\u221200:00", 0, api.ErrForm},
		{"1970-01-01T00:00:00+", 0, api.ErrForm},
		{"1970-01-01T00:00:00-", 0, api.ErrForm},
		{"1970-01-01T00:00:00.0Z", 0, api.ErrForm},
		{"1970-1-1T0:0:0Z", 0, api.ErrForm},
		{"70-01-01T00:00:00Z", 0, api.ErrForm},
		{"01970-01-01T00:00:00Z", 0, api.ErrForm},
		{"10000-01-01T00:00:00Z", 0, api.ErrForm},
		{"+970-01-01T00:00:00Z", 0, api.ErrForm},
		{"-970-01-01T00:00:00Z", 0, api.ErrForm},
		{"1970--1-01T00:00:00Z", 0, api.ErrForm},
		{"1970-+1-01T00:00:00Z", 0, api.ErrForm},
		{"1970- 1-01T00:00:00Z", 0, api.ErrForm},
		{"1970/01/01T00:00:00Z", 0, api.ErrForm},
		{"1970-01-01T00-00-00Z", 0, api.ErrForm},
		{"19700101T000000Z", 0, api.ErrForm},
		{"197０-01-01T00:00:00Z", 0, api.ErrForm},
		{"0000-99-99T99:99:99", 0, api.ErrForm},
		{"0000-99-99T99:99:9Z", 0, api.ErrForm},
		{"0000-99-99T99:99:99z", 0, api.ErrForm},
		{"0000-99-99T99:99:99+9999", 0, api.ErrForm},
		{"1969-12-31T23:59:59+99:9x", 0, api.ErrForm},
		{strings.Repeat("9", 1000), 0, api.ErrForm},
		{"1970-01-01T00:00:00Z" + strings.Repeat("Z", 1000), 0, api.ErrForm},
	} {
		if got, e := Parse(x.s); got != x.want || e != x.e {
			t.Errorf("Parse(%.40q): %d, %d, not %d, %d", x.s, got, e, x.want, x.e)
		}
	}
}

// P3.2: each number of a text, in and out of its range.
func TestParseNumbers(t *testing.T) {
	for n := range 100 {
		for _, x := range []struct {
			s                  string
			first, last, steps int
		}{
			{"1970-" + two(n) + "-01T00:00:00Z", 1, 12, 0},
			{"1970-01-" + two(n) + "T00:00:00Z", 1, 31, dayOf},
			{"1970-01-01T" + two(n) + ":00:00Z", 0, 23, 3600},
			{"1970-01-01T00:" + two(n) + ":00Z", 0, 59, 60},
			{"1970-01-01T00:00:" + two(n) + "Z", 0, 59, 1},
			{"1970-01-01T00:00:00-" + two(n) + ":00", 0, 23, 3600},
			{"1970-01-01T00:00:00-00:" + two(n), 0, 59, 60},
			{"1970-01-02T00:00:00+" + two(n) + ":00", 0, 23, -3600},
			{"1970-01-02T00:00:00+00:" + two(n), 0, 59, -60},
		} {
			got, e := Parse(x.s)
			if n < x.first || n > x.last {
				if got != 0 || e != api.ErrRange {
					t.Errorf("Parse(%q): %d, %d", x.s, got, e)
				}
				continue
			}
			want := (n - x.first) * x.steps
			if x.steps < 0 {
				want += dayOf
			}
			if x.steps == 0 {
				for m := 1; m < n; m++ {
					want += month(1970, m) * dayOf
				}
			}
			if got != want || e != api.OK {
				t.Errorf("Parse(%q): %d, %d, not %d", x.s, got, e, want)
			}
		}
	}
}

// P3.2: each year of a text, in and out of its range.
func TestParseYears(t *testing.T) {
	want := 0
	for year := range 10000 {
		got, e := Parse(padded(year, 4) + "-01-01T00:00:00Z")
		if year < 1970 {
			if got != 0 || e != api.ErrRange {
				t.Fatalf("year %d: %d, %d", year, got, e)
			}
			continue
		}
		if got != want || e != api.OK {
			t.Fatalf("year %d: %d, %d, not %d", year, got, e, want)
		}
		for m := 1; m <= 12; m++ {
			want += month(year, m) * dayOf
		}
	}
}

// P3.2: any byte, at any place of a text, instead of what stands there, and between what stands there.
func TestParseBytes(t *testing.T) {
	const digits = "0123456789"
	for _, s := range []string{"2024-10-11T11:11:11Z", "2024-10-11T11:11:11+11:11", "2024-10-11T11:11:11-11:11"} {
		for at := range len(s) {
			for n := range 256 {
				b := string([]byte{byte(n)})
				other := s[:at] + b + s[at+1:]
				may := b == s[at:at+1]
				if strings.Contains(digits, s[at:at+1]) {
					may = strings.Contains(digits, b)
				}
				if at == 19 && len(s) > 20 {
					may = b == "+" || b == "-"
				}
				got, e := Parse(other)
				if (e == api.ErrForm) == may || e != api.OK && got != 0 {
					t.Fatalf("Parse(%q): %d, %d", other, got, e)
				}
				for _, longer := range []string{s[:at] + b + s[at:], s + b} {
					if got, e := Parse(longer); got != 0 || e != api.ErrForm {
						t.Fatalf("Parse(%q): %d, %d", longer, got, e)
					}
				}
			}
			for _, shorter := range []string{s[:at], s[:at] + s[at+1:], s[at+1:]} {
				if got, e := Parse(shorter); got != 0 || e != api.ErrForm {
					t.Fatalf("Parse(%q): %d, %d", shorter, got, e)
				}
			}
		}
	}
}

// P3.2: Print of times that are known, and of what is none.
func TestPrint(t *testing.T) {
	for n, want := range map[int]string{
		0: "1970-01-01T00:00:00Z", 1: "1970-01-01T00:00:01Z", 59: "1970-01-01T00:00:59Z", 60: "1970-01-01T00:01:00Z",
		3599: "1970-01-01T00:59:59Z", 3600: "1970-01-01T01:00:00Z", 86399: "1970-01-01T23:59:59Z", 86400: "1970-01-02T00:00:00Z",
		951865200: "2000-02-29T23:00:00Z", 951868800: "2000-03-01T00:00:00Z", 1234567890: "2009-02-13T23:31:30Z",
		1 << 31: "2038-01-19T03:14:08Z", 4107542400: "2100-03-01T00:00:00Z", 4107542399: "2100-02-28T23:59:59Z",
		latestTime: "9999-12-31T23:59:59Z", latestTime - 86400: "9999-12-30T23:59:59Z", latestTime - 86399: "9999-12-31T00:00:00Z",
	} {
		if got, e := Print(n); got != want || e != api.OK {
			t.Errorf("Print(%d): %q, %d, not %q", n, got, e, want)
		}
	}
	for _, n := range append(odd, -1, -60, -86400, latestTime+1, latestTime+86400) {
		if n == 1<<32 { // a time, in 2106
			continue
		}
		if got, e := Print(n); got != "" || e != api.ErrRange {
			t.Errorf("Print(%d): %q, %d", n, got, e)
		}
	}
}

// P3.2, P3.3: what was printed is parsed, of each day at one time of it, and one day is 86400 seconds behind the one ahead.
func TestBack(t *testing.T) {
	dates(func(d Date, days int) {
		n := []int{0, days * 7919 % dayOf, dayOf - 1}[days%3]
		text := padded(d.Year, 4) + "-" + two(d.Month) + "-" + two(d.Day) + "T" + two(n/3600) + ":" + two(n/60%60) + ":" + two(n%60) + "Z"
		if got, e := Print(days*dayOf + n); got != text || e != api.OK {
			t.Fatalf("Print(%d): %q, %d, not %q", days*dayOf+n, got, e, text)
		}
		if got, e := Parse(text); got != days*dayOf+n || e != api.OK {
			t.Fatalf("Parse(%q): %d, %d", text, got, e)
		}
	})
}

// P3.3: each second of a day, and of zones.
func TestSeconds(t *testing.T) {
	for n := 951782400; n < 951782400+dayOf; n++ {
		text, e := Print(n)
		if e != api.OK {
			t.Fatalf("Print(%d): %d", n, e)
		}
		if got, e := Parse(text); got != n || e != api.OK {
			t.Fatalf("%d, printed %q: %d, %d", n, text, got, e)
		}
	}
	for zone := range 24 * 60 {
		text := two(zone/60) + ":" + two(zone%60)
		if got, e := Parse("2000-02-29T12:00:00+" + text); got != 951825600-zone*60 || e != api.OK {
			t.Fatalf("zone +%s: %d, %d", text, got, e)
		}
		if got, e := Parse("2000-02-29T12:00:00-" + text); got != 951825600+zone*60 || e != api.OK {
			t.Fatalf("zone -%s: %d, %d", text, got, e)
		}
	}
}
