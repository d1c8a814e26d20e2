package judge

import (
	"maps"
	"math"
	"math/big"
	"math/rand"
	"reflect"
	"slices"
	"strings"
	"testing"

	"duepost/api"
	"duepost/envelope"
	"duepost/param"
	"duepost/path"
)

const last = 1 << 40 // tick

// usual: a plan that is right.
var usual = Plan{Base: 10, Most: 60, Life: 1000, Warn: 100}

// asks: the kinds that each Notify asks for.
var asks = map[string]string{
	"":    "delayed failed",
	"N":   "",
	"S":   "delivered relayed",
	"F":   "failed",
	"D":   "delayed",
	"SF":  "delivered relayed failed",
	"SD":  "delivered relayed delayed",
	"FD":  "failed delayed",
	"SFD": "delivered relayed failed delayed",
}

// bits: of Told, by kinds.
var bits = map[string]int{"delayed": 1, "failed": 2, "delivered": 4, "relayed": 4}

// from answers a message of somebody to a recipient, accepted at a tick, and held: by its release nothing is judged.
func from(at int, notify string) envelope.Message {
	return envelope.Message{
		Id: 1, At: at, Release: at + 3, From: path.Path{Local: "a", Domain: "b"},
		Rcpts: []envelope.Rcpt{{Path: path.Path{Local: "c", Domain: "d"}, Rcpt: param.Rcpt{Notify: notify}}},
		Lines: []string{"x"},
	}
}

// by answers a message of which BY is said.
func by(m envelope.Message, ticks int, mode string) envelope.Message {
	m.Mail.Has.By, m.Mail.By, m.Mail.Mode = true, ticks, mode
	return m
}

// null answers a message from nobody.
func null(m envelope.Message) envelope.Message {
	m.From = path.Path{}
	return m
}

// still answers a status that is ready.
func still(tries, next, told int) envelope.Status {
	return envelope.Status{State: "R", Tries: tries, Next: next, Told: told}
}

// list answers the kinds that a text names.
func list(s string) []string { return strings.Fields(s) }

// plus counts by numbers of any size, and answers the int nearest to the sum.
func plus(a, b int) int {
	return nearest(new(big.Int).Add(big.NewInt(int64(a)), big.NewInt(int64(b))))
}

// nearest answers the int nearest to a number of any size.
func nearest(n *big.Int) int {
	switch {
	case n.Cmp(big.NewInt(math.MaxInt)) > 0:
		return math.MaxInt
	case n.Cmp(big.NewInt(math.MinInt)) < 0:
		return math.MinInt
	}
	return int(n.Int64())
}

// plainReport answers a status and the reports behind one that is to be made.
func plainReport(m envelope.Message, t envelope.Status, kind string, byDeadline bool) (envelope.Status, []string) {
	notify := m.Rcpts[t.Place].Rcpt.Notify
	wanted := slices.Contains(list(asks[notify]), kind) || byDeadline && notify != "N"
	if m.From == (path.Path{}) || t.Told&bits[kind] != 0 || !wanted {
		return t, nil
	}
	t.Told += bits[kind]
	return t, []string{kind}
}

// plainTime answers what is to become of a status by the time.
func plainTime(p Plan, m envelope.Message, t envelope.Status, now int) (envelope.Status, []string) {
	gone := func(ticks int) bool { return plus(now, 0) >= plus(m.At, ticks) }
	over := m.Mail.Has.By && gone(m.Mail.By)
	back := over && strings.HasPrefix(m.Mail.Mode, "R")
	if back || gone(p.Life) {
		t.State = "F"
		return plainReport(m, t, "failed", back)
	}
	if over {
		return plainReport(m, t, "delayed", true)
	}
	if gone(p.Warn) {
		return plainReport(m, t, "delayed", false)
	}
	return t, nil
}

// plainWait doubles by numbers of any size.
func plainWait(p Plan, tries int) int {
	n := big.NewInt(int64(p.Base))
	for range max(tries, 1) - 1 {
		n.Lsh(n, 1)
	}
	if most := big.NewInt(int64(p.Most)); n.Cmp(most) > 0 {
		n = most
	}
	return nearest(n)
}

// plainTry answers what is to become of a status by a try.
func plainTry(p Plan, m envelope.Message, t envelope.Status, now, outcome int) (envelope.Status, []string) {
	t.Tries++
	if t.Tries > 1000 {
		t.Tries = 1000
	}
	ends := map[int][2]string{2: {"D", "delivered"}, 3: {"G", "relayed"}, 5: {"F", "failed"}}
	if end, is := ends[outcome]; is {
		t.State = end[0]
		return plainReport(m, t, end[1], false)
	}
	t.Next = now + plainWait(p, t.Tries)
	return plainTime(p, m, t, now)
}

// told is what Try or Time answers.
type told struct {
	t    envelope.Status
	made []string
	e    api.Errno
}

// same tells if answers are alike.
func (a told) same(b told) bool { return a.t == b.t && slices.Equal(a.made, b.made) && a.e == b.e }

// tried asks Try, twice, and holds that both answers are alike, and that nothing that was handed in has changed.
func tried(t *testing.T, p Plan, m envelope.Message, s envelope.Status, now, outcome int) told {
	t.Helper()
	return twice(t, m, func() (a told) {
		a.t, a.made, a.e = Try(p, m, s, now, outcome)
		return a
	})
}

// timed asks Time likewise.
func timed(t *testing.T, p Plan, m envelope.Message, s envelope.Status, now int) told {
	t.Helper()
	return twice(t, m, func() (a told) {
		a.t, a.made, a.e = Time(p, m, s, now)
		return a
	})
}

// twice asks twice; what is done to one list of reports isn't to be seen in the other one.
func twice(t *testing.T, m envelope.Message, ask func() told) told {
	t.Helper()
	before := m
	before.Rcpts, before.Lines = slices.Clone(m.Rcpts), slices.Clone(m.Lines)
	a := ask()
	kept := slices.Clone(a.made)
	for i := range a.made {
		a.made[i] = "other"
	}
	b := ask()
	a.made = kept
	if !a.same(b) || !envelope.Same(m, before) {
		t.Fatalf("%+v: %+v, and then %+v", m, a, b)
	}
	return a
}

// P15.1: plans with each number at its edges, and beyond.
func TestRight(t *testing.T) {
	for _, base := range []int{math.MinInt, -1, 0, 1, 2, 1<<20 - 1, 1 << 20, 1<<20 + 1, math.MaxInt} {
		for _, most := range []int{math.MinInt, -1, 0, 1, 2, 1<<20 - 1, 1 << 20, 1<<20 + 1, math.MaxInt} {
			for _, life := range []int{math.MinInt, -1, 0, 1, 1<<30 - 1, 1 << 30, 1<<30 + 1, math.MaxInt} {
				for _, warn := range []int{math.MinInt, -1, 0, 1, 1<<30 - 1, 1 << 30, 1<<30 + 1, math.MaxInt} {
					want := api.ErrRange
					if base > 0 && base < 1048577 && most > 0 && most < 1048577 && base <= most && life > 0 && life < 1073741825 && warn > 0 && warn < 1073741825 {
						want = api.OK
					}
					p := Plan{Base: base, Most: most, Life: life, Warn: warn}
					if e := Right(p); e != want {
						t.Errorf("Right(%v): %d, not %d", p, e, want)
					}
				}
			}
		}
	}
	for p, want := range map[Plan]api.Errno{
		{}: api.ErrRange, usual: api.OK, {1, 1, 1, 1}: api.OK, {60, 60, 1000, 100}: api.OK, {61, 60, 1000, 100}: api.ErrRange,
		{10, 60, 100, 1000}: api.OK, {10, 60, 1, 1 << 30}: api.OK, {1 << 20, 1 << 20, 1 << 30, 1 << 30}: api.OK,
	} {
		if e := Right(p); e != want {
			t.Errorf("Right(%v): %d, not %d", p, e, want)
		}
	}
}

// P15.1: waits behind some tries.
func TestWait(t *testing.T) {
	for _, x := range []struct{ base, most, tries, want int }{
		{10, 60, 1, 10}, {10, 60, 2, 20}, {10, 60, 3, 40}, {10, 60, 4, 60}, {10, 60, 5, 60}, {10, 60, 1000, 60},
		{10, 60, 0, 10}, {10, 60, -1, 10}, {10, 60, math.MinInt, 10}, {10, 60, math.MaxInt, 60},
		{10, 80, 4, 80}, {10, 80, 5, 80}, {10, 81, 4, 80}, {10, 81, 5, 81}, {10, 79, 4, 79}, {10, 20, 2, 20}, {10, 19, 2, 19}, {10, 21, 2, 20},
		{10, 10, 1, 10}, {10, 10, 2, 10}, {10, 11, 1, 10}, {10, 11, 2, 11},
		{1, 1, 1, 1}, {1, 1, 9, 1}, {1, 2, 2, 2}, {1, 3, 3, 3}, {1, 4, 3, 4},
		{1, 1 << 20, 20, 1 << 19}, {1, 1 << 20, 21, 1 << 20}, {1, 1 << 20, 22, 1 << 20}, {1, 1<<20 - 1, 21, 1<<20 - 1}, {1, 1 << 20, 64, 1 << 20}, {1, 1 << 20, 65, 1 << 20}, {1, 1 << 20, 66, 1 << 20},
		{1 << 20, 1 << 20, 1, 1 << 20}, {1 << 20, 1 << 20, 1000, 1 << 20}, {3, 1 << 20, 19, 786432}, {3, 1 << 20, 20, 1 << 20},
	} {
		if n := Wait(Plan{Base: x.base, Most: x.most, Life: 1, Warn: 1}, x.tries); n != x.want {
			t.Errorf("%v: %d", x, n)
		}
	}
}

// P15.1: each wait of some plans, and of what is none, held against numbers of any size; a life and a warning time play no part.
func TestWaits(t *testing.T) {
	for _, base := range []int{math.MinInt, math.MinInt/2 - 1, math.MinInt / 2, -7, -1, 0, 1, 2, 3, 10, 1000, 1 << 19, 1<<20 - 1, 1 << 20, 1<<62 - 1, 1 << 62, math.MaxInt} {
		for _, most := range []int{math.MinInt, -100, -1, 0, 1, 2, 3, 7, 8, 60, 1 << 19, 1<<20 - 1, 1 << 20, 1 << 62, math.MaxInt - 1, math.MaxInt} {
			for tries := -2; tries <= 140; tries++ {
				p := Plan{Base: base, Most: most, Life: tries, Warn: -tries}
				if n, want := Wait(p, tries), plainWait(p, tries); n != want {
					t.Fatalf("Wait(%v, %d): %d, not %d", p, tries, n, want)
				}
			}
		}
	}
	if n := Wait(Plan{}, math.MaxInt); n != 0 {
		t.Error(n)
	}
}

// P15.1: when a message expires, and its deadline.
func TestEnds(t *testing.T) {
	edges := []int{math.MinInt, -999999999, -1, 0, 1, 5, 999999999, 1 << 30, last, math.MaxInt - 1, math.MaxInt}
	for _, at := range edges {
		for _, n := range edges {
			m := by(from(at, ""), n, "N")
			if got, want := Expires(Plan{Life: n, Base: 3, Most: 4, Warn: 5}, m), plus(at, n); got != want {
				t.Errorf("Expires(%d, %d): %d, not %d", at, n, got, want)
			}
			for _, mode := range []string{"N", "NT", "R", "RT", ""} {
				m.Mail.Mode = mode
				if got, said := Deadline(m); got != plus(at, n) || !said {
					t.Errorf("Deadline(%d, %d, %q): %d, %v", at, n, mode, got, said)
				}
			}
			// What isn't said is no deadline, whatever stands there.
			m.Mail.Has = param.Has{Size: true, HoldFor: true, HoldUntil: true, Priority: true}
			if got, said := Deadline(m); got != 0 || said {
				t.Errorf("Deadline(%d, %d): %d, %v", at, n, got, said)
			}
		}
	}
	m := from(500, "")
	m.Release = 900
	for want, got := range map[int]int{1500: Expires(usual, m), 501: Expires(Plan{Life: 1}, m)} {
		if got != want {
			t.Error(got, want)
		}
	}
	for n, want := range map[int]int{0: 500, 1: 501, -1: 499, -500: 0, -501: -1, 999999999: 1000000499, -999999999: -999999499} {
		if got, said := Deadline(by(m, n, "N")); got != want || !said {
			t.Errorf("Deadline(%d): %d, %v", n, got, said)
		}
	}
}

// P15.2: what is wrong, ahead of all that is named behind it; nothing else is told beside it.
func TestErrors(t *testing.T) {
	wrong, none := Plan{Base: 61, Most: 60, Life: 1000, Warn: 100}, envelope.Message{}
	three := from(0, "SFD")
	three.Rcpts = slices.Repeat(three.Rcpts, 3)
	at := func(place int, state string) envelope.Status { return envelope.Status{Place: place, State: state} }
	for _, x := range []struct {
		p    Plan
		m    envelope.Message
		s    envelope.Status
		now  int
		want api.Errno
	}{
		{wrong, three, at(0, "R"), 0, api.ErrRange},
		{Plan{}, three, at(0, "R"), 0, api.ErrRange},
		{Plan{Base: 10, Most: 60, Life: 1000}, three, at(0, "R"), 0, api.ErrRange},
		{Plan{Base: 10, Most: 60, Warn: 100}, three, at(0, "R"), 0, api.ErrRange},
		{wrong, none, at(9, "D"), 0, api.ErrRange},
		{usual, three, at(0, "R"), -1, api.ErrRange},
		{usual, three, at(0, "R"), math.MinInt, api.ErrRange},
		{usual, three, at(0, "R"), last + 1, api.ErrRange},
		{usual, three, at(0, "R"), math.MaxInt, api.ErrRange},
		{usual, none, at(-1, ""), -1, api.ErrRange},
		{usual, three, at(0, "D"), 0, api.ErrState},
		{usual, three, at(0, "G"), 0, api.ErrState},
		{usual, three, at(0, "F"), last, api.ErrState},
		{usual, three, at(0, ""), 0, api.ErrState},
		{usual, three, at(0, "r"), 0, api.ErrState},
		{usual, three, at(0, "R "), 0, api.ErrState},
		{usual, three, at(0, "RR"), 0, api.ErrState},
		{usual, three, at(-1, "R"), 0, api.ErrState},
		{usual, three, at(3, "R"), 0, api.ErrState},
		{usual, three, at(math.MaxInt, "R"), 0, api.ErrState},
		{usual, three, at(math.MinInt, "R"), 0, api.ErrState},
		{usual, none, at(0, "R"), 0, api.ErrState},
		{usual, none, envelope.Status{}, 0, api.ErrState},
		{usual, three, at(0, "R"), 0, api.OK},
		{usual, three, at(1, "R"), 1, api.OK},
		{usual, three, at(2, "R"), last, api.OK},
		{Plan{1, 1, 1, 1}, three, at(2, "R"), last - 1, api.OK},
		{Plan{1 << 20, 1 << 20, 1 << 30, 1 << 30}, three, at(2, "R"), last, api.OK},
	} {
		if got := timed(t, x.p, x.m, x.s, x.now); got.e != x.want || x.want != api.OK && !got.same(told{e: x.want}) {
			t.Errorf("Time(%v): %+v", x, got)
		}
		for outcome := -3; outcome <= 9; outcome++ {
			want := x.want
			if want == api.OK && !slices.Contains([]int{0, 2, 3, 4, 5}, outcome) {
				want = api.ErrKind
			}
			if got := tried(t, x.p, x.m, x.s, x.now, outcome); got.e != want || want != api.OK && !got.same(told{e: want}) {
				t.Errorf("Try(%v, %d): %+v", x, outcome, got)
			}
		}
	}
	for _, outcome := range []int{math.MinInt, math.MaxInt, 1, 6, -1, 1 << 32, 1<<32 + 2} {
		if got := tried(t, usual, three, at(0, "R"), last, outcome); !got.same(told{e: api.ErrKind}) {
			t.Errorf("Try(%d): %+v", outcome, got)
		}
	}
}

// P15.2: what each outcome makes of a status.
func TestTry(t *testing.T) {
	at := func(state string, tries, next, told int) envelope.Status {
		return envelope.Status{State: state, Tries: tries, Next: next, Told: told}
	}
	all, some := from(0, "SFD"), from(0, "")
	for i, x := range []struct {
		m            envelope.Message
		s            envelope.Status
		now, outcome int
		want         envelope.Status
		made         string
	}{
		{all, at("R", 0, 0, 0), 5, 2, at("D", 1, 0, 4), "delivered"},
		{all, at("R", 0, 0, 0), 5, 3, at("G", 1, 0, 4), "relayed"},
		{all, at("R", 0, 0, 0), 5, 5, at("F", 1, 0, 2), "failed"},
		{all, at("R", 0, 0, 0), 5, 4, at("R", 1, 15, 0), ""},
		{all, at("R", 0, 0, 0), 5, 0, at("R", 1, 15, 0), ""},
		{all, at("R", 1, 15, 0), 15, 4, at("R", 2, 35, 0), ""},
		{all, at("R", 2, 35, 0), 35, 0, at("R", 3, 75, 0), ""},
		{all, at("R", 3, 75, 0), 75, 4, at("R", 4, 135, 0), ""},
		{all, at("R", 4, 135, 0), 99, 4, at("R", 5, 159, 0), ""},
		{all, at("R", 4, 135, 0), 100, 4, at("R", 5, 160, 1), "delayed"},
		{all, at("R", 4, 135, 0), 135, 0, at("R", 5, 195, 1), "delayed"},
		{all, at("R", 5, 195, 1), 195, 4, at("R", 6, 255, 1), ""},
		{all, at("R", 5, 195, 1), 195, 2, at("D", 6, 195, 5), "delivered"},
		{all, at("R", 5, 195, 1), 195, 3, at("G", 6, 195, 5), "relayed"},
		{all, at("R", 5, 195, 1), 195, 5, at("F", 6, 195, 3), "failed"},
		{all, at("R", 19, 999, 1), 999, 4, at("R", 20, 1059, 1), ""},
		{all, at("R", 19, 999, 1), 1000, 4, at("F", 20, 1060, 3), "failed"},
		{all, at("R", 19, 999, 1), 1000, 0, at("F", 20, 1060, 3), "failed"},
		{all, at("R", 19, 999, 0), 1000, 0, at("F", 20, 1060, 2), "failed"},
		{all, at("R", 19, 999, 1), 5000, 2, at("D", 20, 999, 5), "delivered"},
		{all, at("R", 19, 999, 1), 5000, 3, at("G", 20, 999, 5), "relayed"},
		{all, at("R", 0, 0, 0), 5000, 5, at("F", 1, 0, 2), "failed"},
		{some, at("R", 0, 0, 0), 100, 2, at("D", 1, 0, 0), ""},
		{some, at("R", 0, 0, 0), 100, 3, at("G", 1, 0, 0), ""},
		{some, at("R", 0, 0, 0), 100, 5, at("F", 1, 0, 2), "failed"},
		{some, at("R", 0, 0, 0), 100, 4, at("R", 1, 110, 1), "delayed"},
		{some, at("R", 999, 0, 1), 200, 4, at("R", 1000, 260, 1), ""},
		{some, at("R", 1000, 0, 1), 200, 4, at("R", 1000, 260, 1), ""},
		{some, at("R", 0, 0, 1), last, 4, at("F", 1, last+10, 3), "failed"},
		{all, at("R", 0, 0, 4), 5, 2, at("D", 1, 0, 4), ""},
		{all, at("R", 0, 0, 4), 5, 3, at("G", 1, 0, 4), ""},
		{all, at("R", 0, 0, 2), 5, 5, at("F", 1, 0, 2), ""},
		{null(all), at("R", 0, 0, 0), 5, 2, at("D", 1, 0, 0), ""},
		{null(all), at("R", 0, 0, 0), 5, 3, at("G", 1, 0, 0), ""},
		{null(all), at("R", 0, 0, 0), 5, 5, at("F", 1, 0, 0), ""},
		{null(all), at("R", 0, 0, 0), 100, 4, at("R", 1, 110, 0), ""},
		{null(all), at("R", 0, 0, 0), 1000, 4, at("F", 1, 1010, 0), ""},
		// By a deadline that has come a try that ended asks for nothing more; one that is to be done again does.
		{by(from(0, "D"), 5, "R"), at("R", 0, 0, 0), 5, 5, at("F", 1, 0, 0), ""},
		{by(from(0, "D"), 5, "R"), at("R", 0, 0, 0), 5, 2, at("D", 1, 0, 0), ""},
		{by(from(0, "D"), 5, "R"), at("R", 0, 0, 0), 5, 4, at("F", 1, 15, 2), "failed"},
		{by(from(0, "D"), 5, "R"), at("R", 0, 0, 0), 4, 4, at("R", 1, 14, 0), ""},
		{by(from(0, "S"), 5, "NT"), at("R", 0, 0, 0), 5, 0, at("R", 1, 15, 1), "delayed"},
	} {
		if got := tried(t, usual, x.m, x.s, x.now, x.outcome); !got.same(told{x.want, list(x.made), api.OK}) {
			t.Errorf("%d: %+v", i, got)
		}
	}
}

// P15.2: tries are counted up to 1000, of each outcome, and waits go by them.
func TestTries(t *testing.T) {
	long := Plan{Base: 1, Most: 1 << 20, Life: 1 << 30, Warn: 1 << 30}
	for before, want := range map[int]int{0: 1, 1: 2, 19: 20, 20: 21, 998: 999, 999: 1000, 1000: 1000, 1001: 1000, math.MaxInt: 1000, -1: 0, -5: -4} {
		for _, outcome := range []int{0, 2, 3, 4, 5} {
			got := tried(t, long, from(7, ""), still(before, 50, 0), 60, outcome)
			next := 50
			if outcome == 0 || outcome == 4 {
				next = 60 + plainWait(long, want)
			}
			if got.t.Tries != want || got.t.Next != next || got.e != api.OK {
				t.Errorf("Try of %d tries, %d: %+v", before, outcome, got)
			}
		}
		// Time goes on without a try.
		if got := timed(t, long, from(7, ""), still(before, 50, 0), 60); !got.same(told{t: still(before, 50, 0)}) {
			t.Errorf("Time of %d tries: %+v", before, got)
		}
	}
}

// P15.2, P15.3: the recipient is that of the place; what is asked for of others plays no part.
func TestPlaces(t *testing.T) {
	m := from(0, "")
	m.Rcpts = slices.Repeat(m.Rcpts, 8)
	for i, notify := range []string{"", "N", "S", "F", "D", "SF", "FD", "SFD"} {
		m.Rcpts[i].Rcpt.Notify = notify
	}
	for i, x := range []struct{ delivered, failed, delayed string }{
		{"", "failed", "delayed"}, {"", "", ""}, {"delivered", "", ""}, {"", "failed", ""}, {"", "", "delayed"}, {"delivered", "failed", ""}, {"", "failed", "delayed"}, {"delivered", "failed", "delayed"},
	} {
		s := envelope.Status{Place: i, State: "R"}
		for _, y := range []struct {
			got   told
			state string
			made  string
		}{
			{tried(t, usual, m, s, 9, 2), "D", x.delivered},
			{tried(t, usual, m, s, 9, 5), "F", x.failed},
			{timed(t, usual, m, s, 100), "R", x.delayed},
			{timed(t, usual, m, s, 1000), "F", x.failed},
		} {
			if y.got.t.Place != i || y.got.t.State != y.state || !slices.Equal(y.got.made, list(y.made)) || y.got.e != api.OK {
				t.Errorf("%d: %+v", i, y.got)
			}
		}
	}
}

// P15.3: what the time makes of a status, just ahead of what comes, at it, and behind.
func TestTime(t *testing.T) {
	all := from(50, "SFD")
	for i, x := range []struct {
		m       envelope.Message
		now     int
		told    int // ahead
		state   string
		toldNow int
		made    string
	}{
		// The warning, and the end.
		{all, 0, 0, "R", 0, ""},
		{all, 50, 0, "R", 0, ""},
		{all, 149, 0, "R", 0, ""},
		{all, 150, 0, "R", 1, "delayed"},
		{all, 151, 0, "R", 1, "delayed"},
		{all, 150, 1, "R", 1, ""},
		{all, 1049, 0, "R", 1, "delayed"},
		{all, 1049, 1, "R", 1, ""},
		{all, 1050, 1, "F", 3, "failed"},
		{all, 1050, 0, "F", 2, "failed"},
		{all, 1051, 0, "F", 2, "failed"},
		{all, last, 0, "F", 2, "failed"},
		{all, 1050, 3, "F", 3, ""},
		{all, 1050, 7, "F", 7, ""},
		{from(50, "S"), 150, 0, "R", 0, ""},
		{from(50, "F"), 150, 0, "R", 0, ""},
		{from(50, "S"), 1050, 0, "F", 0, ""},
		{from(50, "D"), 1050, 0, "F", 0, ""},
		{from(50, "N"), 150, 0, "R", 0, ""},
		{from(50, "N"), 1050, 0, "F", 0, ""},
		{null(all), 150, 0, "R", 0, ""},
		{null(all), 1050, 0, "F", 0, ""},
		// A deadline at which it goes back.
		{by(all, 30, "R"), 79, 0, "R", 0, ""},
		{by(all, 30, "R"), 80, 0, "F", 2, "failed"},
		{by(all, 30, "RT"), 80, 0, "F", 2, "failed"},
		{by(all, 30, "R"), 81, 1, "F", 3, "failed"},
		{by(all, 1, "R"), 50, 0, "R", 0, ""},
		{by(all, 1, "R"), 51, 0, "F", 2, "failed"},
		{by(all, 200, "R"), 150, 0, "R", 1, "delayed"},
		{by(all, 200, "R"), 250, 1, "F", 3, "failed"},
		{by(from(50, ""), 30, "R"), 80, 0, "F", 2, "failed"},
		{by(from(50, "S"), 30, "R"), 80, 0, "F", 2, "failed"},
		{by(from(50, "D"), 30, "RT"), 80, 0, "F", 2, "failed"},
		{by(from(50, "N"), 30, "R"), 80, 0, "F", 0, ""},
		{null(by(all, 30, "R")), 80, 0, "F", 0, ""},
		{by(from(50, "S"), 30, "R"), 80, 2, "F", 2, ""},
		{by(from(50, "S"), 5000, "R"), 150, 0, "R", 0, ""},
		{by(from(50, "S"), 5000, "R"), 1050, 0, "F", 0, ""},
		{by(from(50, "S"), 1000, "R"), 1050, 0, "F", 2, "failed"},
		{by(from(50, "S"), 30, "R"), 1050, 0, "F", 2, "failed"},
		// A deadline of which it is told alone.
		{by(all, 30, "N"), 79, 0, "R", 0, ""},
		{by(all, 30, "N"), 80, 0, "R", 1, "delayed"},
		{by(all, 30, "NT"), 80, 0, "R", 1, "delayed"},
		{by(all, 30, "N"), 80, 1, "R", 1, ""},
		{by(all, 30, "N"), 150, 1, "R", 1, ""},
		{by(all, 30, "N"), 1049, 0, "R", 1, "delayed"},
		{by(all, 30, "N"), 1050, 0, "F", 2, "failed"},
		{by(all, 0, "N"), 49, 0, "R", 0, ""},
		{by(all, 0, "N"), 50, 0, "R", 1, "delayed"},
		{by(all, -50, "N"), 0, 0, "R", 1, "delayed"},
		{by(all, -999999999, "NT"), 0, 0, "R", 1, "delayed"},
		{by(all, 200, "N"), 150, 0, "R", 1, "delayed"},
		{by(from(50, "S"), 200, "N"), 150, 0, "R", 0, ""},
		{by(from(50, "S"), 200, "N"), 250, 0, "R", 1, "delayed"},
		{by(from(50, "F"), 30, "NT"), 80, 0, "R", 1, "delayed"},
		{by(from(50, ""), 30, "N"), 80, 0, "R", 1, "delayed"},
		{by(from(50, "N"), 30, "N"), 80, 0, "R", 0, ""},
		{by(from(50, "N"), 30, "N"), 150, 0, "R", 0, ""},
		{null(by(all, 30, "N")), 80, 0, "R", 0, ""},
		{by(from(50, "S"), 30, "N"), 1050, 0, "F", 0, ""},
		{by(from(50, "D"), 30, "NT"), 1050, 0, "F", 0, ""},
	} {
		want := told{t: still(3, 70, x.toldNow), made: list(x.made)}
		want.t.State = x.state
		if got := timed(t, usual, x.m, still(3, 70, x.told), x.now); !got.same(want) {
			t.Errorf("%d: %+v, not %+v", i, got, want)
		}
	}
	// A mode without a deadline does nothing, and where a message expires ahead of the warning, there is none.
	m := by(all, 30, "R")
	m.Mail.Has.By = false
	if got := timed(t, usual, m, still(0, 0, 0), 80); !got.same(told{t: still(0, 0, 0)}) {
		t.Errorf("%+v", got)
	}
	short := Plan{Base: 10, Most: 60, Life: 100, Warn: 100}
	if got := timed(t, short, all, still(0, 0, 0), 150); got.t.State != "F" || !slices.Equal(got.made, list("failed")) {
		t.Errorf("%+v", got)
	}
}

// ways gives messages of all that may be asked for, with deadlines in all modes.
func ways(at int, deadlines []int, yield func(envelope.Message)) {
	for _, notify := range slices.Sorted(maps.Keys(asks)) {
		for _, m := range []envelope.Message{from(at, notify), null(from(at, notify))} {
			yield(m)
			for _, n := range deadlines {
				for _, mode := range []string{"N", "NT", "R", "RT"} {
					yield(by(m, n, mode))
				}
			}
		}
	}
}

// P15.2, P15.3: all that may be asked for and told, at the edges of all times, held against what is plainly so.
func TestAll(t *testing.T) {
	for _, p := range []Plan{usual, {1, 1, 1, 1}, {1, 4, 20, 25}} {
		for _, at := range []int{0, 30} {
			ways(at, []int{-31, 0, 1, 20, 21, 1000}, func(m envelope.Message) {
				nows := []int{0, last}
				for _, edge := range []int{at, at + p.Life, at + p.Warn, at + m.Mail.By} {
					nows = append(nows, edge-1, edge, edge+1)
				}
				for _, now := range nows {
					for bits := range 8 {
						if now >= 0 {
							held(t, p, m, still(bits, at, bits), now)
						}
					}
				}
			})
		}
	}
}

// held holds Time, Try and Alarm against what is plainly so.
func held(t *testing.T, p Plan, m envelope.Message, s envelope.Status, now int) {
	t.Helper()
	var want told
	want.t, want.made = plainTime(p, m, s, now)
	if got := timed(t, p, m, s, now); !got.same(want) {
		t.Fatalf("Time(%v, %+v, %v, %d): %+v, not %+v", p, m, s, now, got, want)
	}
	for _, outcome := range []int{0, 2, 3, 4, 5} {
		want.t, want.made = plainTry(p, m, s, now, outcome)
		if got := tried(t, p, m, s, now, outcome); !got.same(want) {
			t.Fatalf("Try(%v, %+v, %v, %d, %d): %+v, not %+v", p, m, s, now, outcome, got, want)
		}
	}
	if n := plainAlarm(p, m, s); Alarm(p, m, s) != n {
		t.Fatalf("Alarm(%v, %+v, %v): %d, not %d", p, m, s, Alarm(p, m, s), n)
	}
}

// plainAlarm lists the ticks of which the least is to be told.
func plainAlarm(p Plan, m envelope.Message, s envelope.Status) int {
	ticks := []int{s.Next, plus(m.At, p.Life)}
	if s.Told%2 == 0 {
		ticks = append(ticks, plus(m.At, p.Warn))
	}
	if m.Mail.Has.By && (s.Told%2 == 0 || m.Mail.Mode == "R" || m.Mail.Mode == "RT") {
		ticks = append(ticks, plus(m.At, m.Mail.By))
	}
	return slices.Min(ticks)
}

// P15.4: the tick at which something is next to be done.
func TestAlarm(t *testing.T) {
	m := from(50, "")
	other := func(state string) envelope.Status { return envelope.Status{State: state, Tries: 1, Next: 70} }
	for i, x := range []struct {
		m    envelope.Message
		s    envelope.Status
		want int
	}{
		{m, still(0, 0, 0), 0},
		{m, still(0, 70, 0), 70},
		{m, still(0, 149, 0), 149},
		{m, still(0, 150, 0), 150},
		{m, still(0, 151, 0), 150},
		{m, still(0, 151, 1), 151},
		{m, still(0, 151, 2), 150},
		{m, still(0, 151, 4), 150},
		{m, still(0, 151, 6), 150},
		{m, still(0, 151, 7), 151},
		{m, still(0, 1049, 1), 1049},
		{m, still(0, 1050, 1), 1050},
		{m, still(0, 1051, 1), 1050},
		{m, still(0, 2*last, 1), 1050},
		{m, still(1000, 2*last, 7), 1050},
		// What nobody asks to be told, or nobody is told, is a time for all that.
		{from(50, "N"), still(0, 900, 0), 150},
		{from(50, "S"), still(0, 900, 0), 150},
		{null(m), still(0, 900, 0), 150},
		{null(by(m, 30, "N")), still(0, 900, 0), 80},
		{by(from(50, "N"), 30, "N"), still(0, 900, 0), 80},
		// Deadlines.
		{by(m, 30, "R"), still(0, 900, 0), 80},
		{by(m, 30, "RT"), still(0, 900, 0), 80},
		{by(m, 30, "R"), still(0, 900, 1), 80},
		{by(m, 30, "RT"), still(0, 900, 3), 80},
		{by(m, 30, "R"), still(0, 79, 1), 79},
		{by(m, 30, "N"), still(0, 900, 0), 80},
		{by(m, 30, "NT"), still(0, 900, 0), 80},
		{by(m, 30, "N"), still(0, 900, 6), 80},
		{by(m, 30, "N"), still(0, 900, 1), 900},
		{by(m, 30, "NT"), still(0, 900, 1), 900},
		{by(m, 200, "R"), still(0, 900, 0), 150},
		{by(m, 200, "R"), still(0, 900, 1), 250},
		{by(m, 200, "N"), still(0, 900, 0), 150},
		{by(m, 200, "N"), still(0, 900, 1), 900},
		{by(m, 5000, "R"), still(0, 9000, 1), 1050},
		{by(m, 0, "N"), still(0, 900, 0), 50},
		{by(m, -50, "N"), still(0, 900, 0), 0},
		{by(m, -60, "N"), still(0, 900, 0), -10},
		{by(m, -60, "N"), still(0, 900, 1), 900},
		// Of what isn't ready there is none.
		{m, other("D"), 0},
		{m, other("G"), 0},
		{m, other("F"), 0},
		{m, other(""), 0},
		{m, other("r"), 0},
		{by(m, -60, "N"), other("F"), 0},
		{m, envelope.Status{}, 0},
		// The place plays no part.
		{m, envelope.Status{Place: 9, State: "R", Next: 70}, 70},
		{envelope.Message{}, envelope.Status{Place: -1, State: "R", Next: 7}, 7},
	} {
		if n := Alarm(usual, x.m, x.s); n != x.want {
			t.Errorf("%d: %d, not %d", i, n, x.want)
		}
	}
	m.Mail.By, m.Mail.Mode = 30, "R"
	if n := Alarm(usual, m, still(0, 900, 1)); n != 900 {
		t.Error("a deadline that isn't said", n)
	}
}

// P15.4: where all is told that may be, the alarm is the first tick at which the time makes anything of a status, or Next, if that is earlier.
func TestAlarmFirst(t *testing.T) {
	for _, p := range []Plan{{1, 1, 40, 15}, {1, 1, 15, 40}, {1, 1, 20, 20}} {
		for _, at := range []int{0, 10} {
			ways(at, []int{-20, -10, -9, -1, 0, 1, 14, 15, 16, 30, 39, 40, 41, 60}, func(m envelope.Message) {
				if m.From == (path.Path{}) || !slices.Contains(list(asks[m.Rcpts[0].Rcpt.Notify]), "delayed") {
					return
				}
				for bits := range 8 {
					first := 0
					for timed(t, p, m, still(0, 0, bits), first).same(told{t: still(0, 0, bits)}) {
						first++
					}
					for _, next := range []int{0, max(first, 1) - 1, first, first + 1, first + 2, last} {
						if n := Alarm(p, m, still(0, next, bits)); max(n, 0) != min(first, next) {
							t.Fatalf("Alarm(%v, %+v, next %d, told %d): %d, not %d", p, m, next, bits, n, first)
						}
					}
				}
			})
		}
	}
}

// P15.5: rows of tries and times, drawn from a seed: each kind is reported once at most, nothing to nobody, nothing behind the end, which comes by Expires.
func TestLives(t *testing.T) {
	draw := rand.New(rand.NewSource(15))
	ends := map[string]int{}
	for range 300 {
		p := Plan{Base: 1 + draw.Intn(5), Life: 1 + draw.Intn(200), Warn: 1 + draw.Intn(200)}
		p.Most = p.Base + draw.Intn(40)
		ways(draw.Intn(100), []int{draw.Intn(250) + 1}, func(m envelope.Message) { ends[life(t, draw, p, m)]++ })
	}
	if ends["D"] == 0 || ends["G"] == 0 || ends["F"] == 0 || len(ends) != 3 {
		t.Error(ends)
	}
}

// life leads a recipient to its end, and answers its state there.
func life(t *testing.T, draw *rand.Rand, p Plan, m envelope.Message) string {
	t.Helper()
	s, now, count := still(0, m.Release, 0), m.At, map[string]int{}
	for s.State == "R" {
		a := timed(t, p, m, s, now)
		if now >= s.Next && draw.Intn(3) > 0 {
			a = tried(t, p, m, s, now, []int{0, 4, 4, 4, 4, 4, 2, 3, 5}[draw.Intn(9)])
		}
		if a.e != api.OK || a.t.Told&s.Told != s.Told || a.t.Tries < s.Tries {
			t.Fatalf("%+v, and then %+v", s, a)
		}
		for _, kind := range a.made {
			count[kind]++
			if a.t.Told&bits[kind] == 0 {
				t.Fatalf("%s isn't told: %+v", kind, a)
			}
		}
		if s = a.t; s.State == "R" && now >= Expires(p, m) {
			t.Fatalf("%v, %+v, %v: ready at %d", p, m, s, now)
		}
		now += draw.Intn(p.Life/4 + 2)
	}
	if _, _, e := Time(p, m, s, now); e != api.ErrState || Alarm(p, m, s) != 0 {
		t.Fatal(e)
	}
	if len(count) > 0 && (m.From == (path.Path{}) || m.Rcpts[0].Rcpt.Notify == "N") {
		t.Fatal(m, count)
	}
	wants := map[string]string{"D": "delivered", "G": "relayed", "F": "failed"}
	for kind, n := range count {
		if n > 1 || kind != "delayed" && kind != wants[s.State] {
			t.Fatal(m, s, count)
		}
	}
	return s.State
}

// P15.1 to P15.4: whatever numbers come, what is far away isn't past, and each call ends.
func TestAnyNumbers(t *testing.T) {
	edges := []int{math.MinInt, math.MinInt + 1, -1, 0, 1, last, math.MaxInt - 1, math.MaxInt}
	wide := Plan{Base: 1 << 20, Most: 1 << 20, Life: 1 << 30, Warn: 1 << 30}
	for _, at := range edges {
		for _, n := range edges {
			for _, mode := range []string{"R", "N", "", "x"} {
				for _, next := range edges {
					m := by(from(at, "SFD"), n, mode)
					for _, p := range []Plan{usual, wide} {
						for _, now := range []int{0, 1, last} {
							held(t, p, m, still(0, next, 0), now)
							held(t, p, m, still(1000, next, 1), now)
						}
					}
					odd := Plan{Base: n, Most: next, Life: n, Warn: next}
					if got, want := Alarm(odd, m, still(n, next, n)), plainAlarm(odd, m, still(n, next, n)); got != want {
						t.Fatalf("Alarm(%v, %+v): %d, not %d", odd, m, got, want)
					}
				}
			}
		}
	}
	// All bits are told, those that none is of, too.
	if got := tried(t, usual, from(0, "SFD"), still(0, 0, -1), 9, 2); got.t.Told != -1 || len(got.made) != 0 || got.e != api.OK {
		t.Errorf("%+v", got)
	}
	if got := tried(t, usual, from(0, "SFD"), still(0, 0, 8), 9, 2); got.t.Told != 12 || !slices.Equal(got.made, list("delivered")) || got.e != api.OK {
		t.Errorf("%+v", got)
	}
}

// P15.2, P15.3: of what may be, what becomes of it may be (layer 10): its bytes are there.
func TestMayBe(t *testing.T) {
	for _, at := range []int{0, last} {
		for _, now := range []int{0, 1, last} {
			for _, tries := range []int{0, 999, 1000} {
				for _, outcome := range []int{0, 2, 3, 4, 5} {
					p := Plan{Base: 1 << 20, Most: 1 << 20, Life: 1 << 30, Warn: 1}
					got := tried(t, p, from(at, "SFD"), still(tries, 2*last, 0), now, outcome)
					s, e := envelope.PrintStatus(got.t)
					back, f := envelope.ParseStatus(s)
					if e != api.OK || f != api.OK || !reflect.DeepEqual(back, got.t) {
						t.Errorf("%+v: %q, %d", got, s, e)
					}
				}
			}
		}
	}
}
