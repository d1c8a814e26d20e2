package clock

import (
	"math"
	"math/rand"
	"slices"
	"testing"

	"duepost/api"
)

// state is all that a clock tells.
type state struct {
	tick, mark, all, back int
	due                   bool
}

// told answers a clock's state, and asks twice, as to ask changes nothing.
func told(t *testing.T, c *Clock) state {
	t.Helper()
	var s [2]state
	for i := range s {
		s[i].tick, s[i].mark, s[i].due = c.Tick(), c.Mark(), c.Due()
		s[i].all, s[i].back = c.Readings()
	}
	if s[0] != s[1] {
		t.Fatalf("%v, and then %v", s[0], s[1])
	}
	return s[0]
}

// is holds a clock's state against what it is to be.
func is(t *testing.T, c *Clock, want state) {
	t.Helper()
	if s := told(t, c); s != want {
		t.Fatalf("%v, not %v", s, want)
	}
}

// begun answers a clock that begins with a mark.
func begun(t *testing.T, mark, step int) *Clock {
	t.Helper()
	c, e := New(mark, step)
	if c == nil || e != api.OK {
		t.Fatalf("New(%d, %d): %v, %d", mark, step, c, e)
	}
	return c
}

// reads holds what a reading answers against what it is to be.
func reads(t *testing.T, c *Clock, raw, tick, went int) {
	t.Helper()
	if a, b := c.Read(raw); a != tick || b != went {
		t.Fatalf("Read(%d): %d, %d, not %d, %d", raw, a, b, tick, went)
	}
}

// P12.1: marks and steps at the edges of what they may be, and beyond.
func TestNew(t *testing.T) {
	marks := map[int]bool{math.MinInt: false, -1: false, 0: true, 1: true, 1<<40 - 1: true, 1 << 40: true, 1<<40 + 1: false, 1 << 41: false, math.MaxInt: false}
	steps := map[int]bool{math.MinInt: false, -1: false, 0: false, 1: true, 2: true, 1<<20 - 1: true, 1 << 20: true, 1<<20 + 1: false, 1 << 21: false, math.MaxInt: false}
	for mark, may := range marks {
		for step, can := range steps {
			c, e := New(mark, step)
			if may && can {
				if e != api.OK {
					t.Fatalf("New(%d, %d): %d", mark, step, e)
				}
				is(t, c, state{tick: mark, mark: mark})
			} else if c != nil || e != api.ErrRange {
				t.Errorf("New(%d, %d): %v, %d", mark, step, c, e)
			}
		}
	}
}

// P12.1: readings ahead of the tick, at it, below it and below 0, and what each of them is counted as.
func TestRead(t *testing.T) {
	c := begun(t, 0, 10)
	for i, x := range []struct{ raw, tick, went, back int }{
		{0, 0, 0, 0},
		{-1, 0, 0, 1},
		{math.MinInt, 0, 0, 2},
		{5, 5, 5, 2},
		{3, 5, 0, 3},
		{5, 5, 0, 3},
		{4, 5, 0, 4},
		{9, 9, 4, 4},
		{0, 9, 0, 5},
		{-5, 9, 0, 6},
		{10, 10, 1, 6},
		{1<<40 - 1, 1<<40 - 1, 1<<40 - 11, 6},
		{1 << 40, 1 << 40, 1, 6},
		{1<<40 - 1, 1 << 40, 0, 7},
		{1 << 40, 1 << 40, 0, 7},
		{1<<40 + 1, 1 << 40, 0, 7},
		{math.MaxInt, 1 << 40, 0, 7},
		{math.MinInt, 1 << 40, 0, 8},
		{9, 1 << 40, 0, 9},
	} {
		reads(t, c, x.raw, x.tick, x.went)
		is(t, c, state{tick: x.tick, all: i + 1, back: x.back, due: x.tick >= 10})
	}
}

// P12.1: readings above 2^40 count as that, whatever the tick was.
func TestGreatReadings(t *testing.T) {
	for _, mark := range []int{0, 1, 7, 1<<40 - 1, 1 << 40} {
		for _, raw := range []int{1 << 40, 1<<40 + 1, 1 << 41, math.MaxInt - 1, math.MaxInt} {
			c := begun(t, mark, 1)
			reads(t, c, raw, 1<<40, 1<<40-mark)
			is(t, c, state{tick: 1 << 40, mark: mark, all: 1, due: mark < 1<<40})
		}
	}
}

// P12.1: a clock that begins with a mark holds it, till a reading is beyond.
func TestBegins(t *testing.T) {
	c := begun(t, 100, 50)
	reads(t, c, 99, 100, 0)
	reads(t, c, 100, 100, 0)
	reads(t, c, 0, 100, 0)
	is(t, c, state{tick: 100, mark: 100, all: 3, back: 2})
	reads(t, c, 101, 101, 1)
	is(t, c, state{tick: 101, mark: 100, all: 4, back: 2})
}

// P12.1: a mark is asked for from the step on, and not ahead of it.
func TestDue(t *testing.T) {
	for _, mark := range []int{0, 1, 77, 1<<40 - 1<<20 - 1} {
		for _, step := range []int{1, 2, 3, 64, 1<<20 - 1, 1 << 20} {
			c := begun(t, mark, step)
			if c.Due() {
				t.Fatal(mark, step, "at first")
			}
			reads(t, c, mark+step-1, mark+step-1, step-1)
			is(t, c, state{tick: mark + step - 1, mark: mark, all: 1})
			reads(t, c, mark+step, mark+step, 1)
			is(t, c, state{tick: mark + step, mark: mark, all: 2, due: true})
			reads(t, c, mark, mark+step, 0)
			is(t, c, state{tick: mark + step, mark: mark, all: 3, back: 1, due: true})
			reads(t, c, mark+step+1, mark+step+1, 1)
			is(t, c, state{tick: mark + step + 1, mark: mark, all: 4, back: 1, due: true})
			if m := c.Marked(); m != mark+step+1 {
				t.Fatal(m)
			}
			is(t, c, state{tick: mark + step + 1, mark: mark + step + 1, all: 4, back: 1})
		}
	}
}

// P12.1: to mark changes the mark alone, due or not, as often as one likes.
func TestMarked(t *testing.T) {
	c := begun(t, 5, 10)
	for range 3 {
		if m := c.Marked(); m != 5 {
			t.Fatal(m)
		}
		is(t, c, state{tick: 5, mark: 5})
	}
	reads(t, c, 6, 6, 1) // not due
	if m := c.Marked(); m != 6 {
		t.Fatal(m)
	}
	is(t, c, state{tick: 6, mark: 6, all: 1})
	reads(t, c, 15, 15, 9)
	is(t, c, state{tick: 15, mark: 6, all: 2})
	reads(t, c, 16, 16, 1)
	is(t, c, state{tick: 16, mark: 6, all: 3, due: true})
	if m := c.Marked(); m != 16 {
		t.Fatal(m)
	}
	reads(t, c, 2, 16, 0)
	is(t, c, state{tick: 16, mark: 16, all: 4, back: 1})
}

// P12.1, P12.2: at the end of all ticks a clock stands still, and is due no more, once it is marked.
func TestEnd(t *testing.T) {
	c := begun(t, 1<<40, 1)
	for _, raw := range []int{math.MaxInt, 1 << 40, 0, math.MinInt} {
		reads(t, c, raw, 1<<40, 0)
	}
	is(t, c, state{tick: 1 << 40, mark: 1 << 40, all: 4, back: 2})
	c = begun(t, 1<<40-1, 2)
	reads(t, c, math.MaxInt, 1<<40, 1)
	is(t, c, state{tick: 1 << 40, mark: 1<<40 - 1, all: 1}) // behind by less than the step, for ever
}

// reading answers any that a clock may be handed: most of them near its tick.
func reading(r *rand.Rand, tick int) int {
	switch r.Intn(8) {
	case 0:
		return int(r.Uint64())
	case 1:
		return r.Intn(1 << 42)
	case 2:
		return -r.Intn(5)
	case 3:
		return 1<<40 - 2 + r.Intn(5)
	}
	return tick - 3 + r.Intn(10)
}

// P12.1, P12.2: whatever readings come, ticks never fall, and the tick is the greatest of the mark and of them; a plain clock keeps all that it was told.
func TestPlain(t *testing.T) {
	r := rand.New(rand.NewSource(12))
	for range 3000 {
		mark, step := max(0, min(1<<40, reading(r, r.Intn(1<<30)))), 1+r.Intn(6)
		c, had, s := begun(t, mark, step), []int{mark}, state{tick: mark, mark: mark}
		for range r.Intn(40) {
			if r.Intn(6) == 0 {
				if m := c.Marked(); m != s.tick {
					t.Fatalf("Marked: %d, not %d", m, s.tick)
				}
				s.mark = s.tick
			} else {
				raw, before := reading(r, s.tick), s.tick
				had = append(had, raw)
				s.tick = min(slices.Max(had), 1<<40)
				s.all++
				if raw < before {
					s.back++
				}
				reads(t, c, raw, s.tick, s.tick-before)
			}
			s.due = s.tick >= s.mark+step
			is(t, c, s)
		}
	}
}

// P12.2: started anew with a mark that isn't due, a clock is behind by less than a step, and goes on from there.
func TestAnew(t *testing.T) {
	r := rand.New(rand.NewSource(21))
	for range 2000 {
		step := 1 + r.Intn(100)
		c, raw, lasts := begun(t, 0, step), 0, 0
		for range 50 {
			raw += r.Intn(step)
			tick, _ := c.Read(raw)
			if c.Due() {
				lasts = c.Marked()
			}
			anew := begun(t, lasts, step)
			if behind := tick - anew.Tick(); behind < 0 || behind >= step {
				t.Fatalf("%d behind %d, with step %d", anew.Tick(), tick, step)
			}
			if again, went := anew.Read(raw); again != tick || went != tick-lasts {
				t.Fatalf("%d, not %d; it went by %d", again, tick, went)
			}
			if r.Intn(10) == 0 {
				c = begun(t, lasts, step)
			}
		}
	}
}

// P12.1: what one clock is told plays no part in what another one tells.
func TestApart(t *testing.T) {
	a, b := begun(t, 1, 5), begun(t, 2, 1)
	reads(t, a, 50, 50, 49)
	is(t, b, state{tick: 2, mark: 2})
	reads(t, b, 1, 2, 0)
	b.Read(3)
	b.Marked()
	is(t, a, state{tick: 50, mark: 1, all: 1, due: true})
	is(t, b, state{tick: 3, mark: 3, all: 2, back: 1})
}
