package wheel

import (
	"maps"
	"math"
	"math/rand"
	"slices"
	"testing"

	"duepost/api"
)

const (
	last  = 1 << 40 // tick that now may be
	later = 1 << 41 // tick at which a timer may be due
)

// plain is a wheel as the chapter tells it, without wheels: when each timer fires.
type plain struct {
	now   int
	fires map[int]int
}

func (p *plain) set(id, due int) { p.fires[id] = max(due, p.now+1) }

// next answers when the first one fires, and if there is one.
func (p *plain) next() (int, bool) {
	if len(p.fires) == 0 {
		return 0, false
	}
	return slices.Min(slices.Collect(maps.Values(p.fires))), true
}

// advance goes from tick to tick at which timers fire.
func (p *plain) advance(to, batch int) []int {
	var fired []int
	for len(fired) < batch {
		tick, any := p.next()
		if !any || tick > to {
			p.now = to
			break
		}
		p.now = tick
		var ids []int
		for id, fires := range p.fires {
			if fires == tick {
				ids = append(ids, id)
			}
		}
		slices.Sort(ids)
		for _, id := range ids {
			delete(p.fires, id)
		}
		fired = append(fired, ids...)
	}
	return fired
}

// is holds all that a wheel tells against a plain one, twice, as to ask changes nothing.
func is(t *testing.T, w *Wheel, p *plain) {
	t.Helper()
	tick, any := p.next()
	for range 2 {
		if w.Now() != p.now || w.Len() != len(p.fires) {
			t.Fatalf("Now %d, Len %d, not %d, %d", w.Now(), w.Len(), p.now, len(p.fires))
		}
		if n, ok := w.Next(); n != tick || ok != any {
			t.Fatalf("Next: %d, %v, not %d, %v (now %d)", n, ok, tick, any, p.now)
		}
		for id, fires := range p.fires {
			if d, ok := w.Due(id); d != fires || !ok {
				t.Fatalf("Due(%d): %d, %v, not %d", id, d, ok, fires)
			}
		}
	}
}

// begun answers wheels without timers, and a plain one beside them.
func begun(t *testing.T, now int) (*Wheel, *plain) {
	t.Helper()
	w, e := New(now)
	if w == nil || e != api.OK {
		t.Fatalf("New(%d): %v, %d", now, w, e)
	}
	return w, &plain{now: now, fires: map[int]int{}}
}

// sets sets a timer of both.
func sets(t *testing.T, w *Wheel, p *plain, id, due int) {
	t.Helper()
	p.set(id, due)
	if e := w.Set(id, due); e != api.OK {
		t.Fatalf("Set(%d, %d): %d", id, due, e)
	}
}

// advances advances both, and holds what they answer against each other.
func advances(t *testing.T, w *Wheel, p *plain, to, batch int) []int {
	t.Helper()
	was, want := p.now, p.advance(to, batch)
	fired, now, e := w.Advance(to, batch)
	if !slices.Equal(fired, want) || now != p.now || e != api.OK {
		t.Fatalf("Advance(%d, %d) from %d: %v, %d, %d, not %v, %d", to, batch, was, fired, now, e, want, p.now)
	}
	return fired
}

// expect holds what an advance answers against what is told.
func expect(t *testing.T, w *Wheel, to, batch int, want []int, tick int) {
	t.Helper()
	fired, now, e := w.Advance(to, batch)
	if !slices.Equal(fired, want) || now != tick || w.Now() != tick || e != api.OK {
		t.Fatalf("Advance(%d, %d): %v, %d, %d, not %v, %d", to, batch, fired, now, e, want, tick)
	}
}

// ticks answers ticks at which wheels turn, and those beside them.
func ticks() []int {
	var all []int
	for _, x := range []int{1, 64, 128, 4032, 4096, 8192, 1<<18 - 64, 1 << 18, 1 << 19, 1<<24 - 1<<18, 1 << 24, 1 << 25, 3<<24 + 5<<18 + 7<<12 + 9<<6 + 11} {
		all = append(all, x-1, x, x+1)
	}
	return all
}

// P13.1: ticks at the edges of what they may be, and beyond.
func TestNew(t *testing.T) {
	for now, may := range map[int]bool{math.MinInt: false, -1: false, 0: true, 1: true, 63: true, last - 1: true, last: true, last + 1: false, later: false, math.MaxInt: false} {
		w, e := New(now)
		if !may {
			if w != nil || e != api.ErrRange {
				t.Errorf("New(%d): %v, %d", now, w, e)
			}
			continue
		}
		if e != api.OK {
			t.Fatalf("New(%d): %d", now, e)
		}
		is(t, w, &plain{now: now})
	}
}

// P13.1: numbers and ticks of timers at their edges; a wrong one changes nothing.
func TestSet(t *testing.T) {
	ids := map[int]bool{math.MinInt: false, -1: false, 0: true, 1: true, 1 << 40: true, math.MaxInt: true}
	dues := map[int]bool{math.MinInt: false, -1: false, 0: true, 1: true, 99: true, 100: true, 101: true, last: true, last + 1: true, later - 1: true, later: true, later + 1: false, math.MaxInt: false}
	for id, can := range ids {
		for due, may := range dues {
			w, p := begun(t, 100)
			sets(t, w, p, 1, 500)
			if can && may {
				sets(t, w, p, id, due)
			} else if e := w.Set(id, due); e != api.ErrRange {
				t.Errorf("Set(%d, %d): %d", id, due, e)
			}
			is(t, w, p)
		}
	}
}

// P13.1: a timer fires when it is due, but at the next tick, if it wasn't due later.
func TestDue(t *testing.T) {
	for _, now := range []int{0, 1, 62, 63, 64, 65, 1 << 30, last - 1, last} {
		for _, d := range []int{-1 << 40, -65, -64, -63, -2, -1, 0, 1, 2, 63, 64, 65} {
			due := now + d
			if due < 0 {
				continue
			}
			w, _ := begun(t, now)
			if e := w.Set(3, due); e != api.OK {
				t.Fatal(e)
			}
			want := now + max(d, 1)
			if tick, ok := w.Due(3); tick != want || !ok {
				t.Errorf("now %d, due %d: %d, %v, not %d", now, due, tick, ok, want)
			}
			if tick, ok := w.Next(); tick != want || !ok {
				t.Errorf("now %d, next %d: %d, %v, not %d", now, due, tick, ok, want)
			}
		}
	}
}

// P13.1: what isn't there isn't due, and can't go; what was cancelled is there no more.
func TestCancel(t *testing.T) {
	for _, due := range append(ticks(), later) {
		w, p := begun(t, 0)
		for _, id := range []int{math.MinInt, -1, 0, 5, math.MaxInt} {
			if d, ok := w.Due(id); d != 0 || ok || w.Cancel(id) {
				t.Fatal(id, d, ok)
			}
		}
		sets(t, w, p, 5, due)
		if w.Cancel(4) || w.Cancel(-5) || w.Cancel(6) {
			t.Fatal(due)
		}
		is(t, w, p)
		if !w.Cancel(5) || w.Cancel(5) {
			t.Fatal(due)
		}
		if d, ok := w.Due(5); d != 0 || ok {
			t.Fatal(d, ok)
		}
		is(t, w, &plain{})
		expect(t, w, last, 1, nil, last)
	}
}

// P13.1: a timer goes where its last Set says, from any wheel to any other, and fires once.
func TestSetAnew(t *testing.T) {
	for _, first := range append(ticks(), 0, last) {
		for _, then := range append(ticks(), 0, last) {
			w, p := begun(t, 0)
			sets(t, w, p, 8, first)
			sets(t, w, p, 9, first)
			sets(t, w, p, 8, then)
			is(t, w, p)
			for range 3 {
				advances(t, w, p, last, 1)
				is(t, w, p)
			}
			if w.Len() != 0 {
				t.Fatal(first, then)
			}
		}
	}
}

// P13.1, P13.2: a timer that fired is there no more, and may be set again.
func TestFiredIsGone(t *testing.T) {
	w, p := begun(t, 0)
	sets(t, w, p, 1, 5)
	advances(t, w, p, 5, 1)
	if d, ok := w.Due(1); d != 0 || ok || w.Cancel(1) || w.Len() != 0 {
		t.Fatal(d, ok)
	}
	sets(t, w, p, 1, 5) // not later than now
	is(t, w, p)
	expect(t, w, 6, 1, []int{1}, 6)
	expect(t, w, last, 1, nil, last)
}

// P13.2: ticks and batches at their edges, and beyond; a wrong one changes nothing.
func TestAdvanceRange(t *testing.T) {
	tos := map[int]bool{math.MinInt: false, -1: false, 0: false, 99: false, 100: true, 101: true, last: true, last + 1: false, later: false, math.MaxInt: false}
	batches := map[int]bool{math.MinInt: false, -1: false, 0: false, 1: true, 2: true, 1 << 20: true, 1<<20 + 1: false, math.MaxInt: false}
	for to, may := range tos {
		for batch, can := range batches {
			w, p := begun(t, 100)
			sets(t, w, p, 7, 0)
			sets(t, w, p, 8, 300)
			if may && can {
				advances(t, w, p, to, batch)
			} else if fired, now, e := w.Advance(to, batch); len(fired) != 0 || now != 0 || e != api.ErrRange {
				t.Errorf("Advance(%d, %d): %v, %d, %d", to, batch, fired, now, e)
			}
			is(t, w, p)
		}
	}
}

// P13.2: the chapter's example; without timers now goes on at once.
func TestExample(t *testing.T) {
	w, _ := begun(t, 0)
	if e := w.Set(1, 5); e != api.OK {
		t.Fatal(e)
	}
	expect(t, w, 10, 9, []int{1}, 10)
	expect(t, w, 10, 1, nil, 10)
	expect(t, w, last, 1<<20, nil, last)
	expect(t, w, last, 1, nil, last)
}

// P13.2: an advance stops behind a tick, never in its midst, and only where as many fired as were asked for.
func TestBatch(t *testing.T) {
	begin := func() *Wheel {
		w, p := begun(t, 0)
		for _, x := range [][2]int{{9, 10}, {3, 10}, {5, 10}, {8, 20}, {2, 20}, {1, 30}, {0, 300}} {
			sets(t, w, p, x[0], x[1])
		}
		return w
	}
	for _, x := range []struct {
		to, batch int
		fired     []int
		now       int
	}{
		{9, 1, nil, 9},
		{10, 1, []int{3, 5, 9}, 10},
		{11, 1, []int{3, 5, 9}, 10},
		{last, 2, []int{3, 5, 9}, 10},
		{last, 3, []int{3, 5, 9}, 10},
		{19, 4, []int{3, 5, 9}, 19},
		{20, 4, []int{3, 5, 9, 2, 8}, 20},
		{last, 4, []int{3, 5, 9, 2, 8}, 20},
		{last, 5, []int{3, 5, 9, 2, 8}, 20},
		{29, 6, []int{3, 5, 9, 2, 8}, 29},
		{last, 6, []int{3, 5, 9, 2, 8, 1}, 30},
		{299, 7, []int{3, 5, 9, 2, 8, 1}, 299},
		{last, 7, []int{3, 5, 9, 2, 8, 1, 0}, 300},
		{300, 8, []int{3, 5, 9, 2, 8, 1, 0}, 300},
		{last, 8, []int{3, 5, 9, 2, 8, 1, 0}, last},
		{last, 1 << 20, []int{3, 5, 9, 2, 8, 1, 0}, last},
	} {
		expect(t, begin(), x.to, x.batch, x.fired, x.now)
	}
	w := begin() // each advance counts anew
	expect(t, w, last, 2, []int{3, 5, 9}, 10)
	expect(t, w, last, 2, []int{2, 8}, 20)
	expect(t, w, last, 2, []int{1, 0}, 300)
	expect(t, w, last, 2, nil, last)
}

// P13.2: the numbers of a tick rise, whichever wheels its timers were set in.
func TestOneTick(t *testing.T) {
	for _, due := range []int{1 << 25, 1<<25 + 1, 1<<25 + 64*5, 1<<25 - 1} {
		w, p := begun(t, 0)
		for i, ahead := range []int{due, 1<<24 + 1, 1 << 24, 1<<24 - 1, 1<<18 + 1, 1 << 18, 4097, 4096, 4095, 65, 64, 63, 2, 1} {
			advances(t, w, p, due-ahead, 1)
			sets(t, w, p, (i*5)%14, due)
			is(t, w, p)
		}
		expect(t, w, last, 1, []int{0, 1, 2, 3, 4, 5, 6, 7, 8, 9, 10, 11, 12, 13}, due)
	}
}

// P13.4: at any turn of the wheels timers at all edges fire at their tick, no later and no earlier, in two steps.
func TestEdges(t *testing.T) {
	for _, now := range append(ticks(), 0, 1<<39+12345) {
		for _, ahead := range ticks() {
			w, p := begun(t, now)
			sets(t, w, p, 6, now+ahead)
			fires := max(now+ahead, now+1)
			expect(t, w, fires-1, 1, nil, fires-1)
			if d, ok := w.Due(6); d != fires || !ok {
				t.Fatal(now, ahead, d, ok)
			}
			if d, ok := w.Next(); d != fires || !ok {
				t.Fatal(now, ahead, d, ok)
			}
			expect(t, w, fires, 1, []int{6}, fires)
			expect(t, w, last, 1, nil, last)
		}
	}
}

// P13.3: the first one may stand in a wheel behind that of a later one, as it was set earlier.
func TestNextOverWheels(t *testing.T) {
	for _, x := range [][4]int{{130, 100, 150, 1}, {5000, 4990, 5010, 1}, {1<<18 + 100, 1<<18 - 1, 1<<18 + 4000, 0}, {1<<24 + 10, 1 << 24, 1<<24 + 11, 2}, {1<<24 + 1<<18, 5, 1<<24 + 4, 1}} {
		w, p := begun(t, 0)
		sets(t, w, p, 1, x[0])
		advances(t, w, p, x[1], 1)
		sets(t, w, p, 2, x[2])
		is(t, w, p)
		advances(t, w, p, last, 1)
		is(t, w, p)
	}
}

// P13.1, P13.2: at the end of all ticks timers are taken, and none fires any more.
func TestEnd(t *testing.T) {
	w, p := begun(t, last-1)
	sets(t, w, p, 1, last)
	sets(t, w, p, 2, last+1)
	sets(t, w, p, 3, later)
	expect(t, w, last, 1, []int{1}, last)
	if e := w.Set(1, 0); e != api.OK {
		t.Fatal(e)
	}
	for _, id := range []int{1, 2} {
		if d, ok := w.Due(id); d != last+1 || !ok {
			t.Fatal(id, d, ok)
		}
	}
	expect(t, w, last, 1, nil, last)
	if n, ok := w.Next(); n != last+1 || !ok || w.Len() != 3 {
		t.Fatal(n, ok, w.Len())
	}
	if fired, now, e := w.Advance(last+1, 1); len(fired) != 0 || now != 0 || e != api.ErrRange {
		t.Fatal(fired, now, e)
	}
}

// near answers a tick from now on, as often beside the edges of a wheel as far away.
func near(r *rand.Rand, now int) int {
	wheels := []int{1, 64, 4096, 1 << 18, 1 << 24, 1 << 30, 1 << 40}
	ahead := wheels[r.Intn(len(wheels))]
	switch r.Intn(4) {
	case 0:
		return now + ahead - 2 + r.Intn(5)
	case 1:
		return (now/ahead+1)*ahead - 1 + r.Intn(3)
	case 2:
		return now + r.Intn(ahead)
	}
	return now + r.Intn(64*ahead)
}

// P13.1 to P13.4: whatever row of calls comes, all that is told is as of a plain wheel.
func TestPlain(t *testing.T) {
	r := rand.New(rand.NewSource(13))
	for range 400 {
		w, p := begun(t, max(0, min(last, near(r, 0))))
		ids := 1 + r.Intn(30)
		for range 150 {
			id := r.Intn(ids)
			switch r.Intn(8) {
			case 0, 1, 2:
				sets(t, w, p, id, max(0, min(later, near(r, p.now))))
			case 3:
				sets(t, w, p, id, r.Intn(p.now+2))
			case 4:
				_, there := p.fires[id]
				delete(p.fires, id)
				if ok := w.Cancel(id); ok != there {
					t.Fatalf("Cancel(%d): %v", id, ok)
				}
			case 5:
				if tick, any := p.next(); any { // just ahead of the first one, at it, or behind it
					advances(t, w, p, max(p.now, min(last, tick-1+r.Intn(3))), 1+r.Intn(3))
				}
			default:
				advances(t, w, p, max(p.now, min(last, near(r, p.now))), 1+r.Intn(5))
			}
			is(t, w, p)
		}
	}
}

// P13.4: in how many steps one advances, and with what batches, plays no part in what fires, and when.
func TestSteps(t *testing.T) {
	r := rand.New(rand.NewSource(31))
	for range 60 {
		now := max(0, min(last-20000, near(r, 0)))
		end := now + 20000
		timers := map[int]int{}
		for id := range 40 {
			timers[id] = max(0, min(end, near(r, now)))
		}
		var first []int // what fired, in order, the first way
		for i, step := range []int{20000, 1, 2, 63, 64, 4097} {
			w, _ := begun(t, now)
			for id, due := range timers {
				if e := w.Set(id, due); e != api.OK {
					t.Fatal(e)
				}
			}
			var all []int
			for w.Now() < end {
				before := w.Now()
				fired, tick, e := w.Advance(min(end, before+step), 1+i*r.Intn(3))
				if e != api.OK {
					t.Fatal(e)
				}
				for _, id := range fired {
					if f := max(timers[id], now+1); f <= before || f > tick || i == 0 && f != tick {
						t.Fatalf("timer %d of %d fired behind %d till %d", id, f, before, tick)
					}
				}
				all = append(all, fired...)
			}
			if i == 0 {
				first = all
			}
			if len(all) != 40 || !slices.Equal(all, first) {
				t.Fatalf("by %d: %v, not %v", step, all, first)
			}
		}
	}
}

// P13.2, P13.4: a great many timers, over all ticks and in one slot, fire in order, and in a bearable time.
func TestMany(t *testing.T) {
	for _, wide := range []int{1, 1000, 1 << 18, 1 << 24, last} {
		r := rand.New(rand.NewSource(int64(wide)))
		w, _ := begun(t, 0)
		type due struct{ tick, id int }
		var all []due
		for i := range 50000 {
			x := due{1 + r.Intn(wide), i * 3}
			if i%10 == 9 { // was due elsewhere, or goes
				w.Set(x.id, 1+r.Intn(wide))
			}
			if w.Set(x.id, x.tick) != api.OK {
				t.Fatal(x)
			}
			if i%7 == 6 {
				w.Cancel(x.id)
				continue
			}
			all = append(all, x)
		}
		slices.SortFunc(all, func(a, b due) int {
			if a.tick != b.tick {
				return a.tick - b.tick
			}
			return a.id - b.id
		})
		if w.Len() != len(all) {
			t.Fatal(w.Len())
		}
		for len(all) > 0 {
			if n, ok := w.Next(); n != all[0].tick || !ok {
				t.Fatal(n, ok)
			}
			fired, now, _ := w.Advance(last, 1)
			for _, id := range fired {
				if now != all[0].tick || id != all[0].id {
					t.Fatalf("%d at %d, not %v", id, now, all[0])
				}
				all = all[1:]
			}
		}
		expect(t, w, last, 1, nil, last)
	}
}

// P13.2: what an advance answers is its own, and one wheel plays no part in what another one tells.
func TestApart(t *testing.T) {
	a, p := begun(t, 0)
	b, q := begun(t, 7)
	for id := range 6 {
		sets(t, a, p, id, 10+id/3)
		sets(t, b, q, id, 20)
	}
	first := advances(t, a, p, 50, 1)
	is(t, b, q)
	second := advances(t, a, p, 50, 1)
	_ = append(first[:1], 77, 78, 79)
	if !slices.Equal(second, []int{3, 4, 5}) {
		t.Fatal(second)
	}
	for i := range first {
		first[i] = 99
	}
	advances(t, b, q, 50, 3)
	is(t, a, p)
	is(t, b, q)
}
