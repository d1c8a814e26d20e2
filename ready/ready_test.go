package ready

import (
	"math"
	"math/big"
	"math/rand"
	"slices"
	"strings"
	"testing"

	"duepost/api"
)

const last = 1 << 40 // tick at which an entry may come

// plain is a ready queue as the chapter tells it: what is there, in the order in which it was put, and what is in flight.
type plain struct {
	age, limit, room int
	there, flying    []Entry
}

// rank counts an entry's ages one by one, as far as they matter.
func rank(x Entry, now, age int) int {
	n := x.Priority
	for came := x.At + age; came <= now && n < 9; came += age {
		n++
	}
	return n
}

// has tells where a number is in a list.
func has(l []Entry, id int) int {
	return slices.IndexFunc(l, func(x Entry) bool { return x.Id == id })
}

// put answers the error that is to be, of what is an entry.
func (p *plain) put(x Entry) api.Errno {
	if has(p.there, x.Id) >= 0 || has(p.flying, x.Id) >= 0 {
		return api.ErrTwice
	}
	if len(p.there) == p.room {
		return api.ErrFull
	}
	p.there = append(p.there, x)
	return api.OK
}

// goes counts what flies to a destination.
func (p *plain) goes(dest string) int {
	n := 0
	for _, x := range p.flying {
		if x.Dest == dest {
			n++
		}
	}
	return n
}

// first answers the place of the one of the greatest rank among those that may be taken; of several that of the one that was put first.
func (p *plain) first(now int, may func(Entry) bool) int {
	best := -1
	for i, x := range p.there {
		if may(x) && (best < 0 || rank(x, now, p.age) > rank(p.there[best], now, p.age)) {
			best = i
		}
	}
	return best
}

func (p *plain) take(now int) (Entry, bool) {
	i := p.first(now, func(x Entry) bool { return p.goes(x.Dest) < p.limit })
	if i < 0 {
		return Entry{}, false
	}
	x := p.there[i]
	p.there = slices.Delete(p.there, i, i+1)
	p.flying = append(p.flying, x)
	return x, true
}

func (p *plain) done(id int) bool {
	i := has(p.flying, id)
	if i >= 0 {
		p.flying = slices.Delete(p.flying, i, i+1)
	}
	return i >= 0
}

func (p *plain) remove(id int) bool {
	i := has(p.there, id)
	if i >= 0 {
		p.there = slices.Delete(p.there, i, i+1)
	}
	return i >= 0
}

// order takes one after another, without a cap.
func (p *plain) order(now int) []int {
	q := plain{age: p.age, there: slices.Clone(p.there)}
	var ids []int
	for len(q.there) > 0 {
		i := q.first(now, func(Entry) bool { return true })
		ids = append(ids, q.there[i].Id)
		q.there = slices.Delete(q.there, i, i+1)
	}
	return ids
}

// is holds all that a queue tells against a plain one, twice, as to ask changes nothing; another tick between plays no part.
func is(t *testing.T, r *Ready, p *plain, now int) {
	t.Helper()
	for range 2 {
		if r.Len() != len(p.there) {
			t.Fatalf("Len %d, not %d", r.Len(), len(p.there))
		}
		if got, want := r.Order(now), p.order(now); !slices.Equal(got, want) {
			t.Fatalf("Order(%d): %v, not %v", now, got, want)
		}
		for _, x := range append(slices.Concat(p.there, p.flying), Entry{}, Entry{Dest: "not"}) {
			if got, want := r.Flying(x.Dest), p.goes(x.Dest); got != want {
				t.Fatalf("Flying(%q): %d, not %d", x.Dest, got, want)
			}
		}
		r.Order(math.MaxInt)
	}
}

// begun answers a queue without entries, and a plain one beside it.
func begun(t *testing.T, age, limit, room int) (*Ready, *plain) {
	t.Helper()
	r, e := New(age, limit, room)
	if r == nil || e != api.OK {
		t.Fatalf("New(%d, %d, %d): %v, %d", age, limit, room, r, e)
	}
	return r, &plain{age: age, limit: limit, room: room}
}

// puts puts an entry into both, and holds what is answered against each other.
func puts(t *testing.T, r *Ready, p *plain, x Entry) api.Errno {
	t.Helper()
	want := p.put(x)
	if e := r.Put(x); e != want {
		t.Fatalf("Put(%v): %d, not %d", x, e, want)
	}
	return want
}

// takes takes of both, and holds what is answered against each other.
func takes(t *testing.T, r *Ready, p *plain, now int) (Entry, bool) {
	t.Helper()
	want, any := p.take(now)
	x, ok := r.Take(now)
	if x != want || ok != any {
		t.Fatalf("Take(%d): %v, %v, not %v, %v", now, x, ok, want, any)
	}
	return x, ok
}

// takesAll holds the numbers of all that are taken at a tick, in order, against those that are to be.
func takesAll(t *testing.T, r *Ready, p *plain, now int, want ...int) {
	t.Helper()
	var ids []int
	for {
		x, ok := takes(t, r, p, now)
		if !ok {
			break
		}
		ids = append(ids, x.Id)
	}
	if !slices.Equal(ids, want) {
		t.Fatalf("at %d %v were taken, not %v", now, ids, want)
	}
}

// ends ends what is in flight of both.
func ends(t *testing.T, r *Ready, p *plain, id int) {
	t.Helper()
	want := p.done(id)
	if ok := r.Done(id); ok != want {
		t.Fatalf("Done(%d): %v", id, ok)
	}
}

// removes removes of both.
func removes(t *testing.T, r *Ready, p *plain, id int) {
	t.Helper()
	want := p.remove(id)
	if ok := r.Remove(id); ok != want {
		t.Fatalf("Remove(%d): %v", id, ok)
	}
}

// P14.1: ages, caps and rooms at the edges of what they may be, and beyond.
func TestNew(t *testing.T) {
	edges := func(most int) map[int]bool {
		return map[int]bool{math.MinInt: false, -1: false, 0: false, 1: true, 2: true, most - 1: true, most: true, most + 1: false, math.MaxInt: false}
	}
	for age, a := range edges(1 << 20) {
		for limit, l := range edges(64) {
			for room, m := range edges(4096) {
				if a && l && m {
					r, p := begun(t, age, limit, room)
					is(t, r, p, 0)
					takesAll(t, r, p, 0)
				} else if r, e := New(age, limit, room); r != nil || e != api.ErrRange {
					t.Errorf("New(%d, %d, %d): %v, %d", age, limit, room, r, e)
				}
			}
		}
	}
}

// P14.1: what is an entry, and what is none: each of its parts at its edges; what is none changes nothing.
func TestPut(t *testing.T) {
	ids := map[int]bool{math.MinInt: false, -1: false, 0: true, 1: true, last: true, math.MaxInt: true}
	dests := map[string]bool{"": false, "a": true, "\x00": true, "\xff A": true, strings.Repeat("d", 254): true, strings.Repeat("d", 255): true, strings.Repeat("d", 256): false, strings.Repeat("d", 70000): false}
	priorities := map[int]bool{math.MinInt: false, -10: false, -9: true, -8: true, 0: true, 8: true, 9: true, 10: false, math.MaxInt: false}
	ats := map[int]bool{math.MinInt: false, -1: false, 0: true, 1: true, last - 1: true, last: true, last + 1: false, math.MaxInt: false}
	for id, i := range ids {
		for dest, d := range dests {
			for priority, n := range priorities {
				for at, a := range ats {
					r, p := begun(t, 1, 1, 2)
					puts(t, r, p, Entry{Id: 7, Dest: "z", At: 3})
					x := Entry{Id: id, Dest: dest, Priority: priority, At: at}
					if i && d && n && a {
						if puts(t, r, p, x) != api.OK {
							t.Fatal(x)
						}
					} else if e := r.Put(x); e != api.ErrRange {
						t.Errorf("Put(%v): %d", x, e)
					}
					is(t, r, p, 0)
					for range p.there {
						takes(t, r, p, 50)
					}
				}
			}
		}
	}
}

// P14.1: a number stands once, there or in flight; behind Done and Remove it may be put again.
func TestTwice(t *testing.T) {
	r, p := begun(t, 10, 2, 5)
	a, b := Entry{Id: 0, Dest: "a"}, Entry{Id: 0, Dest: "b", Priority: 5, At: 9}
	put := func(x Entry, want api.Errno) {
		t.Helper()
		if e := puts(t, r, p, x); e != want {
			t.Fatal(x, e)
		}
		is(t, r, p, 9)
	}
	put(a, api.OK)
	put(a, api.ErrTwice)
	put(b, api.ErrTwice)
	takesAll(t, r, p, 0, 0)
	put(a, api.ErrTwice)
	put(b, api.ErrTwice)
	ends(t, r, p, 0)
	put(b, api.OK)
	put(a, api.ErrTwice)
	removes(t, r, p, 0)
	put(a, api.OK)
	takesAll(t, r, p, 0, 0)
	put(b, api.ErrTwice)
}

// P14.1: room is for what is there; what is in flight takes none.
func TestFull(t *testing.T) {
	for _, room := range []int{1, 2, 63, 4095, 4096} {
		r, e := New(10, 64, room)
		if e != api.OK {
			t.Fatal(e)
		}
		for round := range 3 {
			for i := range room {
				if e := r.Put(Entry{Id: round*room + i, Dest: "a"}); e != api.OK {
					t.Fatal(room, i, e)
				}
			}
			if e := r.Put(Entry{Id: last, Dest: "a"}); e != api.ErrFull || r.Len() != room {
				t.Fatal(room, e, r.Len())
			}
			for i := range min(room, 20) {
				if x, ok := r.Take(0); !ok || x.Id != round*room+i {
					t.Fatal(x, ok)
				}
				if e := r.Put(Entry{Id: last + i, Dest: "b"}); e != api.OK {
					t.Fatal(e)
				}
				if e := r.Put(Entry{Id: last * 2, Dest: "b"}); e != api.ErrFull || r.Len() != room {
					t.Fatal(room, e, r.Len())
				}
			}
			for id := range min(room, 20) {
				if !r.Remove(last + id) {
					t.Fatal(id)
				}
			}
			for id := round * room; id < round*room+room; id++ {
				if r.Done(id) == r.Remove(id) {
					t.Fatal(id)
				}
			}
			if r.Len() != 0 {
				t.Fatal(r.Len())
			}
		}
	}
}

// P14.1: of several errors that is told which is named first.
func TestFirstError(t *testing.T) {
	r, p := begun(t, 10, 1, 1)
	puts(t, r, p, Entry{Id: 1, Dest: "a"})
	takes(t, r, p, 0)
	puts(t, r, p, Entry{Id: 2, Dest: "a"})
	for _, x := range []struct {
		x    Entry
		want api.Errno
	}{
		{Entry{Id: 1, Dest: "", At: 0}, api.ErrRange},
		{Entry{Id: 2, Dest: "a", At: -1}, api.ErrRange},
		{Entry{Id: 2, Dest: "a", Priority: 10}, api.ErrRange},
		{Entry{Id: 3, Dest: "a", Priority: -10}, api.ErrRange},
		{Entry{Id: 1, Dest: "a"}, api.ErrTwice},
		{Entry{Id: 2, Dest: "b"}, api.ErrTwice},
		{Entry{Id: 3, Dest: "b"}, api.ErrFull},
	} {
		if e := r.Put(x.x); e != x.want {
			t.Errorf("Put(%v): %d, not %d", x.x, e, x.want)
		}
		is(t, r, p, 0)
	}
}

// P14.1: ranks of entries, ahead of when they came and behind it, at each age's edges.
func TestRank(t *testing.T) {
	for _, x := range []struct{ priority, at, now, age, want int }{
		{0, 0, 0, 10, 0},
		{0, 0, 9, 10, 0},
		{0, 0, 10, 10, 1},
		{0, 0, 19, 10, 1},
		{0, 0, 20, 10, 2},
		{0, 0, 89, 10, 8},
		{0, 0, 90, 10, 9},
		{0, 0, 100, 10, 9},
		{0, 0, last, 1, 9},
		{-9, 0, 179, 10, 8},
		{-9, 0, 180, 10, 9},
		{-9, 0, 190, 10, 9},
		{9, 0, 0, 10, 9},
		{9, 0, 50, 10, 9},
		{3, 100, 109, 10, 3},
		{3, 100, 110, 10, 4},
		{3, 100, 99, 10, 3},
		{3, 100, 80, 10, 3},
		{3, 100, 0, 10, 3},
		{3, 100, -500, 10, 3},
		{-9, last, 0, 1, -9},
		{-9, last, math.MinInt, 1, -9},
		{-9, last, last + 5, 1, -4},
		{-9, 0, 1<<20 - 1, 1 << 20, -9},
		{-9, 0, 1 << 20, 1 << 20, -8},
		{-9, 5, math.MaxInt, 1 << 20, 9},
	} {
		if n := Rank(Entry{Priority: x.priority, At: x.at}, x.now, x.age); n != x.want {
			t.Errorf("%v: %d", x, n)
		}
	}
}

// P14.1: a rank's every step, of every priority and some ages, counted one by one; number and destination play no part.
func TestRankSteps(t *testing.T) {
	for priority := -9; priority <= 9; priority++ {
		for _, age := range []int{1, 2, 3, 7, 64} {
			for _, at := range []int{0, 1, 6, 50} {
				x := Entry{Id: at, Dest: "d", Priority: priority, At: at}
				for now := -20; now <= at+20*age; now++ {
					want := rank(x, now, age)
					if n := Rank(x, now, age); n != want {
						t.Fatalf("Rank(%v, %d, %d): %d, not %d", x, now, age, n, want)
					}
					if n := Rank(Entry{Id: -now, Priority: priority, At: at}, now, age); n != want {
						t.Fatalf("of another number: %d, not %d", n, want)
					}
				}
			}
		}
	}
}

// wide tells a rank by numbers of any size.
func wide(x Entry, now, age int) int64 {
	n := big.NewInt(int64(x.Priority))
	if now > x.At {
		gone := new(big.Int).Sub(big.NewInt(int64(now)), big.NewInt(int64(x.At)))
		n.Add(n, gone.Div(gone, big.NewInt(int64(max(age, 1)))))
	}
	if nine := big.NewInt(9); n.Cmp(nine) > 0 {
		n = nine
	}
	return n.Int64()
}

// P14.1: ranks of what is no entry: ages below 1 count as 1, priorities beyond 9 as 9; no number is too great.
func TestRankOfAny(t *testing.T) {
	numbers := []int{math.MinInt, math.MinInt + 1, math.MinInt + 9, -last, -1000, -11, -10, -9, -1, 0, 1, 2, 8, 9, 10, 11, 1000, last, math.MaxInt - 9, math.MaxInt - 1, math.MaxInt}
	for _, priority := range numbers {
		for _, at := range numbers {
			for _, now := range numbers {
				for _, age := range numbers {
					x := Entry{Priority: priority, At: at}
					if n, want := Rank(x, now, age), wide(x, now, age); int64(n) != want {
						t.Fatalf("Rank(%v, %d, %d): %d, not %d", x, now, age, n, want)
					}
				}
			}
		}
	}
}

// P14.2: the greatest rank is taken first; of several the one that was put first, whatever its number, and whenever it came.
func TestTake(t *testing.T) {
	begin := func() (*Ready, *plain) {
		r, p := begun(t, 10, 64, 10)
		for _, x := range []Entry{{9, "a", 0, 15}, {8, "b", -3, 0}, {3, "c", 1, 20}, {4, "d", 0, 5}, {1, "e", 9, 90}, {2, "f", 0, 15}, {0, "g", -9, 1}} {
			puts(t, r, p, x)
		}
		return r, p
	}
	for _, x := range []struct {
		now  int
		want []int
	}{
		{-1, []int{1, 3, 9, 4, 2, 8, 0}},
		{0, []int{1, 3, 9, 4, 2, 8, 0}},
		{14, []int{1, 3, 9, 4, 2, 8, 0}},
		{15, []int{1, 3, 4, 9, 2, 8, 0}},
		{25, []int{1, 4, 9, 3, 2, 8, 0}},
		{30, []int{1, 3, 4, 9, 2, 8, 0}},
		{94, []int{1, 3, 4, 9, 2, 8, 0}},
		{95, []int{4, 1, 9, 3, 2, 8, 0}},
		{110, []int{9, 3, 4, 1, 2, 8, 0}},
		{119, []int{9, 3, 4, 1, 2, 8, 0}},
		{120, []int{9, 8, 3, 4, 1, 2, 0}},
		{180, []int{9, 8, 3, 4, 1, 2, 0}},
		{181, []int{9, 8, 3, 4, 1, 2, 0}},
		{math.MaxInt, []int{9, 8, 3, 4, 1, 2, 0}},
	} {
		r, p := begin()
		if ids := r.Order(x.now); !slices.Equal(ids, x.want) {
			t.Errorf("Order(%d): %v, not %v", x.now, ids, x.want)
		}
		takesAll(t, r, p, x.now, x.want...)
		is(t, r, p, x.now)
	}
	r, p := begin() // each is asked at a tick of its own; ticks may fall
	for _, x := range [][2]int{{120, 9}, {0, 1}, {25, 4}, {120, 8}, {0, 3}, {-5, 2}, {500, 0}} {
		if got, ok := takes(t, r, p, x[0]); !ok || got.Id != x[1] {
			t.Fatal(x, got)
		}
		is(t, r, p, x[0])
	}
}

// P14.2: an entry is taken as it was put.
func TestTakenWhole(t *testing.T) {
	r, p := begun(t, 1, 1, 3)
	for _, x := range []Entry{{math.MaxInt, strings.Repeat("x", 255), 9, last}, {0, "B", -9, 0}, {1, "b", 8, 1}} {
		puts(t, r, p, x)
	}
	for range 4 {
		takes(t, r, p, 0)
	}
	if x, ok := r.Take(0); x != (Entry{}) || ok {
		t.Fatal(x, ok)
	}
}

// P14.2: of a destination that has the cap in flight none is taken; others are, and it is again behind Done.
func TestCap(t *testing.T) {
	for _, limit := range []int{1, 2, 3, 63, 64} {
		r, p := begun(t, 10, limit, 300)
		for id := range 2 * limit {
			puts(t, r, p, Entry{Id: id, Dest: "a", Priority: 9})
		}
		for id := range 70 {
			puts(t, r, p, Entry{Id: 200 + id, Dest: "b", Priority: -9})
		}
		for id := range limit {
			if x, ok := takes(t, r, p, 0); !ok || x.Id != id {
				t.Fatal(limit, x)
			}
		}
		if n := r.Flying("a"); n != limit || r.Flying("b") != 0 {
			t.Fatal(limit, n)
		}
		if x, ok := takes(t, r, p, 0); !ok || x.Dest != "b" {
			t.Fatal(limit, x)
		}
		removes(t, r, p, 0) // what is in flight isn't there
		ends(t, r, p, limit-1)
		if n := r.Flying("a"); n != limit-1 {
			t.Fatal(limit, n)
		}
		if x, ok := takes(t, r, p, 0); !ok || x.Id != limit {
			t.Fatal(limit, x)
		}
		for {
			if _, ok := takes(t, r, p, 1000); !ok {
				break
			}
		}
		if r.Flying("a") != limit || r.Flying("b") != limit || r.Len() != limit-1+70-limit {
			t.Fatal(limit, r.Flying("a"), r.Flying("b"), r.Len())
		}
		is(t, r, p, 0)
	}
}

// P14.2: destinations are told apart byte by byte.
func TestDestinations(t *testing.T) {
	dests := []string{"a", "A", "a ", " a", "a\x00", "\x00", "aa", "a.", "\xff", "\xc3\xa9", "e\xcc\x81", strings.Repeat("a", 254), strings.Repeat("a", 255)}
	r, p := begun(t, 10, 1, 100)
	for i, d := range dests {
		puts(t, r, p, Entry{Id: 2 * i, Dest: d})
		puts(t, r, p, Entry{Id: 2*i + 1, Dest: d})
	}
	var first, then []int
	for i := range dests {
		first, then = append(first, 2*i), append(then, 2*i+1)
	}
	takesAll(t, r, p, 0, first...)
	for i, d := range dests {
		if r.Flying(d) != 1 {
			t.Fatal(d)
		}
		ends(t, r, p, 2*i)
		if r.Flying(d) != 0 {
			t.Fatal(d)
		}
	}
	takesAll(t, r, p, 0, then...)
	for _, d := range []string{"", "b", strings.Repeat("a", 256), strings.Repeat("a", 70000)} {
		if n := r.Flying(d); n != 0 {
			t.Fatal(n)
		}
	}
}

// P14.2: Done is of what is in flight alone, and Remove of what is there alone; once each.
func TestDoneAndRemove(t *testing.T) {
	r, p := begun(t, 10, 2, 5)
	wrong := func() {
		t.Helper()
		for _, id := range []int{math.MinInt, -1, 0, 7, math.MaxInt} {
			if r.Done(id) || r.Remove(id) {
				t.Fatal(id)
			}
		}
		is(t, r, p, 0)
	}
	wrong()
	puts(t, r, p, Entry{Id: 1, Dest: "a"})
	puts(t, r, p, Entry{Id: 2, Dest: "a"})
	puts(t, r, p, Entry{Id: 3, Dest: "b"})
	wrong()
	for _, x := range []struct {
		call  func(int) bool
		plain func(int) bool
		id    int
		want  bool
	}{
		{r.Done, p.done, 1, false}, // it is there
		{r.Remove, p.remove, 2, true},
		{r.Remove, p.remove, 2, false},
		{r.Done, p.done, 2, false},
	} {
		if got, also := x.call(x.id), x.plain(x.id); got != x.want || also != x.want {
			t.Fatal(x.id, got)
		}
		is(t, r, p, 0)
	}
	takesAll(t, r, p, 0, 1, 3)
	wrong()
	if r.Remove(1) || r.Len() != 0 || r.Flying("a") != 1 || !r.Done(1) || r.Flying("a") != 0 || r.Done(1) || r.Remove(1) || !r.Done(3) || r.Done(3) {
		t.Fatal("1 and 3")
	}
}

// P14.2: Order is of all that are there, whatever is in flight, and each number is there once.
func TestOrder(t *testing.T) {
	r, p := begun(t, 10, 1, 6)
	for id := range 6 {
		puts(t, r, p, Entry{Id: id, Dest: "a", Priority: id % 3})
	}
	for _, want := range [][]int{{2, 5, 1, 4, 0, 3}, {5, 1, 4, 0, 3}} {
		if ids := r.Order(0); !slices.Equal(ids, want) {
			t.Fatal(ids)
		}
		takes(t, r, p, 0) // the second time there is none to be taken
	}
	if ids := r.Order(0); !slices.Equal(ids, []int{5, 1, 4, 0, 3}) {
		t.Fatal(ids)
	}
	puts(t, r, p, Entry{Id: 9, Dest: "a", Priority: 1})
	if ids := r.Order(math.MaxInt); !slices.Equal(ids, []int{0, 1, 3, 4, 5, 9}) {
		t.Fatal(ids)
	}
	if ids := r.Order(0); !slices.Equal(ids, []int{5, 1, 4, 9, 0, 3}) {
		t.Fatal(ids)
	}
}

// P14.2: who is put again stands behind those that were put before.
func TestPutAgain(t *testing.T) {
	r, p := begun(t, 10, 1, 6)
	for id := range 3 {
		puts(t, r, p, Entry{Id: id, Dest: "a"})
	}
	takes(t, r, p, 0)
	ends(t, r, p, 0)
	puts(t, r, p, Entry{Id: 0, Dest: "b"})
	removes(t, r, p, 1)
	puts(t, r, p, Entry{Id: 1, Dest: "c"})
	if ids := r.Order(500); !slices.Equal(ids, []int{2, 0, 1}) {
		t.Fatal(ids)
	}
	takesAll(t, r, p, 500, 2, 0, 1)
}

// P14.3: the chapter's example.
func TestExample(t *testing.T) {
	r, p := begun(t, 10, 64, 10)
	puts(t, r, p, Entry{Id: 1, Dest: "a", Priority: 0, At: 0})
	puts(t, r, p, Entry{Id: 2, Dest: "a", Priority: 1, At: 20})
	takesAll(t, r, p, 20, 1, 2)
}

// P14.3: who waits is overtaken by ever new ones of the highest priority for 18 ages less its own priority's lead, and no longer.
func TestWaits(t *testing.T) {
	for priority := -9; priority <= 9; priority++ {
		for _, age := range []int{1, 2, 10} {
			for _, at := range []int{0, 7} {
				r, p := begun(t, age, 1, 10)
				puts(t, r, p, Entry{Id: 0, Dest: "a", Priority: priority, At: at})
				lasts := (9 - priority) * age
				for now := at; ; now++ {
					puts(t, r, p, Entry{Id: now + 1, Dest: "a", Priority: 9, At: now})
					x, ok := takes(t, r, p, now)
					if !ok || (x.Id == 0) != (now == at+lasts) || now > at+18*age {
						t.Fatal(priority, age, now, x)
					}
					if x.Id == 0 {
						break
					}
					ends(t, r, p, x.Id)
				}
			}
		}
	}
}

// some answers an entry of few numbers and destinations, so that much of it meets.
func some(r *rand.Rand, now int) Entry {
	return Entry{Id: r.Intn(40), Dest: string(rune('a' + r.Intn(4))), Priority: r.Intn(19) - 9, At: max(0, min(last, now+5-r.Intn(60)))}
}

// P14.1 to P14.3: whatever row of calls comes, all that is told is as of a plain queue; and none of lower rank is taken.
func TestPlain(t *testing.T) {
	rnd := rand.New(rand.NewSource(14))
	for range 300 {
		r, p := begun(t, 1+rnd.Intn(12), 1+rnd.Intn(4), 1+rnd.Intn(20))
		now := rnd.Intn(100)
		for range 200 {
			switch rnd.Intn(8) {
			case 0, 1, 2:
				puts(t, r, p, some(rnd, now))
			case 3, 4:
				waited := slices.Clone(p.there)
				flew := slices.Clone(p.flying)
				x, ok := takes(t, r, p, now)
				bears(t, p, x, ok, waited, flew, now)
			case 5:
				ends(t, r, p, rnd.Intn(41)-1)
			case 6:
				if rnd.Intn(3) == 0 {
					removes(t, r, p, rnd.Intn(41)-1)
				}
			default:
				now += rnd.Intn(12) - 2
			}
			is(t, r, p, now)
		}
	}
}

// bears tells if what was taken is of no lower rank than any that might have been, and overtook none of its rank and age.
func bears(t *testing.T, p *plain, x Entry, ok bool, waited, flew []Entry, now int) {
	t.Helper()
	before := plain{flying: flew}
	own := has(waited, x.Id)
	for i, y := range waited {
		if before.goes(y.Dest) >= p.limit {
			continue
		}
		if !ok || rank(y, now, p.age) > rank(x, now, p.age) {
			t.Fatalf("at %d %v was taken, not %v", now, x, y)
		}
		if i < own && y.At == x.At && rank(y, now, p.age) == rank(x, now, p.age) {
			t.Fatalf("at %d %v overtook %v", now, x, y)
		}
	}
}

// P14.2: a full queue is emptied in order, and in a bearable time, by few destinations as by many, with the cap's worth in flight at each.
func TestMany(t *testing.T) {
	for _, dests := range []int{1, 64, 4096} {
		rnd := rand.New(rand.NewSource(int64(dests)))
		r, e := New(100, 64, 4096)
		if e != api.OK {
			t.Fatal(e)
		}
		id, name := 0, strings.Repeat("m", 200)
		fill := func(now int) {
			for r.Len() < 4096 {
				if e := r.Put(Entry{Id: id, Dest: name + string(rune(33+rnd.Intn(dests))), Priority: rnd.Intn(19) - 9, At: now - rnd.Intn(2000)}); e != api.OK {
					t.Fatal(e)
				}
				id++
			}
		}
		for round := range 3 {
			now := 3000 + 700*round
			fill(now)
			order := r.Order(now)
			for len(order) > 0 {
				x, ok := r.Take(now)
				if !ok || x.Id != order[0] {
					t.Fatal(dests, x, order[0])
				}
				order = order[1:]
				if dests < 4096 && !r.Done(x.Id) {
					t.Fatal(x.Id)
				}
			}
		}
		if x, ok := r.Take(9000); ok || r.Len() != 0 {
			t.Fatal(x)
		}
		for i := range id {
			if r.Done(i) != (dests == 4096) {
				t.Fatal(i)
			}
		}
	}
}

// P14.2: where all destinations but the last one's are at the cap, the last one is found.
func TestBehindCapped(t *testing.T) {
	r, p := begun(t, 10, 1, 400)
	for id := range 300 {
		puts(t, r, p, Entry{Id: id, Dest: "a", Priority: 9})
	}
	puts(t, r, p, Entry{Id: 300, Dest: "b", Priority: -9})
	takesAll(t, r, p, 0, 0, 300)
	puts(t, r, p, Entry{Id: 301, Dest: "c", Priority: -9})
	takesAll(t, r, p, 0, 301)
	ends(t, r, p, 0)
	takesAll(t, r, p, 0, 1)
}

// P14.2: what is answered is its own, and one queue plays no part in what another one tells.
func TestApart(t *testing.T) {
	a, p := begun(t, 10, 2, 10)
	b, q := begun(t, 10, 1, 10)
	for id := range 4 {
		puts(t, a, p, Entry{Id: id, Dest: "a", Priority: id})
		puts(t, b, q, Entry{Id: id, Dest: "a", Priority: -id})
	}
	first, second := a.Order(0), a.Order(0)
	_ = append(first[:1], 77, 78)
	for i := range first {
		first[i] = 99
	}
	if !slices.Equal(second, []int{3, 2, 1, 0}) {
		t.Fatal(second)
	}
	takes(t, a, p, 0)
	takes(t, a, p, 0)
	is(t, a, p, 0)
	is(t, b, q, 0)
	takesAll(t, b, q, 0, 0)
	ends(t, a, p, 3)
	is(t, a, p, 0)
	is(t, b, q, 0)
}
