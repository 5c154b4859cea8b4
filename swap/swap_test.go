package swap

import (
	"headland/api"
	"math"
	"slices"
	"strconv"
	"testing"
)

// held tells that a place holds a slot.
type held struct {
	slot int
	p    api.Place
}

// model is what a Swap must be, done by the words alone: who holds what, in the order in
// which it came, and gone through one after the other.
type model struct {
	list []held
}

// there tells whether there is such a slot.
func there(slot int) bool {
	return slot >= 0 && slot <= 31
}

func (m *model) Take() (int, bool) {
	for slot := 0; slot <= 31; slot++ {
		if len(m.Of(slot)) == 0 {
			return slot, true
		}
	}
	return 0, false
}

func (m *model) Hold(slot int, p api.Place) bool {
	if there(slot) && !slices.Contains(m.list, held{slot, p}) {
		m.list = append(m.list, held{slot, p})
	}
	return there(slot)
}

func (m *model) Release(slot int, p api.Place) bool {
	i := slices.Index(m.list, held{slot, p})
	if i >= 0 {
		m.list = slices.Delete(m.list, i, i+1)
	}
	return i >= 0
}

func (m *model) Of(slot int) []api.Place {
	var list []api.Place
	for _, h := range m.list {
		if h.slot == slot {
			i := 0
			for i < len(list) && (list[i].Proc < h.p.Proc || list[i].Proc == h.p.Proc && list[i].Page < h.p.Page) {
				i++
			}
			list = slices.Insert(list, i, h.p)
		}
	}
	return list
}

func (m *model) Slots(proc int) []int {
	var list []int
	for _, h := range m.list {
		if h.p.Proc == proc && !slices.Contains(list, h.slot) {
			i := 0
			for i < len(list) && list[i] < h.slot {
				i++
			}
			list = slices.Insert(list, i, h.slot)
		}
	}
	return list
}

func (m *model) Used() int {
	n := 0
	for slot := 0; slot <= 31; slot++ {
		if len(m.Of(slot)) > 0 {
			n++
		}
	}
	return n
}

// ends are numbers at the edges that there are, beyond these, below 0, and at the ends
// of int; some are another one in their lowest bits alone.
func ends() []int {
	return []int{math.MinInt, math.MinInt + 1, -1 << 32, -1<<32 + 1, math.MinInt32, -33, -32, -31, -8, -2, -1,
		0, 1, 2, 7, api.MaxProcs, 15, 16, 30, 31, api.MaxSlots, 33, 63, 64, 255, 256, 4095, api.MaxPages,
		1 << 16, 1<<31 - 1, 1 << 31, 1<<32 - 1, 1 << 32, 1<<32 + 1, 1<<32 + 31, 1 << 62, math.MaxInt - 1, math.MaxInt}
}

// noSlots are those of these numbers that are no slots.
func noSlots() []int {
	return slices.DeleteFunc(ends(), there)
}

// edgePlaces are places at such numbers: one of both alone, then both.
func edgePlaces() []api.Place {
	var list []api.Place
	for i, n := range ends() {
		list = append(list, api.Place{Proc: n, Page: 3}, api.Place{Proc: 3, Page: n},
			api.Place{Proc: n, Page: n}, api.Place{Proc: n, Page: ends()[len(ends())-1-i]})
	}
	return list
}

// at are the places of these pages, each told by its Proc and its Page.
func at(pairs ...[2]int) []api.Place {
	var list []api.Place
	for _, n := range pairs {
		list = append(list, api.Place{Proc: n[0], Page: n[1]})
	}
	return list
}

// pair is a Swap, and the model that it is held against: each call is done to both, and
// fails if they answer differently, or are not the same behind it.
type pair struct {
	t     *testing.T
	s     *Swap
	m     model
	slots []int
	procs []int
}

// newPair answers a pair that asks for those slots and processes behind each call,
// beside those of each call itself.
func newPair(t *testing.T, s *Swap, slots, procs []int) *pair {
	t.Helper()
	x := &pair{t: t, s: s, slots: slices.Clip(slots), procs: slices.Clip(procs)}
	x.same("new")
	return x
}

// edgePair answers one that asks for all edges.
func edgePair(t *testing.T) *pair {
	t.Helper()
	return newPair(t, New(), ends(), ends())
}

// same fails if the Swap is not as the model is.
func (x *pair) same(what string) {
	x.t.Helper()
	slot, ok := x.s.Take()
	if want, wantOk := x.m.Take(); slot != want || ok != wantOk {
		x.t.Fatalf("%s: Take: %d, %v, want %d, %v", what, slot, ok, want, wantOk)
	}
	if got, want := x.s.Used(), x.m.Used(); got != want {
		x.t.Fatalf("%s: Used: %d, want %d", what, got, want)
	}
	for _, slot := range x.slots {
		if got, want := x.s.Of(slot), x.m.Of(slot); !slices.Equal(got, want) {
			x.t.Fatalf("%s: Of(%d): %v, want %v", what, slot, got, want)
		}
	}
	for _, proc := range x.procs {
		if got, want := x.s.Slots(proc), x.m.Slots(proc); !slices.Equal(got, want) {
			x.t.Fatalf("%s: Slots(%d): %v, want %v", what, proc, got, want)
		}
	}
}

// asks makes the pair ask for a slot and a process from now on.
func (x *pair) asks(slot, proc int) {
	if !slices.Contains(x.slots, slot) {
		x.slots = append(x.slots, slot)
	}
	if !slices.Contains(x.procs, proc) {
		x.procs = append(x.procs, proc)
	}
}

func (x *pair) hold(slot int, places ...api.Place) {
	x.t.Helper()
	for _, p := range places {
		what := told("Hold", slot, p.Proc, p.Page)
		x.asks(slot, p.Proc)
		is(x.t, x.s.Hold(slot, p), x.m.Hold(slot, p), what)
		x.same(what)
	}
}

func (x *pair) release(slot int, places ...api.Place) {
	x.t.Helper()
	for _, p := range places {
		what := told("Release", slot, p.Proc, p.Page)
		x.asks(slot, p.Proc)
		is(x.t, x.s.Release(slot, p), x.m.Release(slot, p), what)
		x.same(what)
	}
}

// told is a call as text.
func told(call string, numbers ...int) string {
	for _, n := range numbers {
		call += " " + strconv.Itoa(n)
	}
	return call
}

// is fails if a call did not answer what is wanted.
func is(t *testing.T, got, want bool, what string) {
	t.Helper()
	if got != want {
		t.Fatalf("%s: %v, want %v", what, got, want)
	}
}

// take fails if another slot than this one is the least that nobody holds: written out,
// as those below it, so that the model alone is not believed.
func take(t *testing.T, s *Swap, want int) {
	t.Helper()
	for range 2 {
		if slot, ok := s.Take(); slot != want || !ok {
			t.Fatalf("Take: %d, %v, want %d, true", slot, ok, want)
		}
	}
}

// full fails if there is a slot that nobody holds.
func full(t *testing.T, s *Swap) {
	t.Helper()
	for range 2 {
		if slot, ok := s.Take(); slot != 0 || ok {
			t.Fatalf("Take: %d, %v, want 0, false", slot, ok)
		}
	}
	used(t, s, 32)
}

// of fails if others than these places hold a slot, or in another order.
func of(t *testing.T, s *Swap, slot int, want ...api.Place) {
	t.Helper()
	if got := s.Of(slot); !slices.Equal(got, want) {
		t.Fatalf("Of(%d): %v, want %v", slot, got, want)
	}
}

// hasSlots fails if places of proc hold others than these slots, or in another order.
func hasSlots(t *testing.T, s *Swap, proc int, want ...int) {
	t.Helper()
	if got := s.Slots(proc); !slices.Equal(got, want) {
		t.Fatalf("Slots(%d): %v, want %v", proc, got, want)
	}
}

// used fails if more or fewer slots are held.
func used(t *testing.T, s *Swap, want int) {
	t.Helper()
	if got := s.Used(); got != want {
		t.Fatalf("Used: %d, want %d", got, want)
	}
}

// none fails if anybody holds a slot.
func none(t *testing.T, s *Swap) {
	t.Helper()
	take(t, s, 0)
	nothing(t, s)
}

// nothing fails if anybody holds a slot, be there slots to take or not.
func nothing(t *testing.T, s *Swap) {
	t.Helper()
	used(t, s, 0)
	for slot := range api.MaxSlots {
		of(t, s, slot)
	}
	for _, n := range ends() {
		of(t, s, n)
		hasSlots(t, s, n)
	}
}

// allHeld answers one whose slots are all held, slot n by page n of process 1.
func allHeld(t *testing.T) *pair {
	t.Helper()
	x := newPair(t, New(), nil, nil)
	for slot := range api.MaxSlots {
		x.hold(slot, api.Place{Proc: 1, Page: slot})
	}
	full(t, x.s)
	return x
}

// orders calls done with the numbers below n in each order that there is.
func orders(n int, done func(order []int)) {
	var next func(order []int)
	next = func(order []int) {
		if len(order) == n {
			done(order)
			return
		}
		for i := range n {
			if !slices.Contains(order, i) {
				next(append(slices.Clip(order), i))
			}
		}
	}
	next(nil)
}

// numbers are numbers below n that look like random ones, the same ones for the same
// seed.
func numbers(seed uint64) func(n int) int {
	return func(n int) int {
		seed = seed*6364136223846793005 + 1442695040888963407
		return int((seed >> 33) % uint64(n))
	}
}

// P16.1: the chapter's example.
func TestExample(t *testing.T) {
	s := New()
	one, ok := s.Take()
	two, too := s.Take()
	if one != two || !ok || !too {
		t.Fatalf("Take, Take: %d, %v, %d, %v", one, ok, two, too)
	}
	none(t, s)
}

// P16.1: in a new one nobody holds anything.
func TestNew(t *testing.T) {
	s := New()
	if s == nil {
		t.Fatal("New: nil")
	}
	none(t, s)
	for _, slot := range ends() {
		for _, p := range edgePlaces() {
			is(t, s.Release(slot, p), false, told("Release", slot, p.Proc, p.Page))
		}
	}
	none(t, s)
}

// P16.1: Take answers the same one till somebody holds it, and all calls that ask and
// all that are refused change nothing in that.
func TestTakeHoldsNothing(t *testing.T) {
	s, p := New(), api.Place{Proc: 1, Page: 1}
	for n := range api.MaxSlots {
		for range 5 {
			take(t, s, n)
			of(t, s, n)
			used(t, s, n)
			is(t, s.Release(n, p), false, told("Release", n))
			is(t, s.Hold(-1, p), false, "Hold of -1")
			is(t, s.Hold(32, p), false, "Hold of 32")
		}
		is(t, s.Hold(n, p), true, told("Hold", n))
	}
	full(t, s)
}

// P16.1: the least one, in whatever order the first ones are held.
func TestTakeInAnyOrder(t *testing.T) {
	orders(6, func(order []int) {
		s, least := New(), 0
		taken := map[int]struct{}{}
		for i, slot := range order {
			take(t, s, least)
			is(t, s.Hold(slot, api.Place{Proc: i, Page: 7}), true, told("Hold", slot))
			taken[slot] = struct{}{}
			for _, ok := taken[least]; ok; _, ok = taken[least] {
				least++
			}
			take(t, s, least)
			used(t, s, i+1)
		}
		take(t, s, 6)
	})
}

// P16.1: all slots from the last one down, and in an order that leaps: the least one is
// free till the end, then there is none.
func TestTakeFromBehind(t *testing.T) {
	s, p := New(), api.Place{Proc: 3, Page: 100}
	for slot := 31; slot > 0; slot-- {
		is(t, s.Hold(slot, p), true, told("Hold", slot))
		take(t, s, 0)
		used(t, s, 32-slot)
	}
	is(t, s.Hold(0, p), true, "Hold 0")
	full(t, s)
	x := newPair(t, New(), nil, nil)
	for i := range api.MaxSlots {
		x.hold((i*13+5)%api.MaxSlots, p)
	}
	full(t, x.s)
}

// P16.1: a Release in the midst: that one is the least again, if none below it is.
func TestTakeBehindRelease(t *testing.T) {
	x := newPair(t, New(), nil, nil)
	for slot := range 20 {
		x.hold(slot, api.Place{Proc: 2, Page: slot})
	}
	take(t, x.s, 20)
	for _, c := range []struct{ slot, least int }{{11, 11}, {15, 11}, {7, 7}, {19, 7}, {0, 0}, {3, 0}} {
		is(t, x.s.Release(c.slot, api.Place{Proc: 2, Page: c.slot}), true, told("Release", c.slot))
		x.m.Release(c.slot, api.Place{Proc: 2, Page: c.slot})
		x.same(told("Release", c.slot))
		take(t, x.s, c.least)
	}
	for _, c := range []struct{ slot, least int }{{3, 0}, {0, 7}, {11, 7}, {7, 15}, {15, 19}, {19, 20}} {
		x.hold(c.slot, api.Place{Proc: 5, Page: 5})
		take(t, x.s, c.least)
	}
	used(t, x.s, 20)
}

// P16.1: all are held: false; one of all comes free, whichever: that one; it is held
// again, by another place: false again.
func TestTakeOfAllHeld(t *testing.T) {
	for slot := range api.MaxSlots {
		x := allHeld(t)
		p, q := api.Place{Proc: 1, Page: slot}, api.Place{Proc: 7, Page: 0}
		x.release(slot, p)
		take(t, x.s, slot)
		used(t, x.s, 31)
		x.hold(slot, q)
		full(t, x.s)
		hasSlots(t, x.s, 7, slot)
		x.hold(slot, p)
		full(t, x.s)
		x.release(slot, p)
		full(t, x.s)
		x.release(slot, q)
		take(t, x.s, slot)
	}
}

// P16.1: two of all come free: the lower one, in whatever order they came.
func TestTakeOfTwo(t *testing.T) {
	for low := range api.MaxSlots {
		for high := low + 1; high < api.MaxSlots; high++ {
			for _, order := range [][2]int{{low, high}, {high, low}} {
				s, p := New(), api.Place{Proc: 1, Page: 1}
				for slot := range api.MaxSlots {
					s.Hold(slot, p)
				}
				is(t, s.Release(order[0], p), true, "Release")
				take(t, s, order[0])
				is(t, s.Release(order[1], p), true, "Release")
				take(t, s, low)
				used(t, s, 30)
				is(t, s.Hold(low, p), true, "Hold")
				take(t, s, high)
			}
		}
	}
}

// P16.1: a place that holds a slot twice and more holds it once: one Release is enough.
func TestHoldOften(t *testing.T) {
	p, q := api.Place{Proc: 2, Page: 5}, api.Place{Proc: 2, Page: 6}
	for often := 1; often < 6; often++ {
		s := New()
		for range often {
			is(t, s.Hold(7, p), true, "Hold")
			is(t, s.Hold(8, p), true, "Hold")
			is(t, s.Hold(7, q), true, "Hold")
			is(t, s.Hold(31, p), true, "Hold")
		}
		of(t, s, 7, p, q)
		of(t, s, 8, p)
		of(t, s, 31, p)
		hasSlots(t, s, 2, 7, 8, 31)
		used(t, s, 3)
		is(t, s.Release(7, p), true, "the first Release")
		is(t, s.Release(7, p), false, "the second Release")
		of(t, s, 7, q)
		is(t, s.Release(8, p), true, "the first Release")
		is(t, s.Release(8, p), false, "the second Release")
		of(t, s, 8)
		of(t, s, 31, p)
		hasSlots(t, s, 2, 7, 31)
		used(t, s, 2)
		take(t, s, 0)
	}
}

// P16.1: many places on one slot, as many as there are of all processes: it is one slot,
// and is free only when all have released it.
func TestManyPlaces(t *testing.T) {
	s, next := New(), numbers(4)
	var rising []api.Place
	for proc := range api.MaxProcs {
		for page := range api.MaxPages / 16 {
			rising = append(rising, api.Place{Proc: proc, Page: 16 * page})
		}
	}
	mixed := slices.Clone(rising)
	for i := range mixed {
		j := next(i + 1)
		mixed[i], mixed[j] = mixed[j], mixed[i]
	}
	of(t, s, 0)
	for i, p := range mixed {
		is(t, s.Hold(0, p), true, "Hold")
		if n := len(s.Of(0)); n != i+1 {
			t.Fatalf("Of(0): %d places, want %d", n, i+1)
		}
		used(t, s, 1)
		take(t, s, 1)
	}
	of(t, s, 0, rising...)
	hasSlots(t, s, 3, 0)
	for i, p := range mixed {
		used(t, s, 1)
		take(t, s, 1)
		hasSlots(t, s, p.Proc, 0)
		is(t, s.Release(0, p), true, "Release")
		is(t, s.Release(0, p), false, "Release again")
		if n := len(s.Of(0)); n != len(mixed)-i-1 {
			t.Fatalf("Of(0): %d places, want %d", n, len(mixed)-i-1)
		}
	}
	none(t, s)
}

// P16.1: one place on many slots, all that there are: each is held by it alone.
func TestManySlots(t *testing.T) {
	s, p := New(), api.Place{Proc: 1, Page: 1}
	var odd, all []int
	for i := range api.MaxSlots {
		slot := i * 21 % api.MaxSlots
		is(t, s.Hold(slot, p), true, told("Hold", slot))
		is(t, s.Hold(slot, api.Place{Proc: 2 + slot%2, Page: slot}), true, told("Hold", slot))
		used(t, s, i+1)
		all = append(all, i)
		if i%2 == 1 {
			odd = append(odd, i)
		}
	}
	full(t, s)
	for slot := range api.MaxSlots {
		of(t, s, slot, p, api.Place{Proc: 2 + slot%2, Page: slot})
	}
	hasSlots(t, s, 1, all...)
	hasSlots(t, s, 3, odd...)
	for slot := 0; slot < api.MaxSlots; slot += 2 {
		is(t, s.Release(slot, p), true, told("Release", slot))
	}
	hasSlots(t, s, 1, odd...)
	full(t, s)
	for _, slot := range odd {
		is(t, s.Release(slot, api.Place{Proc: 3, Page: slot}), true, told("Release", slot))
		of(t, s, slot, p)
	}
	hasSlots(t, s, 3)
	hasSlots(t, s, 1, odd...)
	full(t, s)
}

// P16.1: places that differ in Proc alone, in Page alone, in both, or in that one's Proc
// is the other one's Page, are different ones.
func TestDifferentPlaces(t *testing.T) {
	s := New()
	places := at([2]int{1, 1}, [2]int{1, 2}, [2]int{2, 1}, [2]int{2, 2})
	for i, p := range places {
		is(t, s.Hold(9, p), true, "Hold")
		of(t, s, 9, places[:i+1]...)
	}
	hasSlots(t, s, 1, 9)
	hasSlots(t, s, 2, 9)
	for i, p := range places {
		is(t, s.Release(9, p), true, "Release")
		of(t, s, 9, places[i+1:]...)
	}
	none(t, s)
	for i, p := range places {
		is(t, s.Hold(9, p), true, "Hold")
		for j, q := range places {
			is(t, s.Release(9, q), i == j, "Release of one beside another")
		}
	}
	none(t, s)
}

// P16.1: there are the slots from the first one, 0, to the last one, 31, and each is
// held by itself.
func TestEachSlot(t *testing.T) {
	for slot := range api.MaxSlots {
		s, p := New(), api.Place{Proc: 4, Page: 4}
		is(t, s.Hold(slot, p), true, told("Hold", slot))
		for other := range api.MaxSlots {
			if other != slot {
				of(t, s, other)
				is(t, s.Release(other, p), false, told("Release", other))
			}
		}
		for _, no := range noSlots() {
			of(t, s, no)
			is(t, s.Release(no, p), false, told("Release", no))
		}
		of(t, s, slot, p)
		hasSlots(t, s, 4, slot)
		used(t, s, 1)
		if slot == 0 {
			take(t, s, 1)
		} else {
			take(t, s, 0)
		}
		is(t, s.Release(slot, p), true, told("Release", slot))
		none(t, s)
	}
}

// P16.1: there is no slot beyond the last one, none below 0, and none at the ends of
// int: Hold of it is false and leaves nothing, Release is false, Of nothing, whoever
// holds the others.
func TestNoSlot(t *testing.T) {
	some := newPair(t, New(), ends(), []int{0, 1, 2, 3})
	some.hold(0, at([2]int{1, 1}, [2]int{2, 1})...)
	some.hold(31, at([2]int{1, 1}, [2]int{1, 2})...)
	for _, x := range []*pair{newPair(t, New(), ends(), []int{0, 1, 2, 3}), some, allHeld(t)} {
		before := x.s.Used()
		for _, slot := range noSlots() {
			for _, p := range append(at([2]int{1, 1}, [2]int{2, 1}, [2]int{1, 2}, [2]int{0, 0}, [2]int{3, -1}), api.Place{Proc: slot, Page: slot}) {
				is(t, x.s.Hold(slot, p), false, told("Hold", slot))
				x.same(told("Hold", slot))
				of(t, x.s, slot)
				is(t, x.s.Release(slot, p), false, told("Release", slot))
				x.same(told("Release", slot))
				used(t, x.s, before)
			}
			hasSlots(t, x.s, 3)
			hasSlots(t, x.s, slot)
		}
	}
	hasSlots(t, some.s, 1, 0, 31)
	take(t, some.s, 1)
}

// P16.1: Release of a place that holds the slot; of one that does not; of a slot that
// nobody holds; of another one; of none; again.
func TestRelease(t *testing.T) {
	x := edgePair(t)
	x.hold(3, at([2]int{1, 1}, [2]int{1, 2}, [2]int{2, 1})...)
	x.hold(4, at([2]int{1, 1}, [2]int{5, 5})...)
	for _, c := range []struct {
		slot, proc, page int
		want             bool
	}{
		{3, 2, 2, false}, {3, 0, 0, false}, {3, 5, 5, false}, {3, 1, -1, false}, // does not hold it
		{5, 1, 1, false}, {0, 1, 1, false}, {31, 1, 1, false}, // nobody holds it
		{-3, 1, 1, false}, {3 + 1<<32, 1, 1, false}, {35, 1, 1, false}, {32, 1, 1, false}, // there is none
		{4, 1, 2, false}, {4, 2, 1, false}, // another one
		{3, 1, 1, true}, {3, 1, 1, false}, {4, 1, 1, true}, {4, 1, 1, false}, // again, and in each of two
		{4, 5, 5, true}, {4, 5, 5, false}, // a slot's last one
		{3, 2, 1, true}, {3, 1, 2, true}, {3, 1, 2, false}, {3, 2, 1, false},
	} {
		what, p := told("Release", c.slot, c.proc, c.page), api.Place{Proc: c.proc, Page: c.page}
		is(t, x.s.Release(c.slot, p), c.want, what)
		x.m.Release(c.slot, p)
		x.same(what)
	}
	none(t, x.s)
}

// P16.1: a slot that several hold is free when all have released it, in whatever order,
// and not before.
func TestReleaseByAll(t *testing.T) {
	places := at([2]int{1, 1}, [2]int{1, 2}, [2]int{2, 1}, [2]int{-1, 1}, [2]int{2, -9})
	orders(len(places), func(order []int) {
		s := New()
		for _, p := range places {
			is(t, s.Hold(0, p), true, "Hold")
		}
		for i, n := range order {
			take(t, s, 1)
			used(t, s, 1)
			is(t, s.Release(0, places[n]), true, "Release")
			if n := len(s.Of(0)); n != len(places)-i-1 {
				t.Fatalf("Of(0): %d places, want %d", n, len(places)-i-1)
			}
		}
		none(t, s)
	})
}

// P16.1: the last place of a slot goes, and then nobody holds it; it is held again, by
// the same and by others, often.
func TestLastPlace(t *testing.T) {
	x := edgePair(t)
	p, q := api.Place{Proc: 6, Page: 60}, api.Place{Proc: 7, Page: 0}
	for range 4 {
		x.hold(12, p)
		of(t, x.s, 12, p)
		hasSlots(t, x.s, 6, 12)
		x.release(12, p)
		of(t, x.s, 12)
		hasSlots(t, x.s, 6)
		x.release(12, p)
		x.hold(12, q)
		of(t, x.s, 12, q)
		hasSlots(t, x.s, 6)
		hasSlots(t, x.s, 7, 12)
		x.release(12, p, q, q)
	}
	none(t, x.s)
}

// R5: of slots that nobody holds any more nothing is kept, whoever held them.
func TestNothingIsKept(t *testing.T) {
	s := New()
	for i := range 200 {
		slot, p := i%api.MaxSlots, api.Place{Proc: i, Page: -i}
		s.Hold(slot, p)
		s.Hold(slot, api.Place{Proc: 1, Page: i})
		s.Release(slot, p)
		s.Release(slot, api.Place{Proc: 1, Page: i})
		s.Release(slot, p)
		for n, h := range s.slots {
			if h != nil {
				t.Fatalf("of slot %d something is kept behind the last Release of %d", n, slot)
			}
		}
	}
}

// P16.1: Of is by Proc, then by Page, negative ones too, in whatever order they came.
func TestOrderOfPlaces(t *testing.T) {
	rising := at([2]int{-2, 9}, [2]int{-1, -1}, [2]int{-1, 8}, [2]int{0, -7}, [2]int{0, 0}, [2]int{3, -9}, [2]int{3, 1})
	orders(len(rising), func(order []int) {
		s := New()
		for _, i := range order {
			s.Hold(2, rising[i])
		}
		of(t, s, 2, rising...)
	})
}

// P16.1: at the ends of int, where a difference of two would wrap round.
func TestOrderAtTheEnds(t *testing.T) {
	low, high := math.MinInt, math.MaxInt
	rising := at([2]int{low, low}, [2]int{low, high}, [2]int{-1, high}, [2]int{0, low}, [2]int{0, 0}, [2]int{0, high}, [2]int{high, low}, [2]int{high, high})
	for first := range rising {
		s := New()
		for i := range rising {
			s.Hold(31, rising[(first+3*i)%len(rising)])
		}
		of(t, s, 31, rising...)
		for _, proc := range []int{low, -1, 0, high} {
			hasSlots(t, s, proc, 31)
		}
		hasSlots(t, s, low+1)
		hasSlots(t, s, high-1)
	}
}

// P16.1: in whatever order they came and went.
func TestOrderBehindAll(t *testing.T) {
	rising := at([2]int{-1, 5}, [2]int{0, 5}, [2]int{0, 6}, [2]int{1, -4}, [2]int{1, 4})
	orders(len(rising), func(order []int) {
		s, gone := New(), api.Place{Proc: 0, Page: 4}
		s.Hold(30, rising[order[0]])
		s.Hold(20, rising[order[1]])
		s.Hold(20, gone)
		s.Hold(20, rising[order[2]])
		s.Hold(20, rising[order[0]])
		s.Hold(20, rising[order[3]])
		s.Release(20, rising[order[0]])
		s.Hold(20, rising[order[4]])
		s.Release(20, gone)
		s.Hold(20, rising[order[0]])
		s.Release(30, rising[order[0]])
		of(t, s, 20, rising...)
		of(t, s, 30)
		hasSlots(t, s, 0, 20)
		hasSlots(t, s, 1, 20)
		hasSlots(t, s, -1, 20)
		used(t, s, 1)
	})
}

// P16.1: Slots of a process that holds nothing, and of one that holds one slot by many
// places: the slot once, till the last of them releases it; other processes' slots are
// not among them.
func TestSlots(t *testing.T) {
	s := New()
	hasSlots(t, s, 1)
	for page := range 40 {
		s.Hold(30, api.Place{Proc: 1, Page: 39 - page})
		hasSlots(t, s, 1, 30)
	}
	s.Hold(8, api.Place{Proc: 2, Page: 0})
	s.Hold(30, api.Place{Proc: 2, Page: 0})
	s.Hold(31, api.Place{Proc: 3, Page: 1})
	hasSlots(t, s, 1, 30)
	hasSlots(t, s, 2, 8, 30)
	hasSlots(t, s, 3, 31)
	hasSlots(t, s, 0)
	for page := range 40 {
		hasSlots(t, s, 1, 30)
		is(t, s.Release(30, api.Place{Proc: 1, Page: page}), true, "Release")
	}
	hasSlots(t, s, 1)
	hasSlots(t, s, 2, 8, 30)
	hasSlots(t, s, 3, 31)
}

// P16.1: Slots is rising, whatever the order in which they were held, each once.
func TestOrderOfSlots(t *testing.T) {
	rising := []int{0, 1, 9, 15, 30, 31}
	orders(len(rising), func(order []int) {
		s := New()
		for page, i := range order {
			s.Hold(rising[i], api.Place{Proc: 6, Page: page})
			s.Hold(rising[i], api.Place{Proc: 6, Page: -page})
			s.Hold(rising[i]/2+2, api.Place{Proc: 7, Page: page})
		}
		hasSlots(t, s, 6, rising...)
		hasSlots(t, s, 7, 2, 6, 9, 17)
		used(t, s, 9)
	})
}

// P16.1: Used of none, of some, of all; one slot that many hold counts once, and a place
// that holds many counts for each.
func TestUsed(t *testing.T) {
	s := New()
	used(t, s, 0)
	for slot := range api.MaxSlots {
		for page := range 5 {
			s.Hold(slot, api.Place{Proc: page % 2, Page: page})
			used(t, s, slot+1)
		}
	}
	full(t, s)
	for slot := range api.MaxSlots {
		for page := range 5 {
			used(t, s, 32-slot)
			is(t, s.Release(slot, api.Place{Proc: page % 2, Page: page}), true, "Release")
		}
		used(t, s, 31-slot)
		is(t, s.Release(slot, api.Place{Proc: 0, Page: 0}), false, "Release")
		used(t, s, 31-slot)
	}
	none(t, s)
}

// P16.1: slots and places at 0, at their last and beyond, below 0, and at the ends of
// int: each place is as any other, and none is taken for another one.
func TestEdges(t *testing.T) {
	x := edgePair(t)
	n := len(ends())
	for i, p := range edgePlaces() {
		x.hold(ends()[i%n], p)
		x.hold(i%api.MaxSlots, p)
	}
	for i, p := range slices.Backward(edgePlaces()) {
		x.release(ends()[i%n], p, p)
		x.release(i%api.MaxSlots, p)
	}
	none(t, x.s)
}

// P16.1: a place of the edges alone, and no other one.
func TestEdgePlaces(t *testing.T) {
	for _, p := range edgePlaces() {
		s := New()
		is(t, s.Hold(5, p), true, told("Hold", p.Proc, p.Page))
		for _, q := range edgePlaces() {
			if q != p {
				is(t, s.Release(5, q), false, told("Release of another", q.Proc, q.Page))
			}
			if q.Proc != p.Proc {
				hasSlots(t, s, q.Proc)
			}
		}
		of(t, s, 5, p)
		hasSlots(t, s, p.Proc, 5)
		is(t, s.Release(5, p), true, "Release")
		none(t, s)
	}
}

// R4: what a caller does to what was answered changes nothing, its spare room included;
// no answer shares memory with another one.
func TestAnswersAreNew(t *testing.T) {
	s := New()
	places := at([2]int{1, 1}, [2]int{1, 2}, [2]int{2, 1}, [2]int{4, 4}, [2]int{5, 0})
	for slot := range 5 {
		for _, p := range places {
			s.Hold(slot, p)
		}
	}
	for range 3 {
		l, kept := s.Of(2), s.Of(2)
		l = l[:cap(l)]
		for i := range l {
			l[i] = api.Place{Proc: 9, Page: 9}
		}
		n, left := s.Slots(1), s.Slots(1)
		n = n[:cap(n)]
		for i := range n {
			n[i] = 29
		}
		if !slices.Equal(kept, places) || !slices.Equal(left, []int{0, 1, 2, 3, 4}) {
			t.Fatalf("other answers are %v, %v", kept, left)
		}
		for slot := range 5 {
			of(t, s, slot, places...)
		}
		hasSlots(t, s, 1, 0, 1, 2, 3, 4)
		hasSlots(t, s, 9)
		of(t, s, 29)
		used(t, s, 5)
		take(t, s, 5)
	}
}

// caller is a Swap, or what is done as if it were one.
type caller interface {
	Take() (int, bool)
	Hold(slot int, p api.Place) bool
	Release(slot int, p api.Place) bool
	Slots(proc int) []int
}

// anyCall does one call that changes, with few slots and places, and tells what it
// answered: a Hold, of the least slot or of any; a Release; all of a process.
func anyCall(s caller, next func(int) int) bool {
	slot, p := next(36)-2, api.Place{Proc: next(3), Page: next(4)}
	switch next(16) {
	case 0, 1, 2, 3:
		slot, ok := s.Take()
		return s.Hold(slot, p) && ok
	case 4, 5, 6, 7, 8, 9:
		return s.Hold(slot, p)
	case 15:
		done := false
		for _, slot := range s.Slots(p.Proc) {
			done = s.Release(slot, p) || done
		}
		return done
	default:
		return s.Release(slot, p)
	}
}

// R4: later calls change nothing of what was answered before.
func TestAnswersStay(t *testing.T) {
	s, next := New(), numbers(8)
	type answer struct {
		places, wasPlaces []api.Place
		slots, wasSlots   []int
	}
	var list []answer
	for range 1000 {
		anyCall(s, next)
		places, some := s.Of(next(32)), s.Slots(next(3))
		list = append(list, answer{places, slices.Clone(places), some, slices.Clone(some)})
	}
	for _, a := range list {
		if !slices.Equal(a.places, a.wasPlaces) || !slices.Equal(a.slots, a.wasSlots) {
			t.Fatalf("%v, %v were %v, %v", a.places, a.slots, a.wasPlaces, a.wasSlots)
		}
	}
}

// R4: nothing of what is handed in is kept: a place that is changed later is another one.
func TestPlacesAreValues(t *testing.T) {
	s := New()
	p := api.Place{Proc: 1, Page: 1}
	s.Hold(7, p)
	p.Page = 2
	of(t, s, 7, api.Place{Proc: 1, Page: 1})
	is(t, s.Release(7, p), false, "Release")
}

// R5: several at once: nothing that is done to one is seen in another.
func TestSeveral(t *testing.T) {
	x, y, z := edgePair(t), edgePair(t), edgePair(t)
	one, two := at([2]int{1, 1}), at([2]int{2, 2})
	x.hold(0, one...)
	y.same("a Hold of another one")
	take(t, y.s, 0)
	y.hold(0, two...)
	y.hold(1, one...)
	x.same("a Hold of another one")
	take(t, x.s, 1)
	x.release(0, two...)
	y.release(0, one...)
	x.release(0, one...)
	y.same("a Release of another one")
	take(t, y.s, 2)
	none(t, x.s)
	none(t, z.s)
	of(t, y.s, 0, two...)
	of(t, y.s, 1, one...)
	full(t, allHeld(t).s)
	none(t, New())
}

// P16.1: a nil Swap: nothing, false; each call, at any arguments.
func TestNil(t *testing.T) {
	var s *Swap
	for range 2 {
		for _, slot := range append(ends(), 3, 4, 5) {
			for _, p := range edgePlaces() {
				is(t, s.Hold(slot, p), false, told("Hold", slot))
				is(t, s.Release(slot, p), false, told("Release", slot))
			}
		}
		if slot, ok := s.Take(); slot != 0 || ok {
			t.Fatalf("Take: %d, %v, want 0, false", slot, ok)
		}
		nothing(t, s)
	}
}

// R1: one that New did not make is as a new one, whichever call is the first.
func TestNotMadeByNew(t *testing.T) {
	p := api.Place{Proc: 1, Page: 2}
	for _, first := range []func(s *Swap){
		func(s *Swap) {},
		func(s *Swap) { none(t, s) },
		func(s *Swap) { is(t, s.Hold(32, p), false, "Hold") },
		func(s *Swap) { is(t, s.Release(7, p), false, "Release") },
		func(s *Swap) { is(t, s.Release(-1, p), false, "Release") },
	} {
		s := new(Swap)
		first(s)
		none(t, s)
		is(t, s.Hold(7, p), true, "Hold")
		is(t, s.Hold(7, p), true, "Hold again")
		of(t, s, 7, p)
		hasSlots(t, s, 1, 7)
		used(t, s, 1)
		is(t, s.Release(7, p), true, "Release")
		none(t, s)
	}
	x := newPair(t, &Swap{}, ends(), ends())
	for i, slot := range ends() {
		x.hold(slot, edgePlaces()[i])
	}
}

// P16.1: many calls in a row, held against a list that is gone through one after the
// other.
func TestManyCalls(t *testing.T) {
	var asked []int
	for slot := -2; slot < 34; slot++ {
		asked = append(asked, slot)
	}
	for seed := range uint64(12) {
		x := newPair(t, New(), asked, []int{-1, 0, 1, 2, 3})
		next, again := numbers(seed), numbers(seed)
		for i := range 1000 {
			got, want := anyCall(x.s, next), anyCall(&x.m, again)
			is(t, got, want, told("seed, call", int(seed), i))
			x.same(told("seed, call", int(seed), i))
		}
	}
}

// P16.1: many calls in a row that fill all slots and empty them: by the least slot that
// nobody holds, one after the other.
func TestFillAndEmpty(t *testing.T) {
	x, next := newPair(t, New(), nil, []int{0, 1}), numbers(3)
	for round := range 6 {
		for page := 0; ; page++ {
			slot, ok := x.s.Take()
			if !ok {
				break
			}
			x.hold(slot, api.Place{Proc: round % 2, Page: page}, api.Place{Proc: round % 3, Page: next(9)})
		}
		full(t, x.s)
		for len(x.m.list) > 4*round {
			h := x.m.list[next(len(x.m.list))]
			x.release(h.slot, h.p)
		}
	}
}

// P16.1: many calls in a row at numbers of all kinds.
func TestManyCallsAtTheEdges(t *testing.T) {
	x, next, list := edgePair(t), numbers(99), ends()
	some := func() int { return list[next(len(list))] }
	for range 1500 {
		p := api.Place{Proc: some(), Page: some()}
		switch next(6) {
		case 0, 1:
			x.hold(next(api.MaxSlots), p)
		case 2:
			x.hold(some(), p)
		case 3:
			x.release(some(), p)
		default:
			if n := len(x.m.list); n > 0 {
				h := x.m.list[next(n)]
				x.hold(some(), h.p)
				x.release(h.slot, h.p)
			}
		}
	}
}

// P5: the same calls, done again from the beginning, have the same answers.
func TestTheSameAgain(t *testing.T) {
	row := func() ([]api.Place, []int, []bool) {
		s, next := New(), numbers(5)
		var places []api.Place
		var slots []int
		var done []bool
		for range 500 {
			done = append(done, anyCall(s, next))
			places = append(places, s.Of(next(32))...)
			slots = append(slots, s.Slots(next(3))...)
			slot, ok := s.Take()
			slots = append(slots, slot, s.Used())
			done = append(done, ok)
		}
		return places, slots, done
	}
	places, slots, done := row()
	for range 5 {
		p, n, d := row()
		if !slices.Equal(p, places) || !slices.Equal(n, slots) || !slices.Equal(d, done) {
			t.Fatal("the same calls have other answers")
		}
	}
}
