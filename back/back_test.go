package back

import (
	"headland/api"
	"math"
	"slices"
	"strconv"
	"testing"
)

// held tells that a place has a frame.
type held struct {
	f int
	p api.Place
}

// model is what a Back must be, done by the words alone: who has what, in the order in
// which it came.
type model struct {
	list []held
}

func (m *model) add(f int, p api.Place) {
	if !slices.Contains(m.list, held{f, p}) {
		m.list = append(m.list, held{f, p})
	}
}

func (m *model) drop(f int, p api.Place) bool {
	i := slices.Index(m.list, held{f, p})
	if i >= 0 {
		m.list = slices.Delete(m.list, i, i+1)
	}
	return i >= 0
}

func (m *model) of(f int) []api.Place {
	var list []api.Place
	for _, h := range m.list {
		if h.f == f {
			i := 0
			for i < len(list) && (list[i].Proc < h.p.Proc || list[i].Proc == h.p.Proc && list[i].Page < h.p.Page) {
				i++
			}
			list = slices.Insert(list, i, h.p)
		}
	}
	return list
}

func (m *model) frames(proc int) []int {
	var list []int
	for _, h := range m.list {
		if h.p.Proc == proc && !slices.Contains(list, h.f) {
			i := 0
			for i < len(list) && list[i] < h.f {
				i++
			}
			list = slices.Insert(list, i, h.f)
		}
	}
	return list
}

func (m *model) move(from, to int) bool {
	list := m.of(from)
	if len(list) == 0 || from == to {
		return false
	}
	m.list = slices.DeleteFunc(m.list, func(h held) bool { return h.f == from })
	for _, p := range list {
		m.add(to, p)
	}
	return true
}

// ends are numbers at the edges that there are, beyond these, below 0, and at the ends
// of int; some are another one in their lowest bits alone.
func ends() []int {
	return []int{math.MinInt, math.MinInt + 1, -1 << 32, -1<<32 + 1, math.MinInt32, -api.MaxFrames, -8, -2, -1,
		0, 1, 2, 7, api.MaxProcs, 31, 32, 255, 256, 1022, 1023, api.MaxFrames, 1025, 4095, api.MaxPages,
		1 << 16, 1<<31 - 1, 1 << 31, 1<<32 - 1, 1 << 32, 1<<32 + 1, 1<<32 + 7, 1 << 62, math.MaxInt - 1, math.MaxInt}
}

// edgePlaces are places at such numbers: one of both alone, then both.
func edgePlaces() []api.Place {
	var list []api.Place
	for i, n := range ends() {
		list = append(list, api.Place{Proc: n, Page: 3}, api.Place{Proc: 3, Page: n},
			api.Place{Proc: n, Page: n}, api.Place{Proc: n, Page: ends()[len(ends())-1-i]})
	}
	return list
}

// at are the places of these pages, each told by its Proc and its Page.
func at(pairs ...[2]int) []api.Place {
	var list []api.Place
	for _, n := range pairs {
		list = append(list, api.Place{Proc: n[0], Page: n[1]})
	}
	return list
}

// pair is a Back, and the model that it is held against: each call is done to both,
// and fails if they answer differently, or are not the same behind it.
type pair struct {
	t      *testing.T
	b      *Back
	m      model
	frames []int
	procs  []int
}

// newPair answers a pair that asks for those frames and processes behind each call,
// beside those of each call itself.
func newPair(t *testing.T, frames, procs []int) *pair {
	x := &pair{t: t, b: New(), frames: frames, procs: procs}
	x.same("New")
	return x
}

// edgePair answers one that asks for all edges.
func edgePair(t *testing.T) *pair {
	return newPair(t, ends(), ends())
}

// same fails if the Back is not as the model is.
func (x *pair) same(what string) {
	x.t.Helper()
	for _, f := range x.frames {
		if got, want := x.b.Of(f), x.m.of(f); !slices.Equal(got, want) {
			x.t.Fatalf("%s: Of(%d): %v, want %v", what, f, got, want)
		}
	}
	for _, proc := range x.procs {
		if got, want := x.b.Frames(proc), x.m.frames(proc); !slices.Equal(got, want) {
			x.t.Fatalf("%s: Frames(%d): %v, want %v", what, proc, got, want)
		}
	}
}

// asks makes the pair ask for a frame and a process from now on.
func (x *pair) asks(f, proc int) {
	if !slices.Contains(x.frames, f) {
		x.frames = append(slices.Clip(x.frames), f)
	}
	if !slices.Contains(x.procs, proc) {
		x.procs = append(slices.Clip(x.procs), proc)
	}
}

func (x *pair) add(f int, places ...api.Place) {
	x.t.Helper()
	for _, p := range places {
		x.asks(f, p.Proc)
		x.b.Add(f, p)
		x.m.add(f, p)
		x.same(told("Add", f, p.Proc, p.Page))
	}
}

func (x *pair) drop(f int, places ...api.Place) {
	x.t.Helper()
	for _, p := range places {
		what := told("Drop", f, p.Proc, p.Page)
		x.asks(f, p.Proc)
		if got, want := x.b.Drop(f, p), x.m.drop(f, p); got != want {
			x.t.Fatalf("%s: %v, want %v", what, got, want)
		}
		x.same(what)
	}
}

func (x *pair) move(from, to int) {
	x.t.Helper()
	what := told("Move", from, to)
	x.asks(from, 0)
	x.asks(to, 0)
	if got, want := x.b.Move(from, to), x.m.move(from, to); got != want {
		x.t.Fatalf("%s: %v, want %v", what, got, want)
	}
	x.same(what)
}

// told is a call as text.
func told(call string, numbers ...int) string {
	for _, n := range numbers {
		call += " " + strconv.Itoa(n)
	}
	return call
}

// of fails if others than these places have f, or in another order: written out, so
// that the model alone is not believed.
func of(t *testing.T, b *Back, f int, want ...api.Place) {
	t.Helper()
	if got := b.Of(f); !slices.Equal(got, want) {
		t.Fatalf("Of(%d): %v, want %v", f, got, want)
	}
}

// frames fails if places of proc have others than these frames, or in another order.
func frames(t *testing.T, b *Back, proc int, want ...int) {
	t.Helper()
	if got := b.Frames(proc); !slices.Equal(got, want) {
		t.Fatalf("Frames(%d): %v, want %v", proc, got, want)
	}
}

// is fails if a call did not answer what is wanted.
func is(t *testing.T, got, want bool, what string) {
	t.Helper()
	if got != want {
		t.Fatalf("%s: %v, want %v", what, got, want)
	}
}

// none fails if anybody has a frame.
func none(t *testing.T, b *Back) {
	t.Helper()
	for _, n := range ends() {
		of(t, b, n)
		frames(t, b, n)
	}
}

// orders calls done with the numbers below n in each order that there is.
func orders(n int, done func(order []int)) {
	var next func(order []int)
	next = func(order []int) {
		if len(order) == n {
			done(order)
			return
		}
		for i := range n {
			if !slices.Contains(order, i) {
				next(append(slices.Clip(order), i))
			}
		}
	}
	next(nil)
}

// numbers are numbers below n that look like random ones, the same ones for the same
// seed.
func numbers(seed uint64) func(n int) int {
	return func(n int) int {
		seed = seed*6364136223846793005 + 1442695040888963407
		return int((seed >> 33) % uint64(n))
	}
}

// P13.1: the chapter's example.
func TestExample(t *testing.T) {
	b, p := New(), api.Place{Proc: 1, Page: 2}
	b.Add(7, p)
	b.Add(7, p)
	of(t, b, 7, p)
	is(t, b.Drop(7, p), true, "Drop")
	of(t, b, 7)
}

// P13.1: of a new one nobody has anything.
func TestNew(t *testing.T) {
	b := New()
	if b == nil {
		t.Fatal("New: nil")
	}
	none(t, b)
	for _, f := range ends() {
		for _, p := range edgePlaces() {
			is(t, b.Drop(f, p), false, told("Drop", f, p.Proc, p.Page))
		}
		is(t, b.Move(f, 5), false, told("Move", f, 5))
		is(t, b.Move(5, f), false, told("Move", 5, f))
		is(t, b.Move(f, f), false, told("Move", f, f))
	}
	none(t, b)
}

// P13.1: a place that is added twice and more is there once, in each frame that it has.
func TestAddOften(t *testing.T) {
	p, q := api.Place{Proc: 2, Page: 5}, api.Place{Proc: 2, Page: 6}
	for often := 1; often < 6; often++ {
		b := New()
		for range often {
			b.Add(7, p)
			b.Add(8, p)
			b.Add(7, q)
			b.Add(1023, p)
		}
		of(t, b, 7, p, q)
		of(t, b, 8, p)
		of(t, b, 1023, p)
		frames(t, b, 2, 7, 8, 1023)
		is(t, b.Drop(7, p), true, "the first Drop")
		is(t, b.Drop(7, p), false, "the second Drop")
		of(t, b, 7, q)
		of(t, b, 8, p)
		of(t, b, 1023, p)
		frames(t, b, 2, 7, 8, 1023)
	}
}

// P13.1: places that differ in Proc alone, in Page alone, in both, or in that one's
// Proc is the other one's Page, are different ones.
func TestDifferentPlaces(t *testing.T) {
	b := New()
	places := at([2]int{1, 1}, [2]int{1, 2}, [2]int{2, 1}, [2]int{2, 2})
	for i, p := range places {
		b.Add(9, p)
		of(t, b, 9, places[:i+1]...)
	}
	frames(t, b, 1, 9)
	frames(t, b, 2, 9)
	for i, p := range places {
		is(t, b.Drop(9, p), true, "Drop")
		of(t, b, 9, places[i+1:]...)
	}
	none(t, b)
	for i, p := range places {
		b.Add(9, p)
		for j, q := range places {
			is(t, b.Drop(9, q), i == j, "Drop of one beside another")
		}
	}
	none(t, b)
}

// P13.1: frames and places at 0, at their last and beyond, below 0, and at the ends of
// int: each one is as any other, and none is taken for another one.
func TestEdges(t *testing.T) {
	x := edgePair(t)
	n := len(ends())
	for i, p := range edgePlaces() {
		x.add(ends()[i%n], p)
		x.add(ends()[i*5%n], p)
	}
	for i, p := range slices.Backward(edgePlaces()) {
		x.drop(ends()[i%n], p, p)
		x.drop(ends()[i*5%n], p, p)
	}
	none(t, x.b)
}

// P13.1: one place alone in each frame of the edges, and in no other one.
func TestEdgeFrames(t *testing.T) {
	p := api.Place{Proc: 4, Page: 4}
	for _, f := range ends() {
		b := New()
		b.Add(f, p)
		for _, g := range ends() {
			if g != f {
				of(t, b, g)
				is(t, b.Drop(g, p), false, told("Drop of another than", f, g))
				is(t, b.Move(g, f), false, told("Move", g, f))
			}
		}
		of(t, b, f, p)
		frames(t, b, 4, f)
		is(t, b.Drop(f, p), true, told("Drop", f))
		none(t, b)
	}
}

// P13.1: one frame alone of each place of the edges, and of no other one.
func TestEdgePlaces(t *testing.T) {
	for _, p := range edgePlaces() {
		b := New()
		b.Add(5, p)
		for _, q := range edgePlaces() {
			if q != p {
				is(t, b.Drop(5, q), false, told("Drop of another", q.Proc, q.Page))
			}
			if q.Proc != p.Proc {
				frames(t, b, q.Proc)
			}
		}
		of(t, b, 5, p)
		frames(t, b, p.Proc, 5)
		is(t, b.Drop(5, p), true, "Drop")
		none(t, b)
	}
}

// P13.1: Drop of a place that is there; of one that is not; of a frame that nobody has;
// of another frame; the same one twice.
func TestDrop(t *testing.T) {
	x := edgePair(t)
	x.add(3, at([2]int{1, 1}, [2]int{1, 2}, [2]int{2, 1})...)
	x.add(4, at([2]int{1, 1}, [2]int{5, 5})...)
	for _, c := range []struct {
		f, proc, page int
		want          bool
	}{
		{3, 2, 2, false}, {3, 0, 0, false}, {3, 5, 5, false}, {3, 1, -1, false}, // not there
		{5, 1, 1, false}, {0, 1, 1, false}, {-3, 1, 1, false}, {3 + 1<<32, 1, 1, false}, // a frame that nobody has
		{4, 1, 2, false}, {4, 2, 1, false}, // another frame
		{3, 1, 1, true}, {3, 1, 1, false}, {4, 1, 1, true}, {4, 1, 1, false}, // twice, and in each of two
		{4, 5, 5, true}, {4, 5, 5, false}, // a frame's last one
		{3, 2, 1, true}, {3, 1, 2, true}, {3, 1, 2, false}, {3, 2, 1, false},
	} {
		what, p := told("Drop", c.f, c.proc, c.page), api.Place{Proc: c.proc, Page: c.page}
		is(t, x.b.Drop(c.f, p), c.want, what)
		x.m.drop(c.f, p)
		x.same(what)
	}
	none(t, x.b)
}

// P13.1: the last place of a frame goes, and then nobody has it; it is added again, by
// the same and by others, often.
func TestLastPlace(t *testing.T) {
	x := edgePair(t)
	p, q := api.Place{Proc: 6, Page: 60}, api.Place{Proc: 7, Page: 0}
	for range 4 {
		x.add(12, p)
		of(t, x.b, 12, p)
		frames(t, x.b, 6, 12)
		x.drop(12, p)
		of(t, x.b, 12)
		frames(t, x.b, 6)
		x.drop(12, p)
		x.move(12, 13)
		of(t, x.b, 13)
		x.add(12, q)
		of(t, x.b, 12, q)
		frames(t, x.b, 6)
		frames(t, x.b, 7, 12)
		x.drop(12, p, q, q)
	}
	none(t, x.b)
}

// R5: of frames that nobody has any more nothing is kept, however many there were.
func TestNothingIsKept(t *testing.T) {
	b, p := New(), api.Place{Proc: 1, Page: 1}
	for f := range 100 {
		b.Add(f, p)
		b.Move(f, -f-1)
		b.Move(f, 7)
		b.Drop(-f-1, p)
		b.Drop(-f-1, p)
		if n := len(b.frames); n > 0 {
			t.Fatalf("%d frames are kept behind the last Drop of %d", n, -f-1)
		}
	}
}

// P13.1: Of is by Proc, then by Page, negative ones too, in whatever order they were
// added.
func TestOrderOfPlaces(t *testing.T) {
	rising := at([2]int{-2, 9}, [2]int{-1, -1}, [2]int{-1, 8}, [2]int{0, -7}, [2]int{0, 0}, [2]int{3, -9}, [2]int{3, 1})
	orders(len(rising), func(order []int) {
		b := New()
		for _, i := range order {
			b.Add(2, rising[i])
		}
		of(t, b, 2, rising...)
	})
}

// P13.1: at the ends of int, where a difference of two would wrap round.
func TestOrderAtTheEnds(t *testing.T) {
	low, high := math.MinInt, math.MaxInt
	rising := at([2]int{low, low}, [2]int{low, high}, [2]int{-1, high}, [2]int{0, low}, [2]int{0, 0}, [2]int{0, high}, [2]int{high, low}, [2]int{high, high})
	for first := range rising {
		b := New()
		for i := range rising {
			b.Add(high, rising[(first+3*i)%len(rising)])
		}
		of(t, b, high, rising...)
	}
	orders(5, func(order []int) {
		b := New()
		list := []int{low, -1, 0, 1, high}
		for _, i := range order {
			b.Add(list[i], api.Place{Proc: low, Page: high})
		}
		frames(t, b, low, list...)
	})
}

// P13.1: in whatever order they were added, dropped and moved.
func TestOrderBehindAll(t *testing.T) {
	rising := at([2]int{-1, 5}, [2]int{0, 5}, [2]int{0, 6}, [2]int{1, -4}, [2]int{1, 4})
	orders(len(rising), func(order []int) {
		b, gone := New(), api.Place{Proc: 0, Page: 4}
		b.Add(30, rising[order[0]])
		b.Add(20, rising[order[1]])
		b.Add(20, gone)
		b.Add(30, rising[order[2]])
		b.Move(20, 30)
		b.Add(30, rising[order[3]])
		b.Drop(30, rising[order[0]])
		b.Move(30, 20)
		b.Add(20, rising[order[4]])
		b.Drop(20, gone)
		b.Add(20, rising[order[0]])
		of(t, b, 20, rising...)
		of(t, b, 30)
		frames(t, b, 0, 20)
		frames(t, b, 1, 20)
		frames(t, b, -1, 20)
	})
}

// P13.1: Of of none, of one, of many.
func TestManyPlaces(t *testing.T) {
	b, next := New(), numbers(4)
	var rising []api.Place
	for proc := range api.MaxProcs {
		for page := range api.MaxPages / 16 {
			rising = append(rising, api.Place{Proc: proc, Page: 16 * page})
		}
	}
	mixed := slices.Clone(rising)
	for i := range mixed {
		j := next(i + 1)
		mixed[i], mixed[j] = mixed[j], mixed[i]
	}
	of(t, b, 77)
	for i, p := range mixed {
		b.Add(77, p)
		if n := len(b.Of(77)); n != i+1 {
			t.Fatalf("Of(77): %d places, want %d", n, i+1)
		}
	}
	of(t, b, 77, rising...)
	frames(t, b, 3, 77)
	is(t, b.Move(77, 78), true, "Move")
	of(t, b, 77)
	of(t, b, 78, rising...)
	for _, p := range mixed[1:] {
		is(t, b.Drop(78, p), true, "Drop")
	}
	of(t, b, 78, mixed[0])
	frames(t, b, mixed[0].Proc, 78)
	frames(t, b, mixed[0].Proc+1)
}

// P13.1: Frames of none, of one; many places of one proc in one frame: the frame once;
// in several; rising, whatever the order; other procs' are not among them.
func TestFrames(t *testing.T) {
	b := New()
	frames(t, b, 1)
	for page := range 40 {
		b.Add(50, api.Place{Proc: 1, Page: 39 - page})
		frames(t, b, 1, 50)
	}
	b.Add(8, api.Place{Proc: 2, Page: 0})
	b.Add(50, api.Place{Proc: 2, Page: 0})
	b.Add(51, api.Place{Proc: 3, Page: 1})
	frames(t, b, 1, 50)
	frames(t, b, 2, 8, 50)
	frames(t, b, 3, 51)
	frames(t, b, 0)
	for page := range 40 {
		frames(t, b, 1, 50)
		is(t, b.Drop(50, api.Place{Proc: 1, Page: page}), true, "Drop")
	}
	frames(t, b, 1)
	frames(t, b, 2, 8, 50)
	rising := []int{math.MinInt, -5, -1, 0, 9, 1023}
	orders(len(rising), func(order []int) {
		b := New()
		for page, i := range order {
			b.Add(rising[i], api.Place{Proc: 6, Page: page})
			b.Add(rising[i], api.Place{Proc: 6, Page: -page})
			b.Add(rising[i]+2, api.Place{Proc: 7, Page: page})
		}
		frames(t, b, 6, rising...)
	})
}

// P13.1: the same page of one proc in many frames, all that there are.
func TestManyFrames(t *testing.T) {
	b, p := New(), api.Place{Proc: 1, Page: 1}
	var odd []int
	for i := range api.MaxFrames {
		f := i * 517 % api.MaxFrames
		b.Add(f, p)
		b.Add(f, api.Place{Proc: 2 + f%2, Page: f})
	}
	for f := range api.MaxFrames {
		of(t, b, f, p, api.Place{Proc: 2 + f%2, Page: f})
		if f%2 == 1 {
			odd = append(odd, f)
		}
	}
	frames(t, b, 3, odd...)
	for f := 0; f < api.MaxFrames; f += 2 {
		is(t, b.Drop(f, p), true, "Drop")
	}
	frames(t, b, 1, odd...)
	for i, f := range odd {
		is(t, b.Move(f, -1), true, "Move")
		frames(t, b, 1, append([]int{-1}, odd[i+1:]...)...)
		if n := len(b.Of(-1)); n != i+2 {
			t.Fatalf("Of(-1): %d places, want %d", n, i+2)
		}
	}
}

// P13.1: Move from a frame that nobody has: false, and nothing is changed, be the other
// one anybody's or nobody's.
func TestMoveOfNobody(t *testing.T) {
	x := edgePair(t)
	x.add(3, at([2]int{1, 1}, [2]int{1, 2}, [2]int{2, 1})...)
	for _, f := range ends() {
		is(t, x.b.Move(f, 3), false, told("Move", f, 3))
		is(t, x.b.Move(f, 4), false, told("Move", f, 4))
		x.same(told("Move from", f))
	}
	of(t, x.b, 3, at([2]int{1, 1}, [2]int{1, 2}, [2]int{2, 1})...)
}

// P13.1: Move of a frame to itself, with places and without: false, and nothing is
// changed.
func TestMoveToItself(t *testing.T) {
	for _, f := range append(ends(), 5, 6) {
		b := New()
		is(t, b.Move(f, f), false, told("Move", f, f))
		none(t, b)
		b.Add(f, api.Place{Proc: 1, Page: 2})
		b.Add(f, api.Place{Proc: 1, Page: 1})
		is(t, b.Move(f, f), false, told("Move", f, f))
		of(t, b, f, at([2]int{1, 1}, [2]int{1, 2})...)
		frames(t, b, 1, f)
	}
}

// P13.1: Move to a frame that nobody has; to one that has others; to one that has some
// of the same places, all of them, and more: each is there once then.
func TestMove(t *testing.T) {
	one, two, three := [2]int{1, 9}, [2]int{2, 4}, [2]int{3, 0}
	for _, c := range []struct{ from, to, both []api.Place }{
		{at(one), nil, at(one)},
		{at(two, one, three), nil, at(one, two, three)},
		{at(one), at(two), at(one, two)},
		{at(two), at(one, three), at(one, two, three)},
		{at(three, one), at(two), at(one, two, three)},
		{at(one), at(one), at(one)},
		{at(one, two), at(two, three), at(one, two, three)},
		{at(one, two, three), at(three, two, one), at(one, two, three)},
		{at(two), at(one, two, three), at(one, two, three)},
		{at(one, two, three), at(two), at(one, two, three)},
	} {
		for _, n := range [][2]int{{5, 6}, {6, 5}, {0, 1023}, {-1, 0}, {math.MinInt, math.MaxInt}, {0, 1 << 32}} {
			x := edgePair(t)
			x.add(n[0], c.from...)
			x.add(n[1], c.to...)
			x.add(40, at(two, [2]int{2, 5})...)
			is(t, x.b.Move(n[0], n[1]), true, told("Move", n[0], n[1]))
			x.m.move(n[0], n[1])
			x.same("Move")
			of(t, x.b, n[0])
			of(t, x.b, n[1], c.both...)
			for _, p := range c.from {
				x.drop(n[0], p)
			}
			x.move(n[0], n[1])
			x.drop(n[1], c.both...)
			x.drop(n[1], c.both...)
			of(t, x.b, 40, at(two, [2]int{2, 5})...)
		}
	}
}

// P13.1: Move, and back again: all that are there go, whoever was there ahead of it.
func TestMoveBackAgain(t *testing.T) {
	x := edgePair(t)
	one, two, three := at([2]int{1, 1}), at([2]int{1, 2}), at([2]int{2, 1})
	x.add(10, one...)
	x.add(10, two...)
	x.add(11, two...)
	x.add(11, three...)
	all := at([2]int{1, 1}, [2]int{1, 2}, [2]int{2, 1})
	for range 3 {
		is(t, x.b.Move(10, 11), true, "Move")
		is(t, x.b.Move(10, 11), false, "Move once more")
		of(t, x.b, 10)
		of(t, x.b, 11, all...)
		frames(t, x.b, 1, 11)
		frames(t, x.b, 2, 11)
		is(t, x.b.Move(11, 10), true, "Move back")
		is(t, x.b.Move(11, 10), false, "Move back once more")
		of(t, x.b, 10, all...)
		of(t, x.b, 11)
		frames(t, x.b, 1, 10)
		frames(t, x.b, 2, 10)
	}
}

// P13.1: behind a Move the two frames have nothing to do with each other: what is done
// to one is not seen in the other.
func TestBehindMove(t *testing.T) {
	x := edgePair(t)
	x.add(1, at([2]int{1, 1}, [2]int{1, 2})...)
	x.move(1, 2)
	x.add(1, at([2]int{5, 5}, [2]int{1, 1})...)
	of(t, x.b, 1, at([2]int{1, 1}, [2]int{5, 5})...)
	of(t, x.b, 2, at([2]int{1, 1}, [2]int{1, 2})...)
	x.drop(2, at([2]int{1, 1})...)
	of(t, x.b, 1, at([2]int{1, 1}, [2]int{5, 5})...)
	of(t, x.b, 2, at([2]int{1, 2})...)
	x.move(2, 3)
	x.move(1, 2)
	x.move(3, 1)
	of(t, x.b, 1, at([2]int{1, 2})...)
	of(t, x.b, 2, at([2]int{1, 1}, [2]int{5, 5})...)
	of(t, x.b, 3)
}

// P13.1: places go through a row of frames, and take along who is there.
func TestMoveInARow(t *testing.T) {
	x := newPair(t, []int{-1, 0, 1, 20, 21}, []int{0, 1, 2, 3})
	var all []api.Place
	for f := range 20 {
		p := api.Place{Proc: f % 4, Page: 20 - f}
		x.add(f, p)
		all = append(all, p)
	}
	for f := range 20 {
		x.move(f, f+1)
	}
	slices.SortFunc(all, func(p, q api.Place) int { return p.Proc*100 + p.Page - q.Proc*100 - q.Page })
	of(t, x.b, 20, all...)
	frames(t, x.b, 2, 20)
}

// R4: what a caller does to what was answered changes nothing, its spare room included;
// no answer shares memory with another one.
func TestAnswersAreNew(t *testing.T) {
	b := New()
	places := at([2]int{1, 1}, [2]int{1, 2}, [2]int{2, 1}, [2]int{4, 4}, [2]int{5, 0})
	for f := range 5 {
		for _, p := range places {
			b.Add(f, p)
		}
	}
	for range 3 {
		l, kept := b.Of(2), b.Of(2)
		l = l[:cap(l)]
		for i := range l {
			l[i] = api.Place{Proc: 9, Page: 9}
		}
		n, left := b.Frames(1), b.Frames(1)
		n = n[:cap(n)]
		for i := range n {
			n[i] = 99
		}
		if !slices.Equal(kept, places) || !slices.Equal(left, []int{0, 1, 2, 3, 4}) {
			t.Fatalf("other answers are %v, %v", kept, left)
		}
		for f := range 5 {
			of(t, b, f, places...)
		}
		frames(t, b, 1, 0, 1, 2, 3, 4)
		frames(t, b, 9)
		of(t, b, 99)
	}
}

// R4: later calls change nothing of what was answered before.
func TestAnswersStay(t *testing.T) {
	b, next := New(), numbers(8)
	type answer struct {
		places, wasPlaces []api.Place
		frames, wasFrames []int
	}
	var list []answer
	for range 400 {
		anyCall(b, next)
		places, frames := b.Of(next(6)), b.Frames(next(3))
		list = append(list, answer{places, slices.Clone(places), frames, slices.Clone(frames)})
	}
	for _, a := range list {
		if !slices.Equal(a.places, a.wasPlaces) || !slices.Equal(a.frames, a.wasFrames) {
			t.Fatalf("%v, %v were %v, %v", a.places, a.frames, a.wasPlaces, a.wasFrames)
		}
	}
}

// caller is a Back, or what is done as if it were one.
type caller interface {
	Add(f int, p api.Place)
	Drop(f int, p api.Place) bool
	Move(from, to int) bool
}

// anyCall does one call that changes, with few frames and places, and tells what it
// answered.
func anyCall(b caller, next func(int) int) bool {
	f, p := next(6), api.Place{Proc: next(3), Page: next(5)}
	switch next(8) {
	case 0, 1, 2, 3:
		b.Add(f, p)
	case 4, 5, 6:
		return b.Drop(f, p)
	default:
		return b.Move(f, next(6))
	}
	return false
}

// R4: nothing of what is handed in is kept: a place that is changed later is another one.
func TestPlacesAreValues(t *testing.T) {
	b := New()
	p := api.Place{Proc: 1, Page: 1}
	b.Add(7, p)
	p.Page = 2
	of(t, b, 7, api.Place{Proc: 1, Page: 1})
	is(t, b.Drop(7, p), false, "Drop")
}

// P13.1: several values at once: nothing that is done to one is seen in the other.
func TestSeveral(t *testing.T) {
	x, y, z := edgePair(t), edgePair(t), edgePair(t)
	one, two := at([2]int{1, 1}), at([2]int{2, 2})
	x.add(7, one...)
	y.same("an Add to another one")
	y.add(7, two...)
	y.add(8, one...)
	x.same("an Add to another one")
	x.drop(7, two...)
	y.drop(7, one...)
	y.move(7, 8)
	x.same("a Move of another one")
	x.move(7, 9)
	y.same("a Move of another one")
	x.drop(9, one...)
	y.same("a Drop of another one")
	of(t, y.b, 8, at([2]int{1, 1}, [2]int{2, 2})...)
	none(t, x.b)
	none(t, z.b)
}

// P13.1: a nil Back: nothing, false; each call, at any arguments.
func TestNil(t *testing.T) {
	var b *Back
	for range 2 {
		for _, f := range ends() {
			for _, p := range edgePlaces() {
				b.Add(f, p)
				is(t, b.Drop(f, p), false, "Drop")
			}
			for _, to := range ends() {
				is(t, b.Move(f, to), false, "Move")
			}
		}
		none(t, b)
	}
}

// R1: one that New did not make is as a new one, whichever call is the first.
func TestNotMadeByNew(t *testing.T) {
	p := api.Place{Proc: 1, Page: 2}
	for _, first := range []func(b *Back){
		func(b *Back) {},
		func(b *Back) { none(t, b) },
		func(b *Back) { is(t, b.Drop(7, p), false, "Drop") },
		func(b *Back) { is(t, b.Move(7, 8), false, "Move") },
		func(b *Back) { is(t, b.Move(7, 7), false, "Move to itself") },
	} {
		b := new(Back)
		first(b)
		none(t, b)
		b.Add(7, p)
		b.Add(7, p)
		of(t, b, 7, p)
		is(t, b.Move(7, 8), true, "Move")
		frames(t, b, 1, 8)
		is(t, b.Drop(8, p), true, "Drop")
		none(t, b)
	}
	x := &pair{t: t, b: &Back{}, frames: ends(), procs: ends()}
	for i, f := range ends() {
		x.add(f, edgePlaces()[i])
	}
}

// wordsAlone does to the model what anyCall asks for.
type wordsAlone struct {
	m *model
}

func (w wordsAlone) Add(f int, p api.Place)       { w.m.add(f, p) }
func (w wordsAlone) Drop(f int, p api.Place) bool { return w.m.drop(f, p) }
func (w wordsAlone) Move(from, to int) bool       { return w.m.move(from, to) }

// P13.1: many calls in a row, held against the words of the chapter alone.
func TestManyCalls(t *testing.T) {
	for seed := range uint64(20) {
		x := newPair(t, []int{-1, 0, 1, 2, 3, 4, 5, 6}, []int{-1, 0, 1, 2, 3})
		next, again := numbers(seed), numbers(seed)
		for i := range 1000 {
			got, want := anyCall(x.b, next), anyCall(wordsAlone{&x.m}, again)
			is(t, got, want, told("seed, call", int(seed), i))
			x.same(told("seed, call", int(seed), i))
		}
	}
}

// P13.1: many calls in a row at numbers of all kinds.
func TestManyCallsAtTheEdges(t *testing.T) {
	x, next, list := edgePair(t), numbers(99), ends()
	some := func() int { return list[next(len(list))] }
	for range 1500 {
		p := api.Place{Proc: some(), Page: some()}
		switch next(6) {
		case 0, 1:
			x.add(some(), p)
		case 2:
			x.drop(some(), p)
		case 3, 4:
			if n := len(x.m.list); n > 0 {
				h := x.m.list[next(n)]
				x.add(some(), h.p)
				x.drop(h.f, h.p)
			}
		default:
			x.move(some(), some())
		}
	}
}

// R5: the same calls, done again from the beginning, have the same answers.
func TestTheSameAgain(t *testing.T) {
	row := func() ([]api.Place, []int, []bool) {
		b, next := New(), numbers(5)
		var places []api.Place
		var frames []int
		var done []bool
		for range 500 {
			done = append(done, anyCall(b, next))
			places = append(places, b.Of(next(6))...)
			frames = append(frames, b.Frames(next(3))...)
		}
		return places, frames, done
	}
	places, frames, done := row()
	for range 5 {
		p, f, d := row()
		if !slices.Equal(p, places) || !slices.Equal(f, frames) || !slices.Equal(d, done) {
			t.Fatal("the same calls have other answers")
		}
	}
}
