package runs

import (
	"headland/api"
	"math"
	"slices"
	"strconv"
	"testing"
)

const most = api.MaxFrames

// wide are numbers far beyond every set's ends.
func wide() []int {
	return []int{math.MinInt, math.MinInt + 1, -1 << 32, -most - 1, -most, -1, most, most + 1, 2 * most, 1 << 32, 1<<32 + 5, math.MaxInt - 1, math.MaxInt}
}

// span are the numbers from one on up to another.
func span(from, to int) []int {
	var list []int
	for f := from; f < to; f++ {
		list = append(list, f)
	}
	return list
}

// every are the numbers below n that are the first one, and each step-th behind it.
func every(n, first, step int) []int {
	var list []int
	for f := first; f < n; f += step {
		list = append(list, f)
	}
	return list
}

// with is a set of numbers below n in which these are.
func with(n int, frames ...int) *Set {
	s := New(n)
	s.Add(frames...)
	return s
}

// holds fails if others than these, which rise, are in s, by one of its calls; n is
// the end that its numbers are below.
func holds(t *testing.T, s *Set, n int, want []int, what string) {
	t.Helper()
	if l := s.All(); !slices.Equal(l, want) {
		t.Fatalf("%s: All: %v, want %v", what, l, want)
	}
	if c := s.Count(); c != len(want) {
		t.Fatalf("%s: Count: %d, want %d", what, c, len(want))
	}
	in := map[int]int{}
	for _, f := range want {
		in[f] = 1
	}
	for f := -2; f < n+3; f++ {
		if s.Has(f) != (in[f] == 1) {
			t.Fatalf("%s: Has(%d): %v", what, f, s.Has(f))
		}
	}
	for _, f := range wide() {
		if s.Has(f) && in[f] != 1 {
			t.Fatalf("%s: Has(%d)", what, f)
		}
	}
}

// found is the run that is due, by the words alone, where these numbers are in.
func found(in []int, order, from, to int) (int, bool) {
	if order < 0 || order > 5 {
		return 0, false
	}
	size := []int{1, 2, 4, 8, 16, 32}[order]
	for _, f := range in {
		if f%size != 0 || f < from {
			continue
		}
		n := 0
		for f+n < to && slices.Contains(in, f+n) && n < size {
			n++
		}
		if n == size {
			return f, true
		}
	}
	return 0, false
}

// runs fails if Run does not answer that.
func runs(t *testing.T, s *Set, order, from, to, want int, there bool, what string) {
	t.Helper()
	if f, ok := s.Run(order, from, to); f != want || ok != there {
		t.Fatalf("%s: Run(%d, %d, %d): %d %v, want %d %v", what, order, from, to, f, ok, want, there)
	}
}

// P8.1: the chapter's example.
func TestRunExample(t *testing.T) {
	runs(t, with(9, 1, 2, 3, 4, 5), 1, 0, 9, 2, true, "the example")
}

// P8.1: numbers below n, from 0 to MaxFrames; beyond, the ends. None is in at
// first.
func TestNew(t *testing.T) {
	for _, c := range []struct{ n, end int }{
		{0, 0}, {1, 1}, {2, 2}, {31, 31}, {32, 32}, {33, 33}, {64, 64}, {1000, 1000}, {most - 1, most - 1}, {most, most},
		{-1, 0}, {-most, 0}, {math.MinInt, 0}, {math.MinInt + 1, 0},
		{most + 1, most}, {2 * most, most}, {1 << 20, most}, {1 << 40, most}, {math.MaxInt, most},
	} {
		what := "New(" + strconv.Itoa(c.n) + ")"
		s := New(c.n)
		holds(t, s, c.end, nil, what)
		for order := range 6 {
			runs(t, s, order, math.MinInt, math.MaxInt, 0, false, what)
		}
		s.Add(span(-3, most+40)...)
		holds(t, s, c.end, span(0, c.end), what)
	}
}

// P8.1: Add and Drop of one number, each that may be: it alone is in, or not; the
// same once more changes nothing.
func TestEachNumber(t *testing.T) {
	for _, n := range []int{1, 2, 33, 100} {
		s, odd := New(n), every(n, 1, 2)
		for f := range n {
			for range 2 {
				s.Add(f)
				holds(t, s, n, []int{f}, "Add of one")
			}
			for range 2 {
				s.Drop(f)
				holds(t, s, n, nil, "Drop of one")
			}
		}
		s.Add(odd...)
		for f := range n {
			in := slices.Contains(odd, f)
			s.Add(f)
			both := slices.Compact(slices.Sorted(slices.Values(append(slices.Clone(odd), f))))
			holds(t, s, n, both, "Add of one beside others")
			s.Drop(f)
			holds(t, s, n, slices.DeleteFunc(both, func(g int) bool { return g == f }), "Drop of one beside others")
			if in {
				s.Add(f)
			}
		}
		holds(t, s, n, odd, "all as it was")
	}
}

// P8.1: Add and Drop of none: nothing is changed.
func TestNone(t *testing.T) {
	for _, n := range []int{0, 1, 5, most} {
		for _, in := range [][]int{nil, every(n, 0, 3), span(0, n)} {
			s := with(n, in...)
			s.Add()
			s.Add(nil...)
			s.Add([]int{}...)
			holds(t, s, n, in, "Add of none")
			s.Drop()
			s.Drop(nil...)
			s.Drop([]int{}...)
			holds(t, s, n, in, "Drop of none")
		}
	}
}

// P8.1: Add and Drop of many, in any order, the same one twice, some of them in
// already, or not.
func TestMany(t *testing.T) {
	s := New(20)
	s.Add(7, 3, 19, 0, 3, 7, 7)
	holds(t, s, 20, []int{0, 3, 7, 19}, "Add")
	s.Add(3, 4, 19, 4)
	holds(t, s, 20, []int{0, 3, 4, 7, 19}, "Add of some that are in")
	s.Drop(19, 4, 5, 4, 0)
	holds(t, s, 20, []int{3, 7}, "Drop of some that are in")
	s.Drop(19, 0, 1)
	holds(t, s, 20, []int{3, 7}, "Drop of some that are not")
	s.Add(span(0, 20)...)
	holds(t, s, 20, span(0, 20), "Add of all")
	s.Drop(every(20, 0, 2)...)
	holds(t, s, 20, every(20, 1, 2), "Drop of every second one")
	s.Drop(span(0, 20)...)
	holds(t, s, 20, nil, "Drop of all")
	s.Add(slices.Repeat([]int{5, 6}, 1<<16)...)
	holds(t, s, 20, []int{5, 6}, "Add of two, often")
	s.Drop(slices.Repeat([]int{6, 8}, 1<<16)...)
	holds(t, s, 20, []int{5}, "Drop of two, often")
}

// P8.1: numbers that may not be are not in, and nothing is changed by them; those
// that may be are, wherever they stand among these.
func TestNumbersThatMayNotBe(t *testing.T) {
	for _, n := range []int{0, 1, 6, 32, most - 1, most} {
		wrong := append(wide(), -2, n, n+1, -n-1)
		if n > 0 {
			wrong = append(wrong, -n, 2*n)
		}
		wrong = slices.DeleteFunc(wrong, func(f int) bool { return f >= 0 && f < n })
		in := every(n, 0, 5)
		s := with(n, in...)
		for _, f := range wrong {
			s.Add(f)
			s.Add(f, f)
			holds(t, s, n, in, "Add of "+strconv.Itoa(f))
			s.Drop(f)
			s.Drop(f, f)
			holds(t, s, n, in, "Drop of "+strconv.Itoa(f))
		}
		if n < 6 {
			continue
		}
		for _, f := range wrong {
			for _, list := range [][]int{{f, 4}, {4, f}, {f, 4, f}, {0, f, 4}} {
				s.Add(list...)
				holds(t, s, n, slices.Sorted(slices.Values(append(slices.Clone(in), 4))), "Add of 4 and "+strconv.Itoa(f))
				s.Drop(list...)
				s.Add(0)
				holds(t, s, n, in, "Drop of 4 and "+strconv.Itoa(f))
			}
		}
		s.Drop(append(wrong, span(0, n)...)...)
		holds(t, s, n, nil, "Drop of all and more")
	}
}

// P8.1: Run of each order, from and to at each number of a set and beyond its ends,
// held against the words: all in, none, each second one, pieces of each length.
func TestRunEverywhere(t *testing.T) {
	const n = 70
	lists := [][]int{nil, span(0, n), every(n, 0, 2), every(n, 1, 2), span(1, n), span(0, n-1), span(31, 65), span(32, 64), span(33, 70),
		{1, 3, 6, 7, 8, 9, 10, 11}, append(span(0, 17), span(18, n)...), append(span(3, 9), span(15, 63)...)}
	for i, in := range lists {
		s := with(n, in...)
		for order := -1; order <= 6; order++ {
			for from := -3; from < n+4; from++ {
				for to := -3; to < n+4; to++ {
					want, there := found(in, order, from, to)
					runs(t, s, order, from, to, want, there, "list "+strconv.Itoa(i))
				}
			}
		}
		holds(t, s, n, in, "Run")
	}
}

// P8.1: a run that begins just at from is one, and so is one that ends just at to;
// one more of either is not in time.
func TestRunJustThere(t *testing.T) {
	for order := range 6 {
		size := 1 << order
		for first := 0; first+size <= 256; first += size {
			s := with(256, span(first, first+size)...)
			runs(t, s, order, first, first+size, first, true, "just there")
			runs(t, s, order, 0, 256, first, true, "all of the set")
			runs(t, s, order, math.MinInt, math.MaxInt, first, true, "far beyond the ends")
			runs(t, s, order, first+1, 256, 0, false, "from is behind it")
			runs(t, s, order, 0, first+size-1, 0, false, "to is ahead of its end")
			runs(t, s, order, first+size, first, 0, false, "from is behind to")
			runs(t, s, order, first, first, 0, false, "from is to")
			for bigger := order + 1; bigger <= 6; bigger++ {
				runs(t, s, bigger, 0, 256, 0, false, "a greater order")
			}
		}
	}
}

// P8.1: one number is missing, at each place of a run: it is none, the next one is.
func TestRunOneMissing(t *testing.T) {
	for order := range 6 {
		size := 1 << order
		for first := 0; first < 4*size; first += size {
			for place := range size {
				s := with(5*size, span(0, 5*size)...)
				s.Drop(first + place)
				runs(t, s, order, first, 5*size, first+size, true, "one is missing")
				runs(t, s, order, first, first+size, 0, false, "one is missing, no other one")
				s.Add(first + place)
				runs(t, s, order, first, 5*size, first, true, "none is missing any more")
			}
		}
	}
}

// P8.1: as many numbers in a row as there are to be, but from no multiple on.
func TestRunOfNoMultiple(t *testing.T) {
	for order := 1; order <= 5; order++ {
		size := 1 << order
		for shift := 1; shift < size; shift++ {
			s := with(most, span(size+shift, 2*size+shift)...)
			runs(t, s, order, 0, most, 0, false, "no multiple")
			runs(t, s, order, size+shift, 2*size+shift, 0, false, "no multiple")
			s.Add(span(2*size, 3*size)...)
			runs(t, s, order, 0, most, 2*size, true, "the next multiple")
			runs(t, s, order, size+shift, most, 2*size, true, "the next multiple")
		}
	}
}

// P8.1: the least of more than one run; and of the others in turn, as from rises.
func TestRunLeast(t *testing.T) {
	for order := range 6 {
		size := 1 << order
		s := with(most, every(most, 0, 1)...)
		for from := range most - size + 1 {
			runs(t, s, order, from, most, (from+size-1)/size*size, true, "all are in")
		}
		for from := most - size + 1; from < most+3; from++ {
			runs(t, s, order, from, most+3, 0, false, "too late")
		}
		runs(t, s, order, most-size, most, most-size, true, "the last one")
		runs(t, s, order, most-size, math.MaxInt, most-size, true, "the last one")
		runs(t, s, order, most-size, most-1, 0, false, "the last one is not whole")
	}
}

// P8.1: a set whose end is within a run: there is none.
func TestRunAtTheEnd(t *testing.T) {
	for n := range 100 {
		s := with(n, span(-5, n+70)...)
		for order := range 6 {
			size := 1 << order
			for from := 0; from < n+size; from += size {
				for _, to := range []int{n, n + 1, n + size, math.MaxInt} {
					if from+size <= n {
						runs(t, s, order, from, to, from, true, "within the set")
					} else {
						runs(t, s, order, from, to, 0, false, "beyond the set")
					}
				}
			}
		}
	}
}

// P8.1: orders, from and to that are far beyond: no run, or the one that there is.
func TestRunFarBeyond(t *testing.T) {
	for _, n := range []int{0, 1, 64, most} {
		in := span(0, n)
		s := with(n, in...)
		for _, order := range append(wide(), -2, 6, 7, 8, 31, 32, 62, 63, 64, 65, 128, 256, 1<<32+1) {
			for _, from := range append(wide(), 0) {
				runs(t, s, order, from, n, 0, false, "no order")
			}
		}
		for order := range 6 {
			for _, from := range append(wide(), 0, 1, n-1, n) {
				for _, to := range append(wide(), 0, 1, n-1, n) {
					want, there := found(in, order, from, to)
					runs(t, s, order, from, to, want, there, "far beyond")
				}
			}
		}
	}
}

// P8.1: a nil Set, and one that New did not make: nothing, false, in each call, and
// nothing is in behind them.
func TestNilSet(t *testing.T) {
	for _, s := range []*Set{nil, new(Set)} {
		for range 2 {
			holds(t, s, 0, nil, "no set")
			for order := -1; order <= 6; order++ {
				for _, from := range append(wide(), 0, 1) {
					for _, to := range append(wide(), 0, 1) {
						runs(t, s, order, from, to, 0, false, "no set")
					}
				}
			}
			s.Add()
			s.Drop()
			s.Add(0, 1, 2, 1023)
			s.Add(wide()...)
			holds(t, s, 0, nil, "no set, Add")
			s.Drop(0, 1, 2, 1023)
			s.Drop(wide()...)
		}
	}
}

// R4: what is handed in is not changed, its spare room neither, and not kept.
func TestNothingHandedInIsKept(t *testing.T) {
	whole := []int{9, 3, -1, 3, 5, 99, 7, 8}
	was := slices.Clone(whole)
	s := New(10)
	s.Add(whole[:4]...)
	s.Drop(whole[4:5]...)
	s.Add(whole[6:7]...)
	s.Drop(whole[:1]...)
	if !slices.Equal(whole, was) {
		t.Errorf("what was handed in is changed: %v", whole)
	}
	clear(whole)
	holds(t, s, 10, []int{3, 7}, "what was handed in is changed")
}

// R4: what All answers is memory of its own: it may be changed, and may grow, and
// none of that is seen anywhere else.
func TestAnswersAreTheirOwn(t *testing.T) {
	for _, in := range [][]int{{4}, {0, 2, 5}, span(0, 40)} {
		s := with(40, in...)
		one, two := s.All(), s.All()
		_ = append(one, 1, 2, 3)
		clear(one[:cap(one)])
		if !slices.Equal(two, in) {
			t.Errorf("two answers share memory: %v", two)
		}
		holds(t, s, 40, in, "a change of what is answered")
		s.Drop(in...)
		s.Add(39)
		if !slices.Equal(two, in) {
			t.Errorf("an answer is changed later: %v", two)
		}
		holds(t, s, 40, []int{39}, "later")
	}
}

// R5: two sets have nothing of each other.
func TestTwoSets(t *testing.T) {
	one, two := with(40, 1, 2, 3), with(40, 2, 39)
	one.Drop(2)
	two.Add(5)
	holds(t, one, 40, []int{1, 3}, "one")
	holds(t, two, 40, []int{2, 5, 39}, "the other one")
	holds(t, New(40), 40, nil, "a later one")
}

// numbers answers a function that answers numbers below what it is given, the same
// ones for the same seed.
func numbers(seed uint64) func(n int) int {
	return func(n int) int {
		seed = seed*6364136223846793005 + 1442695040888963407
		return int((seed >> 33) % uint64(n))
	}
}

// P8.1: many calls in a row, right and wrong ones, held against a map.
func TestManyCalls(t *testing.T) {
	next := numbers(8)
	for _, n := range []int{0, 1, 40, 129, 300, most} {
		s, in := New(n), map[int]struct{}{}
		for range 1000 {
			first, count := next(n+6)-3, next(40)
			list := span(first, first+count)
			if next(3) == 0 {
				list = every(first+count*3, first, 3)
			}
			drop := next(3) == 0
			if drop {
				s.Drop(list...)
			} else {
				s.Add(list...)
			}
			for _, f := range list {
				if drop {
					delete(in, f)
				} else if f >= 0 && f < n {
					in[f] = struct{}{}
				}
			}
			var want []int
			for f := range in {
				want = append(want, f)
			}
			slices.Sort(want)
			holds(t, s, n, want, "many calls")
			for range 5 {
				order, from, to := next(8)-1, next(n+20)-10, next(n+20)-10
				f, there := found(want, order, from, to)
				runs(t, s, order, from, to, f, there, "many calls")
			}
		}
	}
}
