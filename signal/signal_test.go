package signal

import (
	"headland/api"
	"math"
	"slices"
	"strconv"
	"sync"
	"testing"
	"testing/synctest"
)

// queue is what a Queue can do.
type queue interface {
	Put(s api.Sig) bool
	Take() (api.Sig, bool)
	Len() int
}

// model is what a Queue must be, done by the words alone: a list.
type model struct {
	room int
	list []api.Sig
}

// modelOf answers the model of New(most): 16 is written out, so that the constant alone
// is not believed.
func modelOf(most int) *model {
	if most < 0 {
		most = 0
	} else if most > 16 {
		most = 16
	}
	return &model{room: most}
}

func (m *model) Put(s api.Sig) bool {
	if len(m.list) == m.room {
		return false
	}
	m.list = append(m.list, s)
	return true
}

func (m *model) Take() (api.Sig, bool) {
	if len(m.list) == 0 {
		return api.Sig{}, false
	}
	s := m.list[0]
	m.list = m.list[1:]
	return s, true
}

func (m *model) Len() int { return len(m.list) }

// ends are numbers at the edges that there are, beyond these, below 0, and at the ends
// of int; some are another one in their lowest bits alone.
func ends() []int {
	return []int{math.MinInt, math.MinInt + 1, -1 << 32, -1<<32 + 1, math.MinInt32, -17, -16, -15, -2, -1,
		0, 1, 2, 7, api.MaxProcs, 14, 15, api.MaxSignals, 17, 18, 31, 32, 64, 255, 256, api.MaxPages, 1<<18 - 1, 1 << 18,
		1 << 16, 1<<31 - 1, 1 << 31, 1<<32 - 1, 1 << 32, 1<<32 + 1, 1<<32 + 16, 1 << 62, math.MaxInt - 1, math.MaxInt}
}

// sigs are signals at such numbers: one of both alone, then both.
func sigs() []api.Sig {
	var list []api.Sig
	for i, n := range ends() {
		list = append(list, api.Sig{Proc: n, At: 3}, api.Sig{Proc: 3, At: n},
			api.Sig{Proc: n, At: n}, api.Sig{Proc: n, At: ends()[len(ends())-1-i]})
	}
	return list
}

// told is a call as text.
func told(call string, numbers ...int) string {
	for _, n := range numbers {
		call += " " + strconv.Itoa(n)
	}
	return call
}

// unwaited does a test in which a call that waits is found at once: nobody is there for
// whom it could wait.
func unwaited(t *testing.T, done func(t *testing.T)) {
	t.Helper()
	synctest.Test(t, done)
}

// puts fails if Put does not answer what is wanted.
func puts(t *testing.T, q queue, s api.Sig, want bool) {
	t.Helper()
	if ok := q.Put(s); ok != want {
		t.Fatalf("Put(%v): %v, want %v", s, ok, want)
	}
}

// takes fails if Take does not answer this one.
func takes(t *testing.T, q queue, want api.Sig) {
	t.Helper()
	if s, ok := q.Take(); s != want || !ok {
		t.Fatalf("Take: %v, %v, want %v, true", s, ok, want)
	}
}

// waits fails if Len is another one, also if it is asked again.
func waits(t *testing.T, q queue, want int) {
	t.Helper()
	for range 2 {
		if n := q.Len(); n != want {
			t.Fatalf("Len: %d, want %d", n, want)
		}
	}
}

// empty fails if any signal waits.
func empty(t *testing.T, q queue) {
	t.Helper()
	for range 2 {
		if s, ok := q.Take(); s != (api.Sig{}) || ok {
			t.Fatalf("Take: %v, %v, want none, false", s, ok)
		}
		waits(t, q, 0)
	}
}

// full fails if there is room for any signal.
func full(t *testing.T, q queue) {
	t.Helper()
	n := q.Len()
	for _, s := range sigs() {
		puts(t, q, s, false)
		waits(t, q, n)
	}
}

// filled answers a Queue of New(most) that has been filled with the signals of addresses
// from first on, of which there are as many as room.
func filled(t *testing.T, most, room, first int) *Queue {
	t.Helper()
	q := New(most)
	for i := range room {
		waits(t, q, i)
		puts(t, q, api.Sig{Proc: i % 3, At: first + i}, true)
	}
	waits(t, q, room)
	return q
}

// emptied fails if not just those signals that filled puts wait, in their order.
func emptied(t *testing.T, q queue, room, first int) {
	t.Helper()
	for i := range room {
		waits(t, q, room-i)
		takes(t, q, api.Sig{Proc: i % 3, At: first + i})
	}
	empty(t, q)
}

// same does a call to a Queue and to its model, and fails if they answer differently.
func same(t *testing.T, q, m queue, what string, call func(x queue) (api.Sig, bool)) {
	t.Helper()
	s, ok := call(q)
	if want, wantOk := call(m); s != want || ok != wantOk {
		t.Fatalf("%s: %v, %v, want %v, %v", what, s, ok, want, wantOk)
	}
	if q.Len() != m.Len() {
		t.Fatalf("%s: Len: %d, want %d", what, q.Len(), m.Len())
	}
}

// numbers are numbers below n that look like random ones, the same ones for the same
// seed.
func numbers(seed uint64) func(n int) int {
	return func(n int) int {
		seed = seed*6364136223846793005 + 1442695040888963407
		return int((seed >> 33) % uint64(n))
	}
}

// anyCall answers a call: so many of four are a Put, and the others a Take.
func anyCall(next func(int) int, puts int) func(x queue) (api.Sig, bool) {
	s, put := api.Sig{Proc: next(8), At: next(1 << 18)}, next(4) < puts
	return func(x queue) (api.Sig, bool) {
		if put {
			return api.Sig{}, x.Put(s)
		}
		return x.Take()
	}
}

// P18.1: the chapter's example.
func TestExample(t *testing.T) {
	unwaited(t, func(t *testing.T) {
		q := New(1)
		puts(t, q, api.Sig{Proc: 5, At: 640}, true)
		takes(t, q, api.Sig{Proc: 5, At: 640})
		empty(t, q)
	})
}

// P18.1: in a new one none waits, whatever room it has.
func TestNew(t *testing.T) {
	unwaited(t, func(t *testing.T) {
		for _, most := range ends() {
			q := New(most)
			if q == nil {
				t.Fatalf("New(%d): nil", most)
			}
			empty(t, q)
		}
	})
}

// P18.1: at most so many wait, from 0 to MaxSignals.
func TestMost(t *testing.T) {
	unwaited(t, func(t *testing.T) {
		for most := range 17 {
			q := filled(t, most, most, 64)
			full(t, q)
			emptied(t, q, most, 64)
		}
	})
}

// P18.1: below 0 it is 0, and beyond MaxSignals that: the ends beyond.
func TestMostBeyond(t *testing.T) {
	unwaited(t, func(t *testing.T) {
		for _, most := range ends() {
			room := modelOf(most).room
			q := filled(t, most, room, 128)
			full(t, q)
			emptied(t, q, room, 128)
		}
		for _, c := range [][2]int{{math.MinInt, 0}, {-1, 0}, {0, 0}, {1, 1}, {15, 15}, {16, 16}, {17, 16}, {1 << 32, 16}, {math.MaxInt, 16}} {
			full(t, filled(t, c[0], c[1], 0))
		}
	})
}

// P18.1: where there is no room, none waits, and none is taken, however often it is
// asked.
func TestNoRoom(t *testing.T) {
	unwaited(t, func(t *testing.T) {
		for _, most := range []int{0, -1, math.MinInt} {
			q := New(most)
			for range 40 {
				full(t, q)
				empty(t, q)
			}
		}
	})
}

// P18.1: a Put for which there is no room changes nothing: neither what waits, nor its
// order, nor the room that there is behind a Take.
func TestRefusedPut(t *testing.T) {
	unwaited(t, func(t *testing.T) {
		q := filled(t, 3, 3, 10)
		full(t, q)
		takes(t, q, api.Sig{Proc: 0, At: 10})
		puts(t, q, api.Sig{Proc: 7, At: 7}, true)
		full(t, q)
		takes(t, q, api.Sig{Proc: 1, At: 11})
		takes(t, q, api.Sig{Proc: 2, At: 12})
		takes(t, q, api.Sig{Proc: 7, At: 7})
		empty(t, q)
	})
}

// P18.1: a Take of none changes nothing: what is put later waits, and there is no more
// room and no less.
func TestRefusedTake(t *testing.T) {
	unwaited(t, func(t *testing.T) {
		for most := range 17 {
			q := New(most)
			for range 20 {
				empty(t, q)
			}
			for i := range most {
				puts(t, q, api.Sig{At: i}, true)
			}
			full(t, q)
		}
	})
}

// P18.1: the first one is taken first: by when it came, not by what it is.
func TestOrder(t *testing.T) {
	unwaited(t, func(t *testing.T) {
		list := []api.Sig{{Proc: 3, At: 9}, {Proc: 1, At: 90}, {Proc: 2}, {Proc: 3, At: 8}, {At: 1}, {Proc: 3, At: 9}, {}, {Proc: -1, At: -5}, {}}
		for from := range list {
			q := New(api.MaxSignals)
			for i := range list {
				puts(t, q, list[(from+i)%len(list)], true)
			}
			for i := range list {
				takes(t, q, list[(from+i)%len(list)])
			}
			empty(t, q)
		}
	})
}

// P18.1: one is as another: the same one waits as often as it was put, and one whose
// numbers are 0 waits as any other.
func TestTheSameSignal(t *testing.T) {
	unwaited(t, func(t *testing.T) {
		for _, s := range []api.Sig{{}, {Proc: 1, At: 64}, {Proc: math.MinInt, At: math.MaxInt}} {
			q := New(16)
			for i := range 16 {
				waits(t, q, i)
				puts(t, q, s, true)
			}
			puts(t, q, s, false)
			for i := range 16 {
				waits(t, q, 16-i)
				takes(t, q, s)
			}
			empty(t, q)
		}
	})
}

// P18.1: Put, Take, Put, Take .., many times what there is room for, with any number
// waiting all the time.
func TestRoundAndRound(t *testing.T) {
	unwaited(t, func(t *testing.T) {
		for most := 1; most <= api.MaxSignals; most++ {
			for ahead := range most {
				q := filled(t, most, ahead, 0)
				for i := range 100 {
					puts(t, q, api.Sig{Proc: (ahead + i) % 3, At: ahead + i}, true)
					waits(t, q, ahead+1)
					takes(t, q, api.Sig{Proc: i % 3, At: i})
					waits(t, q, ahead)
				}
			}
		}
	})
}

// R1: any signal waits, at numbers of all kinds, and comes again as it was.
func TestAnySignal(t *testing.T) {
	unwaited(t, func(t *testing.T) {
		q := New(2)
		list := sigs()
		for i, s := range list {
			puts(t, q, s, true)
			puts(t, q, list[len(list)-1-i], true)
			full(t, q)
			takes(t, q, s)
			takes(t, q, list[len(list)-1-i])
			empty(t, q)
		}
	})
}

// R4: nothing of what is handed in is kept: a signal that is changed later, by who put
// it or by who took it, is another one.
func TestSignalsAreValues(t *testing.T) {
	unwaited(t, func(t *testing.T) {
		q := New(3)
		s := api.Sig{Proc: 1, At: 1}
		puts(t, q, s, true)
		puts(t, q, s, true)
		s.At = 2
		got, ok := q.Take()
		if got != (api.Sig{Proc: 1, At: 1}) || !ok {
			t.Fatalf("Take: %v, %v", got, ok)
		}
		got.Proc = 9
		takes(t, q, api.Sig{Proc: 1, At: 1})
		empty(t, q)
	})
}

// R4, R5: several at once: nothing that is done to one is seen in another, and a new one
// has nothing of those before.
func TestSeveral(t *testing.T) {
	unwaited(t, func(t *testing.T) {
		var list []*Queue
		for most := range 17 {
			list = append(list, filled(t, most, most, 100*most))
		}
		empty(t, New(16))
		for most, q := range slices.Backward(list) {
			full(t, q)
			emptied(t, q, most, 100*most)
			empty(t, New(16))
		}
		one, two := New(2), New(2)
		puts(t, one, api.Sig{At: 1}, true)
		empty(t, two)
		puts(t, two, api.Sig{At: 2}, true)
		waits(t, one, 1)
		takes(t, one, api.Sig{At: 1})
		takes(t, two, api.Sig{At: 2})
	})
}

// P18.1: a nil Queue: false, 0, whatever was asked of it before.
func TestNil(t *testing.T) {
	unwaited(t, func(t *testing.T) {
		var q *Queue
		for range 3 {
			waits(t, q, 0)
			full(t, q)
			empty(t, q)
		}
	})
}

// R1: one that New did not make has no room, and no call of it waits.
func TestNotMadeByNew(t *testing.T) {
	unwaited(t, func(t *testing.T) {
		for _, q := range []*Queue{new(Queue), {}} {
			for range 3 {
				waits(t, q, 0)
				full(t, q)
				empty(t, q)
			}
		}
	})
}

// P18.1: all rows of eleven calls, held against a list.
func TestAllRows(t *testing.T) {
	unwaited(t, func(t *testing.T) {
		for _, most := range []int{-1, 0, 1, 2, 3, 5, 16} {
			for row := range 1 << 11 {
				q, m := New(most), modelOf(most)
				for i := range 11 {
					same(t, q, m, told("row, call", row, i), func(x queue) (api.Sig, bool) {
						if row>>i&1 == 1 {
							return api.Sig{}, x.Put(api.Sig{Proc: row, At: i})
						}
						return x.Take()
					})
				}
			}
		}
	})
}

// P18.1: many calls in a row, held against a list, with any room: at times more that
// take, at times both alike, at times more that put.
func TestManyCalls(t *testing.T) {
	unwaited(t, func(t *testing.T) {
		for i, most := range ends() {
			next := numbers(uint64(i))
			q, m := New(most), modelOf(most)
			for n := range 3000 {
				same(t, q, m, told("most, call", most, n), anyCall(next, 1+n/200%3))
			}
			for m.Len() > 0 {
				same(t, q, m, told("most, Take", most), queue.Take)
			}
			empty(t, q)
		}
	})
}

// P5: the same calls, done again from the beginning, have the same answers.
func TestTheSameAgain(t *testing.T) {
	row := func() (list []api.Sig, done []bool) {
		q, next := New(6), numbers(18)
		for range 500 {
			s, ok := anyCall(next, 2)(q)
			list, done = append(list, s), append(done, ok)
		}
		return list, done
	}
	list, done := row()
	for range 5 {
		if l, d := row(); !slices.Equal(l, list) || !slices.Equal(d, done) {
			t.Fatal("the same calls have other answers")
		}
	}
}

// several does the same in some goroutines at once, and comes back behind all.
func several(n int, done func(who int)) {
	var all sync.WaitGroup
	for who := range n {
		all.Go(func() { done(who) })
	}
	all.Wait()
}

// P18.1: no call waits, be there others at once or not: no more than there is room for
// wait, none is lost, and none is taken twice.
func TestAtOnce(t *testing.T) {
	unwaited(t, func(t *testing.T) {
		for most := range 17 {
			q, put, taken := New(most), make([][]api.Sig, 8), make([][]api.Sig, 8)
			several(8, func(who int) {
				for i := range 200 {
					if s := (api.Sig{Proc: who, At: i}); q.Put(s) {
						put[who] = append(put[who], s)
					}
					if who%2 == 1 {
						continue
					}
					if s, ok := q.Take(); ok {
						taken[who] = append(taken[who], s)
					}
				}
			})
			all, left := slices.Concat(put...), slices.Concat(taken...)
			waits(t, q, len(all)-len(left))
			for s, ok := q.Take(); ok; s, ok = q.Take() {
				left = append(left, s)
			}
			if most == 0 && len(all) > 0 {
				t.Fatalf("without room %d were put", len(all))
			}
			counted(t, all, left)
		}
	})
}

// counted fails if the one list has not each signal of the other one, once.
func counted(t *testing.T, all, left []api.Sig) {
	t.Helper()
	times := map[api.Sig]int{}
	for _, s := range all {
		times[s]++
	}
	for _, s := range left {
		times[s]--
	}
	for s, n := range times {
		if n != 0 {
			t.Fatalf("%v was put %d times more than it was taken", s, n)
		}
	}
}

// P18.1: many that put at once: as many wait as there is room for, and of each of them
// in the order in which it put them.
func TestPutAtOnce(t *testing.T) {
	unwaited(t, func(t *testing.T) {
		for most := range 17 {
			q := New(most)
			several(8, func(who int) {
				for i := range 50 {
					q.Put(api.Sig{Proc: who, At: i})
				}
			})
			full(t, q)
			waits(t, q, most)
			last := [8]int{-1, -1, -1, -1, -1, -1, -1, -1}
			for s, ok := q.Take(); ok; s, ok = q.Take() {
				if s.At <= last[s.Proc] {
					t.Fatalf("%v behind %d", s, last[s.Proc])
				}
				last[s.Proc] = s.At
			}
		}
	})
}
