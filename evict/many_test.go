package evict

import (
	"headland/api"
	"headland/space"
	"math/rand"
	"testing"
)

// seen is what processes must load, by the words alone: nothing is known there of frames,
// slots or the disk, but that bytes stay what they were.
type seen struct {
	t     *testing.T
	s     *space.Space
	r     *rand.Rand
	files map[int]string
	own   map[api.Place]string // pages of its own, and Private ones that were stored to
}

// where answers the area that has a page of a process that begun makes, as the page of the
// file that it is.
func where(page int) (kind, off int) {
	switch {
	case page >= privateAt && page < privateAt+4:
		return api.Private, page - privateAt + theOff
	case page >= sharedAt && page < sharedAt+4:
		return api.Shared, page - sharedAt + theOff
	}
	return api.Own, 0
}

// page is what a page has.
func (x *seen) page(p api.Place) string {
	kind, off := where(p.Page)
	if b, ok := x.own[p]; ok {
		return b
	}
	if kind == api.Own {
		return string(make([]byte, 64))
	}
	return x.files[off]
}

func (x *seen) load(p api.Place) {
	x.t.Helper()
	loads(x.t, x.s, p.Proc, p.Page, x.page(p))
}

func (x *seen) store(p api.Place) {
	x.t.Helper()
	b := text("", x.r.Intn(10000))[:1+x.r.Intn(64)]
	stores(x.t, x.s, p.Proc, p.Page, b)
	b += x.page(p)[len(b):]
	if kind, off := where(p.Page); kind == api.Shared {
		x.files[off] = b
	} else {
		x.own[p] = b
	}
}

func (x *seen) fork(from, to int) {
	x.t.Helper()
	is(x.t, x.s.Fork(from, to), api.OK, told("Fork", from, to))
	for p, b := range x.own {
		if p.Proc == from {
			x.own[api.Place{Proc: to, Page: p.Page}] = b
		}
	}
}

func (x *seen) exit(n int) {
	x.t.Helper()
	is(x.t, x.s.Exit(n), api.OK, told("Exit", n))
	for p := range x.own {
		if p.Proc == n {
			delete(x.own, p)
		}
	}
}

// any does something, and looks at something.
func (x *seen) any() {
	x.t.Helper()
	r := x.r
	n, page := r.Intn(3), append(pages()[:16], 4091, 4095)[r.Intn(18)]
	p := api.Place{Proc: n, Page: page}
	d := trouble{r.Intn(4), r.Intn(2) * r.Intn(3)}
	switch k := r.Intn(20); {
	case x.s.Tree(n) == nil:
		x.fork([]int{1, 0, 0}[n], n)
	case k < 5:
		x.store(p)
	case k < 8:
		x.load(p)
	case k < 9 && len(x.s.Procs()) == 3:
		x.exit(n)
	case k < 15:
		out(x.t, x.s, n, page, d)
	case k < 16:
		sync(x.t, x.s, r.Intn(3), d)
	default:
		drop(x.t, x.s, theFile, theOff-1+r.Intn(6), d)
	}
}

// TestManyCalls: calls in a row, with a disk that fails now and then. Whatever goes out,
// each process loads what it must.
func TestManyCalls(t *testing.T) {
	for seed := range int64(6) {
		x := &seen{t: t, s: begun(t), r: rand.New(rand.NewSource(seed)), files: map[int]string{}, own: map[api.Place]string{}}
		for page := range 16 {
			x.files[page] = text("sector", 96+16*theFile+page)
		}
		x.fork(0, 1)
		for range 700 {
			x.any()
		}
		for n := range 3 {
			for page := range 16 {
				if x.s.Tree(n) != nil {
					x.load(api.Place{Proc: n, Page: page})
				}
			}
		}
	}
}

// TestTheSameAgain: the same calls, done again from the beginning, have the same answers,
// and leave the same behind.
func TestTheSameAgain(t *testing.T) {
	for seed := range int64(3) {
		first, list := transcript(t, seed)
		for range 3 {
			again, answers := transcript(t, seed)
			same(t, again, first, "again")
			is(t, answers, list, "what was answered")
		}
	}
}

func transcript(t *testing.T, seed int64) (*state, string) {
	r := rand.New(rand.NewSource(seed))
	s := dirtied(t)
	is(t, s.Fork(0, 1), api.OK, "Fork")
	var list string
	for range 300 {
		n, page := r.Intn(3), r.Intn(16)
		e := api.OK
		s.Disk.Fail(r.Intn(3), r.Intn(2))
		switch r.Intn(6) {
		case 0:
			e = s.Store(n, 64*page+r.Intn(64), []byte(text("", r.Intn(99))))
		case 1:
			_, e = s.Load(n, 64*page, 64)
		case 2, 3:
			e = Out(s, n, page)
		case 4:
			e = Sync(s, r.Intn(5))
		case 5:
			e = Drop(s, r.Intn(3), r.Intn(16))
		}
		list = told(list, int(e))
	}
	s.Disk.Fail(0, 0)
	return stateOf(t, s, "transcript"), list
}
