package move

import (
	"headland/api"
	"headland/evict"
	"headland/space"
	"math/rand"
	"testing"
)

// seen is what processes must load, by the words alone: nothing is known there of frames,
// slots or the disk, but that bytes stay what they were, and which pages are lost.
type seen struct {
	t     *testing.T
	s     *space.Space
	r     *rand.Rand
	files map[int]string
	disk  map[int]string       // what a page of the file is when it is read anew
	own   map[api.Place]string // pages of its own, and Private ones that were stored to
	lost  map[api.Place]bool
}

// where answers the area that has a page of a process that start makes, as the page of the
// file that it is.
func where(page int) (kind, off int) {
	switch {
	case page >= privateAt && page < privateAt+4:
		return api.Private, page - privateAt + theOff
	case page >= sharedAt && page < sharedAt+4:
		return api.Shared, page - sharedAt + theOff
	}
	return api.Own, 0
}

// page is what a page has.
func (x *seen) page(p api.Place) string {
	kind, off := where(p.Page)
	if b, ok := x.own[p]; ok {
		return b
	}
	if kind == api.Own {
		return string(make([]byte, 64))
	}
	return x.files[off]
}

// gone tells whether a page is lost, and fails if it must be and is not.
func (x *seen) gone(p api.Place) bool {
	x.t.Helper()
	if x.lost[p] {
		lost(x.t, x.s, p.Proc, p.Page)
		is(x.t, x.s.Store(p.Proc, 64*p.Page, []byte("x")), api.ErrPoison, "Store")
		x.s.Signal(p.Proc)
	}
	return x.lost[p]
}

func (x *seen) load(p api.Place) {
	x.t.Helper()
	if !x.gone(p) {
		loads(x.t, x.s, p.Proc, p.Page, x.page(p))
	}
}

func (x *seen) store(p api.Place) {
	x.t.Helper()
	if x.gone(p) {
		return
	}
	b := text("", x.r.Intn(10000))[:1+x.r.Intn(64)]
	stores(x.t, x.s, p.Proc, p.Page, b)
	b += x.page(p)[len(b):]
	if kind, off := where(p.Page); kind == api.Shared {
		x.files[off] = b
	} else {
		x.own[p] = b
	}
}

func (x *seen) fork(from, to int) {
	x.t.Helper()
	is(x.t, x.s.Fork(from, to), api.OK, told("Fork", from, to))
	for p, b := range x.own {
		if p.Proc == from {
			x.own[api.Place{Proc: to, Page: p.Page}] = b
		}
	}
	for p := range x.lost {
		if p.Proc == from {
			x.lost[api.Place{Proc: to, Page: p.Page}] = true
		}
	}
}

func (x *seen) exit(n int) {
	x.t.Helper()
	is(x.t, x.s.Exit(n), api.OK, told("Exit", n))
	for _, page := range pages() {
		p := api.Place{Proc: n, Page: page}
		delete(x.own, p)
		delete(x.lost, p)
	}
}

// clear makes who has a frame lose the page, and what is not on the disk of a file be
// gone.
func (x *seen) clear(f int) {
	x.t.Helper()
	who := x.s.Back.Of(f)
	k, filed := x.s.Cache.Of(f)
	if clears(x.t, x.s, f) != api.OK {
		return
	}
	for _, p := range who {
		x.lost[p] = true
		delete(x.own, p)
	}
	if filed {
		x.files[k.Page] = x.disk[k.Page]
	}
}

// out makes a page of its own go out, or one of the file.
func (x *seen) out(n, page int) {
	x.t.Helper()
	if x.r.Intn(2) == 0 {
		evict.Out(x.s, n, page)
		return
	}
	off := theOff + x.r.Intn(4)
	if evict.Drop(x.s, theFile, off) == api.OK {
		x.disk[off] = x.files[off]
	}
}

// any does something, and looks at something.
func (x *seen) any() {
	x.t.Helper()
	r := x.r
	n, page := r.Intn(3), append(pages()[:16], 4091, 4095)[r.Intn(18)]
	p := api.Place{Proc: n, Page: page}
	switch k := r.Intn(40); {
	case x.s.Tree(n) == nil:
		x.fork([]int{1, 0, 0}[n], n)
	case k < 10:
		x.store(p)
	case k < 16:
		x.load(p)
	case k < 17 && len(x.s.Procs()) == 3:
		x.exit(n)
	case k < 20:
		x.out(n, page)
	case k < 22:
		x.clear(r.Intn(32))
	case k < 24:
		x.s.Pool.Isolate(0, false)
		moves(x.t, x.s, -10+r.Intn(150))
	default:
		if e, _ := x.s.Tree(n).Get(page); e.Kind == api.Frame {
			isolated := r.Intn(3)
			x.s.Pool.Isolate(isolated, true)
			moves(x.t, x.s, e.N, isolated)
			x.s.Pool.Isolate(isolated, false)
		}
	}
}

// TestManyCalls: calls in a row. Wherever frames are, each process loads what it must.
func TestManyCalls(t *testing.T) {
	for seed := range int64(6) {
		x := &seen{t: t, s: begun(t), r: rand.New(rand.NewSource(seed)), files: map[int]string{}, disk: map[int]string{}, own: map[api.Place]string{}, lost: map[api.Place]bool{}}
		for page := range 16 {
			x.files[page] = text("sector", 96+16*theFile+page)
			x.disk[page] = x.files[page]
		}
		x.fork(0, 1)
		for range 700 {
			x.any()
		}
		for n := range 3 {
			for page := range 16 {
				if x.s.Tree(n) != nil {
					x.load(api.Place{Proc: n, Page: page})
				}
			}
		}
	}
}

// TestTheSameAgain: the same calls, done again from the beginning, have the same answers,
// and leave the same behind.
func TestTheSameAgain(t *testing.T) {
	for seed := range int64(3) {
		first, list := transcript(t, seed)
		for range 3 {
			again, answers := transcript(t, seed)
			same(t, again, first, "again")
			is(t, answers, list, "what was answered")
		}
	}
}

func transcript(t *testing.T, seed int64) (*state, string) {
	r := rand.New(rand.NewSource(seed))
	s := begun(t)
	stores(t, s, 0, 3, "ours")
	is(t, s.Fork(0, 1), api.OK, "Fork")
	var list string
	for range 300 {
		n, page, f := r.Intn(3), r.Intn(16), r.Intn(24)
		to, e := 0, api.OK
		switch r.Intn(6) {
		case 0:
			e = s.Store(n, 64*page+r.Intn(64), []byte(text("", r.Intn(99))))
		case 1:
			_, e = s.Load(n, 64*page, 64)
		case 2, 3, 4:
			to, e = Frame(s, f)
		case 5:
			if r.Intn(5) == 0 {
				e = Clear(s, f)
			}
		}
		list = told(list, to, int(e))
	}
	return stateOf(t, s, "transcript"), list
}
