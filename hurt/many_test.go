package hurt

import (
	"headland/api"
	"headland/evict"
	"headland/space"
	"maps"
	"math/rand"
	"slices"
	"testing"
)

// most is how many frames become bad in a space, so that there is room for the pages of
// its processes as ever.
const most = 30

// seen is what processes must load, by the words alone: bytes stay what they were, but of
// pages that are lost; and which frames are bad for ever.
type seen struct {
	t     *testing.T
	s     *space.Space
	r     *rand.Rand
	files map[int]string
	disk  map[int]string       // what a page of the file is when it is read anew
	own   map[api.Place]string // pages of its own, and Private ones that were stored to
	lost  map[api.Place]bool
	bad   map[int]bool // whether it is poisoned
}

// where answers the area that has a page of a process that start makes, as the page of the
// file that it is.
func where(page int) (kind, off int) {
	switch {
	case page >= privateAt && page < privateAt+4:
		return api.Private, page - privateAt + theOff
	case page >= sharedAt && page < sharedAt+4:
		return api.Shared, page - sharedAt + theOff
	}
	return api.Own, 0
}

// page is what a page has.
func (x *seen) page(p api.Place) string {
	kind, off := where(p.Page)
	if b, ok := x.own[p]; ok {
		return b
	}
	if kind == api.Own {
		return string(make([]byte, 64))
	}
	return x.files[off]
}

// look fails if a page is not what it must be.
func (x *seen) look(p api.Place) {
	x.t.Helper()
	if x.lost[p] {
		lost(x.t, x.s, p.Proc, p.Page)
		return
	}
	loads(x.t, x.s, p.Proc, p.Page, x.page(p))
}

func (x *seen) store(p api.Place) {
	x.t.Helper()
	if x.lost[p] {
		return
	}
	b := text("", x.r.Intn(10000))[:1+x.r.Intn(64)]
	stores(x.t, x.s, p.Proc, p.Page, b)
	b += x.page(p)[len(b):]
	if kind, off := where(p.Page); kind == api.Shared {
		x.files[off] = b
	} else {
		x.own[p] = b
	}
}

// come makes a process be there: as another one, if there is one.
func (x *seen) come(n int) {
	x.t.Helper()
	procs := x.s.Procs()
	if len(procs) == 0 {
		start(x.t, x.s, n)
		return
	}
	from := procs[x.r.Intn(len(procs))]
	is(x.t, x.s.Fork(from, n), api.OK, told("Fork", from, n))
	for _, page := range pages() {
		p, q := api.Place{Proc: from, Page: page}, api.Place{Proc: n, Page: page}
		if b, ok := x.own[p]; ok {
			x.own[q] = b
		}
		if x.lost[p] {
			x.lost[q] = true
		}
	}
}

// gone makes what is known of a process be gone, which is gone.
func (x *seen) gone(n int) {
	x.t.Helper()
	is(x.t, slices.Contains(x.s.Procs(), n), false, told("it is there", n))
	maps.DeleteFunc(x.own, func(p api.Place, _ string) bool { return p.Proc == n })
	maps.DeleteFunc(x.lost, func(p api.Place, _ bool) bool { return p.Proc == n })
}

// poison makes who has a frame lose the page, if it is nowhere else.
func (x *seen) poison(f int) {
	x.t.Helper()
	who := x.s.Back.Of(f)
	k, filed := x.s.Cache.Of(f)
	dirty := filed && x.s.Cache.Dirty(k)
	killed, e := poisons(x.t, x.s, f, x.r.Intn(2) == 0)
	if e != api.OK {
		return
	}
	x.bad[f] = true
	for _, n := range killed {
		x.gone(n)
	}
	for _, p := range who {
		if !filed || dirty {
			x.lost[p] = true
			delete(x.own, p)
		}
	}
	if dirty {
		x.files[k.Page] = x.disk[k.Page]
	}
}

func (x *seen) soft(f int) {
	x.t.Helper()
	if softs(x.t, x.s, f) == api.OK {
		x.bad[f] = false
	}
}

// hurt makes a frame be bad: one that a page has, one of a table, or any.
func (x *seen) hurt(p api.Place) {
	x.t.Helper()
	f := x.r.Intn(frames)
	switch e, _ := x.s.Tree(p.Proc).Get(p.Page); {
	case e.Kind == api.Frame && x.r.Intn(3) > 0:
		f = e.N
	case x.r.Intn(4) == 0:
		f = x.s.Tree(p.Proc).Tables()[0]
	}
	if len(x.bad) >= most && x.s.Pool.Use(f) != api.Bad {
		return
	}
	if x.r.Intn(2) == 0 {
		x.poison(f)
	} else {
		x.soft(f)
	}
}

// out makes a page of its own go out, or one of the file, or what was written of the file
// be on the disk.
func (x *seen) out(p api.Place) {
	x.t.Helper()
	off := theOff + x.r.Intn(4)
	switch x.r.Intn(4) {
	case 0:
		if evict.Drop(x.s, theFile, off) == api.OK {
			x.disk[off] = x.files[off]
		}
	case 1:
		is(x.t, evict.Sync(x.s, theFile), api.OK, "Sync")
		for off := range x.files {
			x.disk[off] = x.files[off]
		}
	default:
		evict.Out(x.s, p.Proc, p.Page)
	}
}

// any does something, and looks at something.
func (x *seen) any() {
	x.t.Helper()
	r := x.r
	p := api.Place{Proc: r.Intn(3), Page: append(pages()[:16], 4091, 4095)[r.Intn(18)]}
	switch k := r.Intn(40); {
	case x.s.Tree(p.Proc) == nil:
		x.come(p.Proc)
	case k < 16:
		x.store(p)
	case k < 24:
		x.look(p)
	case k < 25 && len(x.s.Procs()) == 3:
		is(x.t, x.s.Exit(p.Proc), api.OK, "Exit")
		x.gone(p.Proc)
	case k < 28:
		x.out(p)
	case k < 29:
		f := taken(x.t, x.s, api.Balloon, true)
		x.hurtOrFree(f)
	default:
		x.hurt(p)
	}
}

// hurtOrFree makes a frame of a balloon be bad, or not be the balloon's.
func (x *seen) hurtOrFree(f int) {
	x.t.Helper()
	is(x.t, softs(x.t, x.s, f), api.ErrBusy, "Soft of a balloon")
	if len(x.bad) < most && x.r.Intn(2) == 0 {
		x.poison(f)
		return
	}
	is(x.t, x.s.Pool.Free(f), true, "Free")
}

// TestManyCalls: calls in a row. Whichever frames become bad, each process loads what it
// stored, or finds what is lost; and what is bad stays so.
func TestManyCalls(t *testing.T) {
	for seed := range int64(12) {
		x := &seen{t: t, s: begun(t), r: rand.New(rand.NewSource(seed)), files: map[int]string{}, disk: map[int]string{}, own: map[api.Place]string{}, lost: map[api.Place]bool{}, bad: map[int]bool{}}
		for page := range api.FilePages {
			x.files[page] = onDisk(page - theOff)
			x.disk[page] = x.files[page]
		}
		for range 500 {
			x.any()
		}
		for f, poisoned := range x.bad {
			bad(t, x.s, f, poisoned)
		}
		for _, n := range x.s.Procs() {
			for page := range 16 {
				x.look(api.Place{Proc: n, Page: page})
			}
		}
		is(t, len(x.bad), most, "bad frames")
	}
}

// TestTheSameAgain: the same calls, done again from the beginning, have the same answers,
// and leave the same behind.
func TestTheSameAgain(t *testing.T) {
	for seed := range int64(3) {
		first, list := transcript(t, seed)
		for range 3 {
			again, answers := transcript(t, seed)
			same(t, again, first, "again")
			is(t, answers, list, "what was answered")
		}
	}
}

func transcript(t *testing.T, seed int64) (*state, string) {
	r := rand.New(rand.NewSource(seed))
	s := begun(t)
	stores(t, s, 0, 3, "ours")
	is(t, s.Fork(0, 1), api.OK, "Fork")
	var list string
	for range 300 {
		n, page, f := r.Intn(3), r.Intn(16), r.Intn(frames)
		var killed []int
		e := api.OK
		switch r.Intn(8) {
		case 0:
			e = s.Fork(r.Intn(3), n)
		case 1, 2, 3, 4:
			e = s.Store(n, 64*page+r.Intn(64), []byte(text("", r.Intn(99))))
		case 5:
			_, e = s.Load(n, 64*page, 64)
		case 6:
			e = Soft(s, f)
		case 7:
			killed, e = Poison(s, f, r.Intn(2) == 0)
		}
		list = told(told(list, killed...)+":", int(e))
	}
	return stateOf(t, s, "transcript"), list
}
