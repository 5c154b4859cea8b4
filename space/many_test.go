package space

import (
	"headland/api"
	"headland/cache"
	"headland/disk"
	"headland/file"
	"headland/pool"
	"headland/ram"
	"math/rand"
	"testing"
)

// pages are such that several lie in one table, in a row, and far from each other.
func pages() []int {
	return []int{0, 1, 2, 3, 6, 7, 8, 9, 63, 64, 65, 511, 512, 4094, 4095}
}

func one[T any](r *rand.Rand, list []T) T {
	return list[r.Intn(len(list))]
}

// anyArea is an area that may be, or nearly.
func anyArea(r *rand.Rand) api.Area {
	a := api.Area{From: one(r, pages()), Pages: 1 + r.Intn(6), Write: r.Intn(5) > 0, Kind: api.Own + r.Intn(3)}
	if a.Kind != api.Own {
		a.File, a.Off = r.Intn(2), r.Intn(11)
	}
	return a
}

// TestManyCalls: calls in a row, with little room or much, and a disk that fails now and
// then; and pages that go out, move, and are lost, as layers above let them.
func TestManyCalls(t *testing.T) {
	for seed := range int64(12) {
		r := rand.New(rand.NewSource(seed))
		w := newWorld(t, api.Normal, api.Movable, api.Normal)
		for range 1500 {
			w.anyCall(r)
		}
	}
}

func (w *world) anyCall(r *rand.Rand) {
	w.t.Helper()
	n, page := r.Intn(4), one(r, pages())
	switch k := r.Intn(40); {
	case k < 2:
		w.spawn(n)
	case k < 3 && r.Intn(3) == 0:
		w.exit(n)
	case k < 5:
		w.fork(n, r.Intn(4))
	case k < 9:
		w.mapArea(n, anyArea(r))
	case k < 10:
		w.unmap(n, page, 1+r.Intn(7))
	case k < 12:
		w.protect(n, page, 1+r.Intn(7), r.Intn(3) > 0)
	case k < 20:
		w.load(n, 64*page+r.Intn(64), r.Intn(65))
	case k < 30:
		w.store(n, 64*page+r.Intn(64), string(text("", r.Intn(1000)))[:r.Intn(65)])
	case k < 31:
		w.signal(n)
	case k < 32:
		w.tell(n, r.Intn(9999))
	case k < 34:
		w.leaveRoom(r.Intn(1+w.m.room[api.Normal]), r.Intn(1+w.m.room[api.Movable]))
	case k < 35:
		w.giveBack()
	case k < 36:
		w.fail(r.Intn(3), r.Intn(3))
	default:
		w.fromAbove(r, n, page)
	}
}

// fromAbove is what layers above do to a page.
func (w *world) fromAbove(r *rand.Rand, n, page int) {
	w.t.Helper()
	w.fail(0, 0)
	x := w.m.procs[n]
	if x == nil {
		return
	}
	switch has := x.pages[page].kind == api.Frame; r.Intn(8) {
	case 0, 1, 2:
		if has {
			w.out(n, page)
		}
	case 3, 4:
		if has {
			w.move(n, page)
		}
	case 5, 6:
		w.drop(cache.Key{File: r.Intn(2), Page: r.Intn(16)})
	case 7:
		if has && r.Intn(3) == 0 {
			i, _ := w.image(n, page)
			for _, p := range w.m.whoHas(i) {
				w.put(p.Proc, p.Page, api.Entry{Kind: api.Lost})
			}
		}
	}
}

// seen is what processes must load, by the words of P19.3 alone: nothing is known there of
// frames, but that a page of its own, or one of a file that was stored to, is somewhere.
type seen struct {
	files map[cache.Key]bytes
	procs map[int]map[int]bytes // pages of its own, and Private ones that were stored to
	areas map[int][]api.Area
}

// page answers the bytes of a page of an area.
func (x *seen) page(n, page int, a api.Area) bytes {
	if b, ok := x.procs[n][page]; ok || a.Kind == api.Own {
		return b
	}
	return x.files[cache.Key{File: a.File, Page: a.Off + page - a.From}]
}

// store makes one byte be so.
func (x *seen) store(n, at int, a api.Area, v byte) {
	b := x.page(n, at/64, a)
	b[at%64] = v
	if a.Kind == api.Shared {
		x.files[cache.Key{File: a.File, Page: a.Off + at/64 - a.From}] = b
	} else {
		x.procs[n][at/64] = b
	}
}

// TestWhatIsLoaded: whatever is done to frames, each process loads what it must.
func TestWhatIsLoaded(t *testing.T) {
	for seed := range int64(8) {
		r := rand.New(rand.NewSource(seed))
		w := newWorld(t, api.Normal, api.Normal, api.Normal, api.Normal, api.Movable, api.Movable, api.Movable, api.Movable)
		x := &seen{files: map[cache.Key]bytes{}, procs: map[int]map[int]bytes{}, areas: map[int][]api.Area{}}
		for k, b := range w.m.disk {
			x.files[k] = b
		}
		for n := range 2 {
			x.procs[n], x.areas[n] = map[int]bytes{}, []api.Area{own(0, 3), shared(3, 3, n, 4), private(6, 3, 0, 4), own(511, 2)}
			w.start(n, x.areas[n]...)
		}
		for range 500 {
			x.anyStep(w, r)
		}
	}
}

func (x *seen) anyStep(w *world, r *rand.Rand) {
	w.t.Helper()
	n := r.Intn(6)
	a := one(r, append(x.areas[n], own(0, 3)))
	at := 64*a.From + r.Intn(64*a.Pages)
	many := min(1+r.Intn(64), 64*(a.From+a.Pages)-at)
	if x.procs[n] == nil {
		x.fork(w, r.Intn(6), n)
		return
	}
	switch r.Intn(12) {
	case 0:
		if len(x.procs) > 2 {
			w.exit(n)
			delete(x.procs, n)
			delete(x.areas, n)
		}
	case 1, 2, 3:
		b := text("", r.Intn(1000))[:many]
		w.stores(n, at, string(b))
		for i, v := range b {
			x.store(n, at+i, a, v)
		}
	case 4, 5, 6:
		w.fromAboveUnseen(r, n, at/64)
	default:
		var b []byte
		for i := range many {
			all := x.page(n, (at+i)/64, a)
			b = append(b, all[(at+i)%64])
		}
		w.loads(n, at, string(b))
	}
}

func (x *seen) fork(w *world, from, to int) {
	w.t.Helper()
	if x.procs[from] == nil {
		return
	}
	is(w.t, w.fork(from, to), api.OK, "Fork")
	x.procs[to], x.areas[to] = map[int]bytes{}, x.areas[from]
	for page, b := range x.procs[from] {
		x.procs[to][page] = b
	}
}

// fromAboveUnseen is what layers above do that nobody sees.
func (w *world) fromAboveUnseen(r *rand.Rand, n, page int) {
	w.t.Helper()
	has := w.m.procs[n].pages[page].kind == api.Frame
	switch r.Intn(3) {
	case 0:
		if has {
			w.out(n, page)
		}
	case 1:
		if has {
			w.move(n, page)
		}
	case 2:
		w.drop(cache.Key{File: r.Intn(2), Page: 4 + r.Intn(3)})
	}
}

// TestTheSameAgain: the same calls, done again from the beginning, have the same answers,
// and use the same frames.
func TestTheSameAgain(t *testing.T) {
	for seed := range int64(3) {
		first := transcript(seed)
		for range 3 {
			if again := transcript(seed); again != first {
				t.Fatalf("seed %d: the same calls answer otherwise", seed)
			}
		}
	}
}

// transcript is what calls in a row answer, and what all frames are used for at the end.
func transcript(seed int64) string {
	r := rand.New(rand.NewSource(seed))
	d, p := disk.New(api.DiskSectors), pool.New()
	p.Online(0, api.Normal)
	p.Online(3, api.Movable)
	p.Online(5, api.Normal)
	s := New(ram.New(api.MaxFrames), d, p)
	var all string
	for range 600 {
		n, page := r.Intn(5), one(r, pages())
		e := api.OK
		var b []byte
		switch r.Intn(12) {
		case 0:
			e = s.Spawn(n)
		case 1:
			e = s.Fork(n, r.Intn(5))
		case 2:
			if r.Intn(4) == 0 {
				e = s.Exit(n)
			}
		case 3, 4:
			e = s.Map(n, anyArea(r))
		case 5:
			e = s.Put(api.Place{Proc: n, Page: page}, api.Entry{Kind: api.Slot, N: r.Intn(3)})
		case 6:
			e = s.Unmap(n, page, 2)
		case 7, 8, 9:
			e = s.Store(n, 64*page+r.Intn(64), text("", r.Intn(99))[:r.Intn(65)])
		default:
			b, e = s.Load(n, 64*page+r.Intn(64), r.Intn(65))
		}
		all += told(string(b), int(e)) + "\n"
	}
	for f := range 6 * 32 {
		all += told(" ", p.Use(f), len(s.Back.Of(f)))
		b, _ := s.Ram.Read(f, 0, 64)
		all += string(b)
	}
	b, e := file.Read(d, 0, 0)
	return all + told(string(b), int(e))
}
