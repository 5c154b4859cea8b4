package space

import (
	"headland/api"
	"headland/area"
	"headland/cache"
	"headland/disk"
	"headland/file"
	"headland/pool"
	"headland/ram"
	"slices"
	"strconv"
	"testing"
)

// world is a Space, and the model that it is held against: each call is done to both, and
// fails if they answer differently, or are not the same behind it.
type world struct {
	t      *testing.T
	s      *Space
	m      *model
	places []api.Place // that were named, beside those that the model has
	eaten  []int       // frames that are taken away, so that there is less room
}

// newWorld has sections of these zones on line, and pages of files and slots that differ.
func newWorld(t *testing.T, zones ...int) *world {
	t.Helper()
	d, p := disk.New(api.DiskSectors), pool.New()
	w := &world{t: t, s: New(ram.New(api.MaxFrames), d, p), m: newModel()}
	for n, zone := range zones {
		is(t, p.Online(n, zone), api.OK, "Online")
		w.m.room[zone] += 32
	}
	for f := range 32 * len(zones) { // what a frame had is nobody's to see
		w.s.Ram.Write(f, 0, text("old", f))
	}
	for f := range api.MaxFiles {
		for page := range api.FilePages {
			b := text("file", f, page)
			is(t, file.Write(d, f, page, b), api.OK, "file.Write")
			w.m.disk[cache.Key{File: f, Page: page}] = bytes(b)
		}
	}
	for n := range api.MaxSlots {
		b := text("slot", n)
		is(t, file.WriteSlot(d, n, b), api.OK, "file.WriteSlot")
		w.m.slots[n] = bytes(b)
	}
	d.Flush()
	w.same("new")
	return w
}

// text is a page that begins with a word and numbers, and has bytes that differ up to its
// end.
func text(word string, numbers ...int) []byte {
	b := []byte(told(word, numbers...))
	for len(b) < api.PageSize {
		b = append(b, byte(len(b)*7+len(word))|1)
	}
	return b
}

// told is a call as text.
func told(call string, numbers ...int) string {
	for _, n := range numbers {
		call += " " + strconv.Itoa(n)
	}
	return call
}

// is fails if a call did not answer what was wanted.
func is[T comparable](t *testing.T, got, want T, what string) {
	t.Helper()
	if got != want {
		t.Fatalf("%s: %v, want %v", what, got, want)
	}
}

// lists fails if a call did not answer the list that was wanted.
func lists[T comparable](t *testing.T, got, want []T, what string) {
	t.Helper()
	if !slices.Equal(got, want) {
		t.Fatalf("%s: %v, want %v", what, got, want)
	}
}

// same fails if the Space, and all things that it names, are not as the model is.
func (w *world) same(what string) {
	w.t.Helper()
	real := w.samePages(what)
	w.sameFrames(real, what)
	w.samePool(what)
	var procs []int
	for n := -2; n < 11; n++ {
		x := w.m.procs[n]
		if x == nil {
			if w.s.Tree(n) != nil || w.s.Areas(n) != nil {
				w.t.Fatalf("%s: process %d: %v, %v", what, n, w.s.Tree(n), w.s.Areas(n))
			}
			continue
		}
		procs = append(procs, n)
		lists(w.t, w.s.Areas(n), x.areas, told(what+": Areas", n))
		is(w.t, len(w.s.Tree(n).Tables()), x.tables(), told(what+": tables of", n))
	}
	lists(w.t, w.s.Procs(), procs, what+": Procs")
	for n := range api.MaxSlots {
		lists(w.t, w.s.Swap.Of(n), w.m.whoHolds(n), told(what+": slot", n))
	}
}

// samePages fails if the entries are not what the model has, and answers the frames by
// their images.
func (w *world) samePages(what string) map[*image]int {
	w.t.Helper()
	real := map[*image]int{}
	all := w.m.where(func(content) bool { return true })
	for _, p := range append(all, w.places...) {
		x := w.m.procs[p.Proc]
		if x == nil {
			continue
		}
		c := x.pages[p.Page]
		e, no := w.s.Tree(p.Proc).Get(p.Page)
		if no != api.OK || e.Kind != c.kind || c.kind == api.Slot && e.N != c.slot || e.Write {
			w.t.Fatalf("%s: entry of %v: %v %d, want %v", what, p, e, no, c)
		}
		if c.kind != api.Frame {
			continue
		}
		if f, ok := real[c.image]; ok && f != e.N {
			w.t.Fatalf("%s: %v has frame %d, others %d", what, p, e.N, f)
		}
		real[c.image] = e.N
	}
	return real
}

// sameFrames fails if frames, and pages of files, are not what the model has. It takes
// the numbers of those that places have, and knows the others by the cache.
func (w *world) sameFrames(real map[*image]int, what string) {
	w.t.Helper()
	for k, i := range w.m.files {
		f, ok := w.s.Cache.Frame(k)
		if g, had := real[i]; !ok || had && f != g {
			w.t.Fatalf("%s: %v stands in %d, %v", what, k, f, ok)
		}
		is(w.t, w.s.Cache.Dirty(k), i.dirty, told(what+": dirty", k.File, k.Page))
		real[i] = f
	}
	is(w.t, len(w.s.Cache.Keys(-1)), len(w.m.files), what+": pages of files")
	numbers := map[int]bool{}
	for i := range w.m.images() {
		f := real[i]
		use := api.Anon
		if i.filed {
			use = api.Cache
		}
		if numbers[f] || w.s.Pool.Use(f) != use || w.s.Pool.Zone(f/32) != i.zone {
			w.t.Fatalf("%s: frame %d: use %d, zone %d, taken %v, want %v", what, f, w.s.Pool.Use(f), w.s.Pool.Zone(f/32), numbers[f], i)
		}
		numbers[f] = true
		lists(w.t, w.s.Back.Of(f), w.m.whoHas(i), told(what+": Back of", f))
		b, e := w.s.Ram.Read(f, 0, 64)
		if e != api.OK || bytes(b) != i.bytes {
			w.t.Fatalf("%s: frame %d: %q %d, want %q", what, f, b, e, i.bytes)
		}
	}
	var had []int
	for n := range api.MaxProcs {
		had = append(had, w.s.Back.Frames(n)...)
	}
	for _, f := range had {
		is(w.t, numbers[f], true, told(what+": somebody has", f))
	}
}

// samePool fails if there are not so many frames of each use as the model has.
func (w *world) samePool(what string) {
	w.t.Helper()
	want := map[[2]int]int{{api.Normal, api.Free}: w.m.room[api.Normal], {api.Movable, api.Free}: w.m.room[api.Movable]}
	for i := range w.m.images() {
		use := api.Anon
		if i.filed {
			use = api.Cache
		}
		want[[2]int{i.zone, use}]++
	}
	for _, x := range w.m.procs {
		want[[2]int{api.Normal, api.Table}] += x.tables()
	}
	for _, f := range w.eaten {
		want[[2]int{w.s.Pool.Zone(f / 32), api.Balloon}]++
	}
	got := map[[2]int]int{}
	for n := range api.MaxSects {
		for use := api.Free; use <= api.Bad; use++ {
			got[[2]int{w.s.Pool.Zone(n), use}] += w.s.Pool.Count(n, use)
		}
	}
	for _, zone := range []int{api.Normal, api.Movable} {
		for use := api.Free; use <= api.Bad; use++ {
			k := [2]int{zone, use}
			is(w.t, got[k], want[k], told(what+": frames of zone and use", zone, use))
		}
	}
}

// named makes the world look at a place from now on.
func (w *world) named(n, page int) {
	p := api.Place{Proc: n, Page: page}
	if page >= 0 && page < api.MaxPages && !slices.Contains(w.places, p) {
		w.places = append(w.places, p)
	}
}

// eat takes so many frames of a zone away, and leave all but so many.
func (w *world) eat(zone, many int) {
	w.t.Helper()
	for range many {
		f, e := w.s.Pool.Alloc(api.Balloon, 0, zone == api.Movable)
		is(w.t, e, api.OK, "Alloc")
		is(w.t, w.s.Pool.Zone(f/32), zone, "Alloc's zone")
		w.eaten = append(w.eaten, f)
		w.m.room[zone]--
	}
}

func (w *world) leaveRoom(normal, movable int) {
	w.t.Helper()
	w.giveBack()
	w.eat(api.Movable, w.m.room[api.Movable]-movable)
	w.eat(api.Normal, w.m.room[api.Normal]-normal)
}

// giveBack makes all frames Free again that were taken away.
func (w *world) giveBack() {
	w.t.Helper()
	for _, f := range w.eaten {
		w.m.room[w.s.Pool.Zone(f/32)]++
		is(w.t, w.s.Pool.Free(f), true, "Free")
	}
	w.eaten = nil
}

// fail makes works of the disk fail.
func (w *world) fail(first, count int) {
	w.s.Disk.Fail(first, count)
	w.m.done, w.m.fails = first, count
}

func (w *world) spawn(n int) api.Errno {
	w.t.Helper()
	e := w.s.Spawn(n)
	is(w.t, e, w.m.spawn(n), told("Spawn", n))
	w.same(told("Spawn", n))
	return e
}

func (w *world) exit(n int) api.Errno {
	w.t.Helper()
	e := w.s.Exit(n)
	is(w.t, e, w.m.exit(n), told("Exit", n))
	w.same(told("Exit", n))
	return e
}

func (w *world) fork(from, to int) api.Errno {
	w.t.Helper()
	e := w.s.Fork(from, to)
	is(w.t, e, w.m.fork(from, to), told("Fork", from, to))
	w.same(told("Fork", from, to))
	return e
}

func (w *world) mapArea(n int, a api.Area) api.Errno {
	w.t.Helper()
	what := told("Map", n, a.From, a.Pages, a.Kind, a.File, a.Off)
	e := w.s.Map(n, a)
	is(w.t, e, w.m.change(n, func(list []api.Area) ([]api.Area, api.Errno) { return area.Add(list, a) }), what)
	w.same(what)
	return e
}

func (w *world) unmap(n, from, pages int) api.Errno {
	w.t.Helper()
	what := told("Unmap", n, from, pages)
	e := w.s.Unmap(n, from, pages)
	is(w.t, e, w.m.unmap(n, from, pages), what)
	w.same(what)
	return e
}

func (w *world) protect(n, from, pages int, write bool) api.Errno {
	w.t.Helper()
	what := told("Protect", n, from, pages)
	e := w.s.Protect(n, from, pages, write)
	is(w.t, e, w.m.change(n, func(list []api.Area) ([]api.Area, api.Errno) { return area.Protect(list, from, pages, write) }), what)
	w.same(what)
	return e
}

func (w *world) load(n, at, many int) (string, api.Errno) {
	w.t.Helper()
	what := told("Load", n, at, many)
	w.named(n, at/64)
	w.named(n, at/64+1)
	b, e := w.s.Load(n, at, many)
	want, wantE := w.m.load(n, at, many)
	is(w.t, e, wantE, what)
	is(w.t, string(b), string(want), what)
	w.same(what)
	return string(b), e
}

func (w *world) store(n, at int, b string) api.Errno {
	w.t.Helper()
	what := told("Store", n, at, len(b))
	w.named(n, at/64)
	w.named(n, at/64+1)
	e := w.s.Store(n, at, []byte(b))
	is(w.t, e, w.m.store(n, at, []byte(b)), what)
	w.same(what)
	return e
}

func (w *world) tell(n, at int) {
	w.t.Helper()
	w.s.Tell(n, at)
	w.m.tell(n, at)
	w.same(told("Tell", n, at))
}

func (w *world) signal(n int) (api.Sig, api.Errno) {
	w.t.Helper()
	what := told("Signal", n)
	sig, e := w.s.Signal(n)
	want, wantE := w.m.signal(n)
	is(w.t, e, wantE, what)
	is(w.t, sig, want, what)
	w.same(what)
	return sig, e
}

// put is Put of an entry that names no frame.
func (w *world) put(n, page int, e api.Entry) api.Errno {
	w.t.Helper()
	what := told("Put", n, page, e.Kind, e.N)
	w.named(n, page)
	no := w.s.Put(api.Place{Proc: n, Page: page}, e)
	is(w.t, no, w.m.put(api.Place{Proc: n, Page: page}, content{kind: e.Kind, slot: e.N}), what)
	w.same(what)
	return no
}

// image answers the frame of a place, and its number.
func (w *world) image(n, page int) (*image, int) {
	w.t.Helper()
	e, no := w.s.Tree(n).Get(page)
	c := w.m.procs[n].pages[page]
	if no != api.OK || e.Kind != api.Frame || c.kind != api.Frame {
		w.t.Fatalf("%d %d: %v %d, want a frame", n, page, e, no)
	}
	return c.image, e.N
}

// out makes the bytes of a place's frame stand in a slot, which all hold who had the
// frame.
func (w *world) out(n, page int) {
	w.t.Helper()
	i, f := w.image(n, page)
	slot, ok := w.s.Swap.Take()
	if !ok || i.filed {
		return
	}
	b, _ := w.s.Ram.Read(f, 0, 64)
	is(w.t, file.WriteSlot(w.s.Disk, slot, b), w.m.work(), "WriteSlot")
	w.m.slots[slot] = i.bytes
	for _, p := range w.m.whoHas(i) {
		is(w.t, w.s.Put(p, api.Entry{Kind: api.Slot, N: slot}), api.OK, "Put of a slot")
		is(w.t, w.m.put(p, content{kind: api.Slot, slot: slot}), api.OK, "the model's Put of a slot")
	}
	w.same(told("out", n, page))
}

// move makes all who have a place's frame have another one with the same bytes, if there
// is one.
func (w *world) move(n, page int) {
	w.t.Helper()
	i, f := w.image(n, page)
	if i.filed {
		return
	}
	g, e := w.s.Pool.Alloc(api.Anon, 0, true)
	j, wantE := w.m.alloc()
	is(w.t, e, wantE, "Alloc")
	if e != api.OK {
		return
	}
	is(w.t, w.s.Ram.Copy(f, g), api.OK, "Copy")
	j.bytes = i.bytes
	for _, p := range w.m.whoHas(i) {
		is(w.t, w.s.Put(p, api.Entry{Kind: api.Frame, N: g}), api.OK, "Put of a frame")
		is(w.t, w.m.put(p, content{kind: api.Frame, image: j}), api.OK, "the model's Put of a frame")
	}
	w.same(told("move", n, page))
}

// drop makes a page of a file be on the disk, and in no frame.
func (w *world) drop(k cache.Key) {
	w.t.Helper()
	i := w.m.files[k]
	f, ok := w.s.Cache.Frame(k)
	is(w.t, ok, i != nil, told("Frame", k.File, k.Page))
	if !ok {
		return
	}
	b, _ := w.s.Ram.Read(f, 0, 64)
	is(w.t, file.Write(w.s.Disk, k.File, k.Page, b), w.m.work(), "file.Write")
	w.m.disk[k] = i.bytes
	for _, p := range w.m.whoHas(i) {
		is(w.t, w.s.Put(p, api.Entry{}), api.OK, "Put of nothing")
		is(w.t, w.m.put(p, content{}), api.OK, "the model's Put of nothing")
	}
	w.s.Cache.Drop(k)
	is(w.t, w.s.Pool.Free(f), true, "Free")
	delete(w.m.files, k)
	w.m.room[i.zone]++
	w.same(told("drop", k.File, k.Page))
}
