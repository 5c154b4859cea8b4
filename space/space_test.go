package space

import (
	"headland/api"
	"headland/back"
	"headland/cache"
	"headland/disk"
	"headland/file"
	"headland/pool"
	"headland/ram"
	"headland/swap"
	"headland/tree"
	"math"
	"slices"
	"strings"
	"testing"
)

// noProcs are numbers of no process; some are one's in their lowest bits alone.
func noProcs() []int {
	return []int{math.MinInt, math.MinInt + 1, -1 << 32, -8, -7, -1, 8, 9, 15, 16, 63, 64, 1 << 32, 1<<32 + 1, 1 << 62, math.MaxInt}
}

// own, shared and private are areas that may be written.
func own(from, pages int) api.Area {
	return api.Area{From: from, Pages: pages, Write: true, Kind: api.Own}
}

func shared(from, pages, file, off int) api.Area {
	return api.Area{From: from, Pages: pages, Write: true, Kind: api.Shared, File: file, Off: off}
}

func private(from, pages, file, off int) api.Area {
	return api.Area{From: from, Pages: pages, Write: true, Kind: api.Private, File: file, Off: off}
}

// begun has process 0 with these areas.
func begun(t *testing.T, areas ...api.Area) *world {
	t.Helper()
	w := newWorld(t, api.Normal, api.Movable, api.Movable)
	w.start(0, areas...)
	return w
}

// start makes a process with these areas.
func (w *world) start(n int, areas ...api.Area) {
	w.t.Helper()
	is(w.t, w.spawn(n), api.OK, told("Spawn", n))
	for _, a := range areas {
		is(w.t, w.mapArea(n, a), api.OK, told("Map", n))
	}
}

// loads fails if a load does not answer these bytes.
func (w *world) loads(n, at int, want string) {
	w.t.Helper()
	got, e := w.load(n, at, len(want))
	if e != api.OK || got != want {
		w.t.Fatalf("Load %d %d: %q %d, want %q", n, at, got, e, want)
	}
}

// stores fails if a store is refused.
func (w *world) stores(n, at int, b string) {
	w.t.Helper()
	is(w.t, w.store(n, at, b), api.OK, told("Store", n, at))
}

// count is how many frames have a use.
func (w *world) count(use int) int {
	all := 0
	for n := range api.MaxSects {
		all += w.s.Pool.Count(n, use)
	}
	return all
}

// noughts are so many bytes.
func noughts(n int) string {
	return strings.Repeat("\x00", n)
}

func TestExample(t *testing.T) {
	w := begun(t, own(0, 4))
	w.loads(0, 0, noughts(64))
	w.loads(0, 3*64, noughts(64))
}

func TestNew(t *testing.T) {
	m, d, p := ram.New(4), disk.New(4), pool.New()
	s := New(m, d, p)
	if s.Ram != m || s.Disk != d || s.Pool != p {
		t.Fatal("it names other things than were handed in")
	}
	if s.Back == nil || s.Cache == nil || s.Swap == nil {
		t.Fatal("it has no Back, no Cache or no Swap")
	}
	if len(s.Procs()) != 0 || s.Swap.Used() != 0 || len(s.Cache.Keys(-1)) != 0 {
		t.Fatalf("%v %d %v", s.Procs(), s.Swap.Used(), s.Cache.Keys(-1))
	}
	if o := New(m, d, p); o.Back == s.Back || o.Cache == s.Cache || o.Swap == s.Swap {
		t.Fatal("two share something")
	}
}

func TestSpawn(t *testing.T) {
	w := newWorld(t, api.Normal)
	for _, n := range []int{3, 0, 7, 1, 2, 6, 5, 4} {
		is(t, w.spawn(n), api.OK, "Spawn")
		is(t, w.spawn(n), api.ErrThere, "Spawn again")
		is(t, len(w.s.Areas(n)), 0, "areas")
		is(t, w.count(api.Table), len(w.s.Procs()), "tables")
	}
	lists(t, w.s.Procs(), []int{0, 1, 2, 3, 4, 5, 6, 7}, "Procs")
	for _, n := range noProcs() {
		is(t, w.spawn(n), api.ErrArg, told("Spawn", n))
	}
}

func TestSpawnNoRoom(t *testing.T) {
	w := newWorld(t, api.Normal, api.Movable)
	w.start(2)
	w.leaveRoom(0, 32)
	is(t, w.spawn(3), api.ErrFull, "no Normal frame")
	is(t, w.spawn(2), api.ErrThere, "no Normal frame, and it is there")
	is(t, w.spawn(8), api.ErrArg, "no Normal frame, and no such number")
	w.leaveRoom(1, 0)
	is(t, w.spawn(3), api.OK, "one Normal frame")
	is(t, w.spawn(4), api.ErrFull, "that is used")
}

func TestSpawnOverNothing(t *testing.T) {
	p := pool.New()
	p.Online(0, api.Normal)
	for _, s := range []*Space{New(nil, disk.New(9), p), New(ram.New(9), disk.New(9), nil), New(nil, nil, nil), {}} {
		is(t, s.Spawn(0), api.ErrArg, "Spawn")
		is(t, s.Spawn(-1), api.ErrArg, "Spawn of no number")
		is(t, len(s.Procs()), 0, "Procs")
		is(t, s.Exit(0), api.ErrNone, "Exit")
	}
	is(t, p.Count(0, api.Free), 32, "Free")
}

func TestExit(t *testing.T) {
	w := begun(t, own(0, 9), shared(64, 2, 1, 3), private(512, 4, 1, 3))
	free, movable := w.m.room[api.Normal]+1, w.m.room[api.Movable]
	for page := range 9 {
		w.stores(0, 64*page, "mine")
	}
	w.out(0, 3)
	w.put(0, 4, api.Entry{Kind: api.Lost})
	w.stores(0, 64*64+7, "ours")
	w.stores(0, 512*64, "mine now")
	w.load(0, 513*64, 64)
	tree := w.s.Tree(0)
	is(t, w.exit(0), api.OK, "Exit")
	is(t, w.exit(0), api.ErrNone, "Exit again")
	is(t, w.m.room[api.Normal], free, "Normal frames")
	is(t, w.m.room[api.Movable], movable-2, "Movable frames: two have pages of a file")
	is(t, w.count(api.Anon)+w.count(api.Table), 0, "frames of processes")
	is(t, w.s.Swap.Used(), 0, "slots")
	if _, e := tree.Get(0); e != api.ErrNone || len(tree.Tables()) != 0 {
		t.Fatalf("its tree is not closed: %d", e)
	}
	is(t, w.s.Cache.Dirty(cache.Key{File: 1, Page: 3}), true, "what was stored is dirty")
	w.start(0)
	is(t, len(w.s.Areas(0)), 0, "areas of a new one")
	if _, e := w.load(0, 0, 1); e != api.ErrDenied {
		t.Fatalf("Load of a new one: %d", e)
	}
}

func TestExitNone(t *testing.T) {
	w := begun(t)
	for _, n := range append(noProcs(), 1, 7) {
		is(t, w.exit(n), api.ErrNone, told("Exit", n))
	}
}

// TestExitOfOneOfTwo: what others have, too, they go on having.
func TestExitOfOneOfTwo(t *testing.T) {
	for gone := range 2 {
		w := begun(t, own(0, 6), private(10, 3, 0, 0))
		for _, page := range []int{0, 1, 2, 3, 10, 11} {
			w.stores(0, 64*page, told("page", page))
		}
		w.load(0, 64*12, 5)
		w.out(0, 1)
		is(t, w.fork(0, 1), api.OK, "Fork")
		w.out(0, 2)
		w.stores(1, 64*3, "another")
		w.tell(0, 5)
		w.tell(1, 6)
		is(t, w.exit(gone), api.OK, "Exit")
		left := 1 - gone
		for _, page := range []int{0, 1, 2, 10, 11} {
			w.loads(left, 64*page, told("page", page))
		}
		w.loads(left, 64*3, []string{"page 3\x00", "another"}[left])
		if sig, e := w.signal(left); e != api.OK || sig != (api.Sig{Proc: left, At: 5 + left}) {
			t.Fatalf("Signal: %v %d", sig, e)
		}
		is(t, w.exit(left), api.OK, "Exit of the other one")
		is(t, w.count(api.Anon)+w.count(api.Table), 0, "frames of processes")
		is(t, w.count(api.Cache), 3, "frames of files")
	}
}

// TestExitOfPoisonedTables: the tables tell nothing any more, and it has nothing all the
// same.
func TestExitOfPoisonedTables(t *testing.T) {
	for i := range 4 {
		for _, spoilt := range []bool{false, true} {
			w := begun(t, own(0, 4))
			w.start(1, own(0, 4))
			w.stores(0, 0, "mine")
			w.stores(0, 64, "out")
			w.out(0, 1)
			w.stores(0, 128, "both")
			w.stores(1, 0, "its own")
			_, both := w.image(0, 2)
			is(t, w.s.Put(api.Place{Proc: 1, Page: 2}, api.Entry{Kind: api.Frame, N: both}), api.OK, "Put")
			table := w.s.Tree(0).Tables()[i]
			w.s.Ram.Poison(table)
			if spoilt {
				w.s.Pool.Spoil(table)
			}
			if _, e := w.s.Load(0, 0, 1); e != api.ErrPoison {
				t.Fatalf("Load: %d", e)
			}
			is(t, w.s.Exit(0), api.OK, "Exit")
			is(t, w.count(api.Anon), 2, "frames of the other one")
			is(t, w.count(api.Table), 4, "its tables")
			is(t, w.s.Swap.Used(), 0, "slots")
			is(t, w.s.Pool.Use(table), map[bool]int{false: api.Free, true: api.Bad}[spoilt], "the poisoned one")
			lists(t, w.s.Back.Frames(0), nil, "frames")
			lists(t, w.s.Back.Of(both), []api.Place{{Proc: 1, Page: 2}}, "who has it")
			if b, e := w.s.Load(1, 128, 4); e != api.OK || string(b) != "both" {
				t.Fatalf("Load of the other one: %q %d", b, e)
			}
		}
	}
}

func TestFork(t *testing.T) {
	w := begun(t, own(0, 5), shared(8, 2, 2, 4), private(4090, 6, 1, 10))
	w.stores(0, 0, "zero")
	w.stores(0, 64, "one")
	w.stores(0, 128, "two")
	w.out(0, 1)
	w.put(0, 2, api.Entry{Kind: api.Lost})
	w.load(0, 3*64, 1)
	w.stores(0, 8*64, "ours")
	w.stores(0, 4095*64, "mine")
	w.load(0, 4094*64, 1)
	anon := w.count(api.Anon)
	is(t, w.fork(0, 5), api.OK, "Fork")
	is(t, w.count(api.Anon), anon, "frames for bytes")
	lists(t, w.s.Areas(5), w.s.Areas(0), "Areas")
	for page := range api.MaxPages {
		a, e := w.s.Tree(0).Get(page)
		b, f := w.s.Tree(5).Get(page)
		if a != b || e != api.OK || f != api.OK {
			t.Fatalf("page %d: %v %d, %v %d", page, a, e, b, f)
		}
	}
	lists(t, w.s.Swap.Of(0), []api.Place{{Proc: 0, Page: 1}, {Proc: 5, Page: 1}}, "who holds the slot")
	_, f := w.image(0, 0)
	lists(t, w.s.Back.Of(f), []api.Place{{Proc: 0, Page: 0}, {Proc: 5, Page: 0}}, "who has page 0")
}

// TestForkThenStore: each of both sees what was, and what it stores itself; of Shared
// pages both see all.
func TestForkThenStore(t *testing.T) {
	for writer := range 2 {
		w := begun(t, own(0, 3), shared(8, 1, 2, 4), private(16, 2, 1, 0))
		w.stores(0, 0, "zero")
		w.stores(0, 64, "one")
		w.out(0, 1)
		w.stores(0, 16*64, "mine")
		is(t, w.fork(0, 1), api.OK, "Fork")
		other := 1 - writer
		w.stores(writer, 0, "Z")
		w.stores(writer, 65, "N")
		w.stores(writer, 130, "new")
		w.stores(writer, 8*64, "all")
		w.stores(writer, 16*64+1, "I")
		w.stores(writer, 17*64, "I")
		w.loads(writer, 0, "Zero\x00")
		w.loads(writer, 64, "oNe\x00")
		w.loads(writer, 128, "\x00\x00new\x00")
		w.loads(writer, 16*64, "mIne")
		w.loads(other, 0, "zero\x00")
		w.loads(other, 64, "one\x00")
		w.loads(other, 128, noughts(64))
		w.loads(other, 8*64, "all")
		w.loads(other, 16*64, "mine")
		w.loads(other, 17*64, "file 1 1")
		w.stores(other, 0, "other")
		w.loads(writer, 0, "Zero\x00")
	}
}

// TestForkTakesNoFrameBack: of a frame that others do not have any more a store makes no
// other one.
func TestForkTakesNoFrameBack(t *testing.T) {
	w := begun(t, own(0, 1))
	w.stores(0, 0, "zero")
	_, f := w.image(0, 0)
	is(t, w.fork(0, 1), api.OK, "Fork")
	w.stores(0, 0, "Zero")
	_, g := w.image(0, 0)
	w.stores(1, 0, "zerO")
	_, h := w.image(1, 0)
	if f == g || f != h {
		t.Fatalf("it was in frame %d: the first one that stores has %d, the other one %d", f, g, h)
	}
	is(t, w.count(api.Anon), 2, "frames")
}

func TestForkOfForks(t *testing.T) {
	w := begun(t, own(0, 2))
	w.stores(0, 0, "zero")
	w.stores(0, 64, "page")
	w.out(0, 1)
	for n := 1; n < 8; n++ {
		is(t, w.fork(n-1, n), api.OK, "Fork")
	}
	is(t, w.count(api.Anon), 1, "frames")
	for n := range 8 {
		w.stores(n, 0, told("", n))
		w.stores(n, 64, told("", n))
	}
	is(t, w.count(api.Anon), 16, "frames")
	for n := range 8 {
		w.loads(n, 0, told("", n)+"ro")
		w.loads(n, 64, told("", n)+"ge")
	}
}

// TestForkOfLost: it is lost in both, and each is told by itself; what waits already the
// other one does not have.
func TestForkOfLost(t *testing.T) {
	w := begun(t, own(0, 4))
	w.put(0, 3, api.Entry{Kind: api.Lost})
	w.tell(0, 77)
	is(t, w.fork(0, 1), api.OK, "Fork")
	if sig, e := w.signal(1); e != api.ErrNone {
		t.Fatalf("Signal of the new one: %v %d", sig, e)
	}
	if _, e := w.load(1, 3*64+5, 1); e != api.ErrPoison {
		t.Fatalf("Load: %d", e)
	}
	if sig, e := w.signal(1); e != api.OK || sig != (api.Sig{Proc: 1, At: 192}) {
		t.Fatalf("Signal: %v %d", sig, e)
	}
	if sig, e := w.signal(0); e != api.OK || sig != (api.Sig{Proc: 0, At: 77}) {
		t.Fatalf("Signal of the old one: %v %d", sig, e)
	}
	if sig, e := w.signal(0); e != api.ErrNone {
		t.Fatalf("Signal of the old one: %v %d", sig, e)
	}
}

// TestForkNoRoom: at each number of free frames that is too small nothing is changed.
func TestForkNoRoom(t *testing.T) {
	w := begun(t, own(0, 20), own(600, 1), own(4095, 1), private(64, 1, 0, 0))
	for _, page := range []int{0, 1, 7, 8, 19, 600, 4095} {
		w.stores(0, 64*page, told("page", page))
	}
	w.load(0, 64*64, 1)
	w.out(0, 7)
	w.put(0, 2, api.Entry{Kind: api.Lost})
	need := len(w.s.Tree(0).Tables())
	is(t, need, 14, "tables")
	for room := range need {
		w.leaveRoom(room, 9)
		is(t, w.fork(0, 3), api.ErrFull, told("Fork with room", room))
		is(t, w.fork(0, 0), api.ErrThere, "Fork to itself")
		is(t, w.fork(0, 8), api.ErrArg, "Fork to none")
	}
	w.leaveRoom(need, 0)
	is(t, w.fork(0, 3), api.OK, "Fork")
	is(t, w.count(api.Free), 0, "frames that are left")
	w.loads(3, 64*4095, "page 4095")
}

func TestForkWhichError(t *testing.T) {
	w := begun(t)
	w.start(6)
	for _, from := range append(noProcs(), 1, 7) {
		for _, to := range append(noProcs(), 0, 6, 2) {
			is(t, w.fork(from, to), api.ErrNone, "Fork of none")
		}
	}
	for _, to := range noProcs() {
		is(t, w.fork(6, to), api.ErrArg, told("Fork to", to))
	}
	is(t, w.fork(6, 0), api.ErrThere, "Fork to one that is there")
	is(t, w.fork(6, 6), api.ErrThere, "Fork to itself")
}

func TestForkOfPoisonedTables(t *testing.T) {
	for i := range 4 {
		w := begun(t, own(0, 4))
		w.stores(0, 0, "mine")
		w.s.Ram.Poison(w.s.Tree(0).Tables()[i])
		is(t, w.s.Fork(0, 1), api.ErrPoison, "Fork")
		lists(t, w.s.Procs(), []int{0}, "Procs")
		is(t, w.count(api.Table), 4, "tables")
		lists(t, w.s.Back.Frames(1), nil, "frames")
		is(t, w.count(api.Anon), 1, "frames for bytes")
	}
}

func TestMap(t *testing.T) {
	w := begun(t)
	a, b, c := own(5, 3), shared(8, 2, 3, 14), private(0, 5, 0, 0)
	for _, x := range []api.Area{a, b, c} {
		is(t, w.mapArea(0, x), api.OK, "Map")
	}
	lists(t, w.s.Areas(0), []api.Area{c, a, b}, "Areas")
	is(t, w.mapArea(0, own(4, 1)), api.ErrThere, "Map of what is there")
	is(t, w.mapArea(0, own(10, 0)), api.ErrArg, "Map of no page")
	is(t, w.mapArea(0, shared(10, 2, 3, 15)), api.ErrArg, "Map beyond a file's end")
	is(t, w.mapArea(0, api.Area{From: 10, Pages: 1}), api.ErrArg, "Map of no kind")
	for n := 3; n < api.MaxAreas; n++ {
		is(t, w.mapArea(0, own(10+n, 1)), api.OK, "Map")
	}
	is(t, w.mapArea(0, own(100, 1)), api.ErrFull, "Map of one too many")
	for _, n := range append(noProcs(), 1, 7) {
		is(t, w.mapArea(n, own(100, 1)), api.ErrNone, "Map of no process")
		is(t, w.mapArea(n, own(-1, 1)), api.ErrNone, "Map of no process, and wrong")
	}
}

// TestMapTakesNothing: what an area has comes when it is asked for.
func TestMapTakesNothing(t *testing.T) {
	w := begun(t, own(0, 512), shared(4000, 16, 0, 0))
	is(t, w.count(api.Free), 95, "Free")
	w.loads(0, 0, "\x00")
	is(t, w.count(api.Free), 91, "Free: a page and three tables are used")
}

func TestUnmap(t *testing.T) {
	w := begun(t, own(0, 6), private(6, 3, 2, 5), shared(20, 3, 2, 5))
	for page := range 9 {
		w.stores(0, 64*page, told("page", page))
	}
	for page := 20; page < 23; page++ {
		w.stores(0, 64*page, told("page", page))
	}
	w.out(0, 2)
	w.out(0, 3)
	w.put(0, 4, api.Entry{Kind: api.Lost})
	is(t, w.unmap(0, 3, 18), api.OK, "Unmap")
	lists(t, w.s.Areas(0), []api.Area{own(0, 3), shared(21, 2, 2, 6)}, "Areas")
	is(t, w.count(api.Anon), 2, "frames for bytes")
	is(t, w.count(api.Cache), 3, "frames of the file")
	is(t, w.s.Swap.Used(), 1, "slots")
	is(t, w.s.Cache.Dirty(cache.Key{File: 2, Page: 5}), true, "what was stored is dirty")
	for _, page := range []int{3, 4, 8, 20} {
		if _, e := w.load(0, 64*page, 1); e != api.ErrDenied {
			t.Fatalf("Load of page %d: %d", page, e)
		}
	}
	is(t, w.mapArea(0, own(3, 18)), api.OK, "Map")
	for page := 3; page < 21; page++ {
		w.loads(0, 64*page, noughts(64))
	}
	w.loads(0, 0, "page 0")
	w.loads(0, 128, "page 2")
	w.loads(0, 64*21, "page 21")
}

func TestUnmapAll(t *testing.T) {
	w := begun(t, own(0, 4096))
	for _, page := range []int{0, 63, 512, 2048, 4095} {
		w.stores(0, 64*page, "x")
	}
	is(t, w.unmap(0, 0, 4096), api.OK, "Unmap")
	is(t, w.count(api.Free), 95, "Free: the root alone is left")
	is(t, len(w.s.Areas(0)), 0, "Areas")
	is(t, w.unmap(0, 0, 4096), api.OK, "Unmap of nothing")
}

// TestUnmapOfOneOfTwo: who else has it goes on having it.
func TestUnmapOfOneOfTwo(t *testing.T) {
	w := begun(t, own(0, 2))
	w.stores(0, 0, "zero")
	w.stores(0, 64, "one")
	w.out(0, 1)
	is(t, w.fork(0, 1), api.OK, "Fork")
	is(t, w.unmap(0, 0, 2), api.OK, "Unmap")
	w.loads(1, 0, "zero")
	w.loads(1, 64, "one")
}

// TestUnmapBeyondAreas: a page that is in no area, and has something all the same, has
// nothing any more.
func TestUnmapBeyondAreas(t *testing.T) {
	w := begun(t, own(0, 1))
	w.put(0, 9, api.Entry{Kind: api.Slot, N: 4})
	w.put(0, 10, api.Entry{Kind: api.Lost})
	w.put(0, 11, api.Entry{Kind: api.Lost})
	is(t, w.unmap(0, 9, 2), api.OK, "Unmap")
	is(t, w.s.Swap.Used(), 0, "slots")
}

func TestUnmapRefused(t *testing.T) {
	w := begun(t, own(0, 3))
	for n := 1; n < api.MaxAreas; n++ {
		is(t, w.mapArea(0, own(10*n, 3)), api.OK, "Map")
	}
	w.stores(0, 11*64, "stays")
	is(t, w.unmap(0, 11, 1), api.ErrFull, "Unmap that leaves one area too many")
	for _, x := range [][2]int{{-1, 1}, {0, 0}, {0, -1}, {4096, 1}, {4095, 2}, {0, 4097}, {11, math.MaxInt}, {math.MinInt, 1}, {math.MaxInt, math.MaxInt}} {
		is(t, w.unmap(0, x[0], x[1]), api.ErrArg, "Unmap of pages that there are not")
		is(t, w.protect(0, x[0], x[1], false), api.ErrArg, "Protect of pages that there are not")
	}
	for _, n := range append(noProcs(), 1, 7) {
		is(t, w.unmap(n, 0, 1), api.ErrNone, "Unmap of no process")
		is(t, w.unmap(n, -1, 0), api.ErrNone, "Unmap of no process, and wrong")
		is(t, w.protect(n, 0, 1, true), api.ErrNone, "Protect of no process")
		is(t, w.protect(n, -1, 0, true), api.ErrNone, "Protect of no process, and wrong")
	}
	w.loads(0, 11*64, "stays")
}

// TestUnmapOfPoisonedTables: all that is to be unmapped stays, if one page of it can not
// be read.
func TestUnmapOfPoisonedTables(t *testing.T) {
	w := begun(t, own(0, 16))
	w.stores(0, 0, "stays")
	w.stores(0, 8*64, "is behind a poisoned table")
	_, first := w.image(0, 0)
	tables := w.s.Tree(0).Tables()
	w.s.Ram.Poison(tables[len(tables)-1])
	is(t, w.s.Unmap(0, 0, 16), api.ErrPoison, "Unmap")
	lists(t, w.s.Areas(0), []api.Area{own(0, 16)}, "Areas")
	lists(t, w.s.Back.Of(first), []api.Place{{}}, "who has page 0")
	if b, e := w.s.Load(0, 0, 5); e != api.OK || string(b) != "stays" {
		t.Fatalf("Load: %q %d", b, e)
	}
	is(t, w.s.Unmap(0, 0, 8), api.OK, "Unmap of the others")
	is(t, w.s.Put(api.Place{Page: 9}, api.Entry{}), api.ErrPoison, "Put behind it")
	if _, e := w.s.Load(0, 9*64, 1); e != api.ErrPoison {
		t.Fatalf("Load behind it: %d", e)
	}
	if sig, e := w.s.Signal(0); e != api.ErrNone {
		t.Fatalf("Signal: %v %d: none was told", sig, e)
	}
}

func TestProtect(t *testing.T) {
	w := begun(t, own(0, 3), shared(3, 2, 0, 0), private(5, 2, 0, 0))
	w.stores(0, 0, strings.Repeat("x", 64))
	is(t, w.protect(0, 1, 5, false), api.OK, "Protect")
	is(t, len(w.s.Areas(0)), 5, "areas")
	for page := range 7 {
		want := api.ErrDenied
		if page == 0 || page == 6 {
			want = api.OK
		}
		is(t, w.store(0, 64*page, "y"), want, told("Store of page", page))
		if _, e := w.load(0, 64*page, 64); e != api.OK {
			t.Fatalf("Load of page %d: %d", page, e)
		}
	}
	is(t, w.protect(0, 7, 9, true), api.ErrNone, "Protect of no area")
	is(t, w.protect(0, 0, 7, true), api.OK, "Protect back")
	for page := range 7 {
		w.stores(0, 64*page, "z")
	}
}

// TestDenied: what is in no area, or may not be written, is not brought into a frame, and
// whatever it has is not asked.
func TestDenied(t *testing.T) {
	w := begun(t, own(0, 1))
	is(t, w.mapArea(0, api.Area{From: 2, Pages: 3, Kind: api.Own}), api.OK, "Map")
	w.put(0, 1, api.Entry{Kind: api.Lost})
	w.put(0, 2, api.Entry{Kind: api.Lost})
	w.put(0, 3, api.Entry{Kind: api.Slot, N: 9})
	w.put(0, 5, api.Entry{Kind: api.Slot, N: 9})
	w.leaveRoom(0, 0)
	w.fail(0, 99)
	for _, page := range []int{1, 2, 3, 4, 5} {
		is(t, w.store(0, 64*page+1, "x"), api.ErrDenied, told("Store of page", page))
	}
	for _, page := range []int{1, 5, 4095} {
		if _, e := w.load(0, 64*page, 1); e != api.ErrDenied {
			t.Fatalf("Load of page %d: %d", page, e)
		}
	}
	if sig, e := w.signal(0); e != api.ErrNone {
		t.Fatalf("Signal: %v %d", sig, e)
	}
	for page, want := range map[int]api.Errno{2: api.ErrPoison, 3: api.ErrFull, 4: api.ErrFull} {
		if _, e := w.load(0, 64*page, 1); e != want {
			t.Fatalf("Load of page %d: %d, want %d", page, e, want)
		}
	}
}

func TestLoadArg(t *testing.T) {
	w := begun(t, own(0, 2), own(4094, 2))
	for _, x := range [][2]int{{0, -1}, {0, 65}, {0, math.MaxInt}, {0, math.MinInt}, {-1, 1}, {-1, 0}, {-64, 64}, {-1, 2}, {math.MinInt, 0}, {math.MinInt, 64},
		{262144, 1}, {262143, 2}, {262081, 64}, {262145, 0}, {1 << 32, 1}, {math.MaxInt, 0}, {math.MaxInt, 1}, {math.MaxInt, 64}, {math.MaxInt - 63, 64}, {math.MaxInt, math.MaxInt}} {
		b, e := w.s.Load(0, x[0], x[1])
		if b != nil || e != api.ErrArg {
			t.Fatalf("Load %d %d: %v %d", x[0], x[1], b, e)
		}
		b, e = w.s.Load(1, x[0], x[1])
		if b != nil || e != api.ErrNone {
			t.Fatalf("Load %d %d of no process: %v %d", x[0], x[1], b, e)
		}
		if x[1] < 0 || x[1] > 1000 {
			continue
		}
		is(t, w.s.Store(0, x[0], make([]byte, x[1])), api.ErrArg, told("Store", x[0], x[1]))
		is(t, w.s.Store(1, x[0], make([]byte, x[1])), api.ErrNone, told("Store of no process", x[0], x[1]))
	}
	w.same("refused")
	for _, at := range []int{0, 64, 262143, 262144, 100000} {
		w.loads(0, at, "")
		w.stores(0, at, "")
	}
	is(t, w.count(api.Anon), 0, "no bytes take no frame")
	for _, n := range append(noProcs(), 1, 7) {
		if b, e := w.s.Load(n, 0, 0); b != nil || e != api.ErrNone {
			t.Fatalf("Load of %d: %v %d", n, b, e)
		}
		is(t, w.s.Store(n, 0, nil), api.ErrNone, told("Store of", n))
	}
	w.stores(0, 262080, strings.Repeat("end.", 16))
	w.loads(0, 262143, ".")
	w.loads(0, 262080, strings.Repeat("end.", 16))
}

// TestEachPlaceAndCount: a load and a store of any number of bytes, from any place of a
// page on.
func TestEachPlaceAndCount(t *testing.T) {
	w := begun(t, own(0, 1), private(1, 1, 0, 7), shared(2, 1, 3, 15))
	image := noughts(64) + string(text("file", 0, 7)) + string(text("file", 3, 15))
	for at := range 128 {
		for _, n := range []int{0, 1, 2, 31, 62, 63, 64} {
			b := string(text("at", at, n))[:n]
			w.stores(0, at, b)
			image = image[:at] + b + image[at+n:]
			for from := 0; from <= 128; from += 64 {
				w.loads(0, from, image[from:from+64])
			}
			w.loads(0, max(at-1, 0), image[max(at-1, 0):][:64])
		}
	}
}

func TestOwn(t *testing.T) {
	w := begun(t, own(0, 3))
	w.start(1, own(0, 3))
	w.stores(0, 62, "abcd")
	w.loads(0, 61, "\x00abcd\x00")
	w.loads(1, 61, noughts(6))
	w.stores(1, 63, "B")
	w.loads(0, 62, "abcd")
	w.stores(0, 63, "xy")
	w.loads(0, 61, "\x00axyd\x00")
	w.loads(1, 61, "\x00\x00B\x00\x00")
}

// TestOwnIsZeroed: whatever the frame had.
func TestOwnIsZeroed(t *testing.T) {
	w := begun(t, own(0, 60))
	for range 3 {
		for page := range 60 {
			w.loads(0, 64*page, noughts(64))
			w.stores(0, 64*page, string(text("page", page)))
		}
		is(t, w.unmap(0, 0, 60), api.OK, "Unmap")
		is(t, w.mapArea(0, own(0, 60)), api.OK, "Map")
	}
}

func TestShared(t *testing.T) {
	w := begun(t, shared(0, 4, 1, 2), shared(100, 2, 1, 3))
	w.start(1, shared(7, 16, 1, 0))
	w.loads(0, 0, string(text("file", 1, 2)))
	w.loads(0, 64*101, string(text("file", 1, 4)))
	is(t, w.s.Cache.Dirty(cache.Key{File: 1, Page: 2}), false, "loaded: dirty")
	w.stores(0, 60, "12345678")
	w.loads(1, 64*9+60, "12345678")
	w.loads(0, 64*100, "5678")
	w.stores(1, 64*10, "abcd")
	w.loads(0, 60, "1234abcd")
	for page := range 16 {
		is(t, w.s.Cache.Dirty(cache.Key{File: 1, Page: page}), page == 2 || page == 3, told("dirty", page))
		b, e := file.Read(w.s.Disk, 1, page)
		if e != api.OK || string(b) != string(text("file", 1, page)) {
			t.Fatalf("the disk's page %d: %q %d", page, b, e)
		}
	}
	is(t, w.count(api.Anon), 0, "frames of its own")
	is(t, w.exit(0), api.OK, "Exit")
	is(t, w.exit(1), api.OK, "Exit")
	w.start(2, shared(0, 16, 1, 0))
	w.loads(2, 64*2+60, "1234abcd")
	w.fail(0, 1)
	w.loads(2, 64*3, "abcd")
	if _, e := w.load(2, 64*8, 1); e != api.ErrIO {
		t.Fatalf("Load of what is in no frame: %d", e)
	}
}

// TestSharedOfTwoPages: a store over two pages of a process that are one of a file.
func TestSharedOfTwoPages(t *testing.T) {
	w := begun(t, shared(0, 1, 0, 3), shared(1, 1, 0, 3), private(2, 1, 0, 3))
	w.stores(0, 60, "1234abcd")
	w.loads(0, 0, "abcd")
	w.loads(0, 124, "1234abcd")
	w.stores(0, 126, "yzYZ") // its own is the file's as it was ahead of the store
	w.loads(0, 62, "yzabcd")
	w.loads(0, 128, "YZcd")
	w.loads(0, 190, "34")
}

func TestPrivate(t *testing.T) {
	w := begun(t, private(0, 3, 1, 2))
	w.start(1, shared(0, 16, 1, 0), private(32, 16, 1, 0))
	w.loads(0, 0, string(text("file", 1, 2)))
	is(t, w.count(api.Anon), 0, "frames of its own")
	w.stores(1, 128, "all") // stored where others see it
	w.loads(0, 0, "all")
	w.loads(1, 34*64, "all")
	w.stores(0, 1, "ME")
	w.loads(0, 0, "aME")
	w.loads(1, 128, "all")
	w.loads(1, 34*64, "all")
	w.stores(1, 128, "ALL")
	w.loads(0, 0, "aME")
	w.loads(1, 34*64, "ALL")
	w.stores(1, 34*64+2, "x")
	w.loads(1, 34*64, "ALx")
	w.loads(1, 128, "ALL")
	w.stores(0, 64, "first") // nothing of it was loaded ahead
	w.loads(0, 64, "first"+string(text("file", 1, 3))[5:])
	w.loads(1, 3*64, string(text("file", 1, 3)))
	is(t, w.s.Cache.Dirty(cache.Key{File: 1, Page: 3}), false, "dirty")
	is(t, w.s.Cache.Dirty(cache.Key{File: 1, Page: 2}), true, "dirty")
}

// TestPrivateAlone: a frame of a file is nobody's to write, had by others or not.
func TestPrivateAlone(t *testing.T) {
	w := begun(t, private(0, 1, 0, 0))
	w.load(0, 0, 1)
	_, f := w.image(0, 0)
	w.stores(0, 0, "mine")
	_, g := w.image(0, 0)
	if f == g || w.s.Pool.Use(f) != api.Cache || w.s.Pool.Use(g) != api.Anon {
		t.Fatalf("from frame %d to %d", f, g)
	}
	w.stores(0, 2, "ne")
	if _, h := w.image(0, 0); h != g {
		t.Fatalf("a second store: from frame %d to %d", g, h)
	}
	is(t, w.unmap(0, 0, 1), api.OK, "Unmap")
	is(t, w.mapArea(0, private(0, 1, 0, 0)), api.OK, "Map")
	w.loads(0, 0, string(text("file", 0, 0)))
}

// TestEachFilePage: each page of each file, as an area's pages and Off tell it.
func TestEachFilePage(t *testing.T) {
	w := begun(t)
	for f := range api.MaxFiles {
		for off := range api.FilePages {
			for _, a := range []api.Area{shared(30, 16-off, f, off), private(60, 16-off, f, off)} {
				is(t, w.mapArea(0, a), api.OK, "Map")
				last := 64 * (a.From + a.Pages - 1)
				w.loads(0, 64*a.From, string(text("file", f, off)))
				w.loads(0, last, string(text("file", f, 15)))
				is(t, w.unmap(0, a.From, a.Pages), api.OK, "Unmap")
			}
		}
	}
	is(t, w.count(api.Cache), 64, "pages of files")
}

// TestOffGoesAlong: areas that were cut have the same pages of the file.
func TestOffGoesAlong(t *testing.T) {
	w := begun(t, shared(0, 10, 2, 3))
	is(t, w.unmap(0, 4, 2), api.OK, "Unmap")
	is(t, w.protect(0, 8, 1, false), api.OK, "Protect")
	for _, page := range []int{0, 3, 6, 7, 8, 9} {
		w.loads(0, 64*page, string(text("file", 2, 3+page)))
	}
}

func TestSlot(t *testing.T) {
	w := begun(t, own(0, 8))
	w.start(1, private(3, 2, 0, 0))
	w.put(0, 0, api.Entry{Kind: api.Slot, N: 7})
	w.put(0, 5, api.Entry{Kind: api.Slot, N: 7})
	w.put(1, 4, api.Entry{Kind: api.Slot, N: 7})
	w.put(1, 9, api.Entry{Kind: api.Slot, N: 7}) // in no area
	w.put(0, 1, api.Entry{Kind: api.Slot, N: 31})
	w.loads(1, 4*64, string(text("slot", 7)))
	_, f := w.image(1, 4)
	lists(t, w.s.Back.Of(f), []api.Place{{Proc: 0, Page: 0}, {Proc: 0, Page: 5}, {Proc: 1, Page: 4}, {Proc: 1, Page: 9}}, "who has it")
	is(t, w.s.Swap.Used(), 1, "slots")
	is(t, w.count(api.Anon), 1, "frames")
	w.stores(0, 0, "mine")
	w.loads(0, 0, "mine"+string(text("slot", 7))[4:])
	w.loads(0, 5*64, string(text("slot", 7)))
	w.loads(0, 64, string(text("slot", 31)))
}

// TestSlotToWrite: all have the frame, but for who stores, if there are others.
func TestSlotToWrite(t *testing.T) {
	w := begun(t, own(0, 8))
	w.put(0, 3, api.Entry{Kind: api.Slot, N: 5})
	w.stores(0, 3*64, "alone")
	is(t, w.count(api.Anon), 1, "frames")
	w.put(0, 0, api.Entry{Kind: api.Slot, N: 7})
	w.put(0, 1, api.Entry{Kind: api.Slot, N: 7})
	w.stores(0, 64, "two")
	is(t, w.count(api.Anon), 3, "frames")
	_, f := w.image(0, 0)
	lists(t, w.s.Back.Of(f), []api.Place{{}}, "who has it")
	w.loads(0, 0, "slot 7")
	w.put(0, 6, api.Entry{Kind: api.Slot, N: 8})
	w.put(0, 7, api.Entry{Kind: api.Slot, N: 8})
	w.stores(0, 6*64+60, "12345678") // both hold one slot
	w.loads(0, 6*64+60, "12345678")
	w.loads(0, 6*64, "slot 8")
	w.loads(0, 7*64+4, " 8")
}

// TestNoRoom: each kind of page, asked for with each small number of free frames.
func TestNoRoom(t *testing.T) {
	for _, at := range []int{0, 8, 16, 24, 32, 40, 48} {
		for _, write := range []bool{false, true} {
			for normal := range 7 {
				for movable := range 3 {
					w := many(t)
					w.leaveRoom(normal, movable)
					ask := func() api.Errno {
						if write {
							return w.store(0, 64*at+60, "across")
						}
						_, e := w.load(0, 64*at+60, 6)
						return e
					}
					for e := ask(); e != api.OK; e = ask() {
						is(t, e, api.ErrFull, "no room")
						w.giveBack()
					}
				}
			}
		}
	}
}

// many has process 0, and 1 that was forked from it, with two pages of each kind in a
// row: at 0 Own ones that have nothing, at 8 Private ones, at 16 Shared ones, at 24 ones
// that both have, at 32 ones out in slots, at 40 Private ones that stand in memory, at 48
// ones of which one is out and one has nothing.
func many(t *testing.T) *world {
	t.Helper()
	w := begun(t, own(0, 2), private(8, 2, 0, 0), shared(16, 2, 0, 4), own(24, 2), own(32, 2), private(40, 2, 0, 8), own(48, 2))
	w.stores(0, 24*64+60, "both had")
	w.stores(0, 32*64+60, "both out")
	w.stores(0, 48*64, "one of them")
	w.load(0, 40*64, 64)
	w.load(0, 41*64, 64)
	is(t, w.fork(0, 1), api.OK, "Fork")
	w.out(0, 32)
	w.out(0, 33)
	w.out(0, 48)
	return w
}

// TestNoRoomForTables: a page that finds a frame, and no tables, leaves nothing behind.
func TestNoRoomForTables(t *testing.T) {
	w := begun(t, own(0, 1), shared(600, 1, 0, 0), private(700, 1, 0, 1), private(4095, 1, 0, 0))
	for room := range 3 {
		w.leaveRoom(room, 5)
		for _, page := range []int{0, 600, 700} {
			if _, e := w.load(0, 64*page, 1); e != api.ErrFull {
				t.Fatalf("Load of page %d with %d frames: %d", page, room, e)
			}
			is(t, w.store(0, 64*page, "x"), api.ErrFull, "Store")
			is(t, w.count(api.Anon)+w.count(api.Cache), 0, "frames")
		}
	}
	w.leaveRoom(3, 5)
	w.loads(0, 64*600, "file 0 0")
	is(t, w.store(0, 64*4095, "x"), api.ErrFull, "Store of a page whose file's page is in memory")
	is(t, w.count(api.Cache), 1, "frames of the file")
}

// TestNoRoomOfTheOtherZone: bytes come into either zone, tables into one.
func TestNoRoomOfTheOtherZone(t *testing.T) {
	w := begun(t, own(0, 9))
	w.leaveRoom(4, 0)
	w.loads(0, 0, "\x00")
	is(t, w.s.Pool.Count(0, api.Anon), 1, "a Normal frame for bytes")
	w.leaveRoom(0, 7)
	for page := 1; page < 8; page++ {
		w.loads(0, 64*page, "\x00")
	}
	w.leaveRoom(0, 1)
	is(t, w.store(0, 64*8, "x"), api.ErrFull, "no frame for a table")
}

// TestIsolated: what is isolated, too, is given to nobody.
func TestIsolated(t *testing.T) {
	w := begun(t, own(0, 2))
	w.stores(0, 0, "in")
	is(t, w.s.Pool.Isolate(1, true), true, "Isolate")
	_, f := w.image(0, 0)
	is(t, f/32, 1, "its section")
	w.loads(0, 0, "in")
	w.stores(0, 64, "x")
	_, f = w.image(0, 1)
	is(t, f/32, 2, "the other one's section")
}

func TestDiskFails(t *testing.T) {
	w := begun(t, own(0, 8), shared(8, 4, 0, 0), private(16, 4, 0, 0))
	w.put(0, 0, api.Entry{Kind: api.Slot, N: 3})
	w.put(0, 1, api.Entry{Kind: api.Slot, N: 3})
	for _, page := range []int{0, 1, 8, 16} {
		w.fail(0, 2)
		if _, e := w.load(0, 64*page, 1); e != api.ErrIO {
			t.Fatalf("Load of page %d: %d", page, e)
		}
		is(t, w.store(0, 64*page, "x"), api.ErrIO, "Store")
		is(t, w.count(api.Anon)+w.count(api.Cache), 0, "frames")
	}
	w.stores(0, 3*64, "in memory")
	w.loads(0, 0, "slot 3")
	w.loads(0, 8*64, "file 0 0")
	w.fail(0, 9)
	w.loads(0, 0, "slot 3")
	w.loads(0, 64, "slot 3")
	w.loads(0, 8*64, "file 0 0")
	w.loads(0, 16*64, "file 0 0")
	w.stores(0, 3*64, "x")
	w.stores(0, 64, "x")
	w.stores(0, 8*64, "x")
	w.stores(0, 16*64, "x")
}

func TestPowerGoes(t *testing.T) {
	w := begun(t, own(0, 8), shared(8, 4, 0, 0))
	w.put(0, 0, api.Entry{Kind: api.Slot, N: 3})
	w.stores(0, 64, "in memory")
	w.s.Disk.Fuse(0)
	for _, page := range []int{0, 8} {
		if b, e := w.s.Load(0, 64*page, 1); b != nil || e != api.ErrDown {
			t.Fatalf("Load of page %d: %v %d", page, b, e)
		}
		is(t, w.s.Store(0, 64*page, []byte("x")), api.ErrDown, "Store")
	}
	w.same("the power is gone")
	w.loads(0, 64, "in memory")
}

func TestNoDisk(t *testing.T) {
	for _, d := range []*disk.Disk{nil, disk.New(0), disk.New(api.FileAt)} {
		p := pool.New()
		p.Online(0, api.Normal)
		s := New(ram.New(api.MaxFrames), d, p)
		is(t, s.Spawn(0), api.OK, "Spawn")
		is(t, s.Map(0, own(0, 2)), api.OK, "Map")
		is(t, s.Map(0, shared(2, 2, 0, 0)), api.OK, "Map")
		is(t, s.Store(0, 0, []byte("own")), api.OK, "Store")
		free := p.Count(0, api.Free)
		is(t, s.Store(0, 128, []byte("x")), api.ErrArg, "Store of a file's page")
		is(t, s.Put(api.Place{Page: 1}, api.Entry{Kind: api.Slot, N: 0}), api.OK, "Put")
		is(t, s.Store(0, 64, []byte("x")), api.ErrArg, "Store of a slot's page")
		is(t, p.Count(0, api.Free), free, "Free")
		if b, e := s.Load(0, 0, 3); e != api.OK || string(b) != "own" {
			t.Fatalf("Load: %q %d", b, e)
		}
	}
}

// TestWorks: how often the disk is asked: once for what comes in, and never if there is
// no frame.
func TestWorks(t *testing.T) {
	w := begun(t, own(0, 4), shared(8, 2, 0, 0), private(16, 2, 0, 0))
	w.put(0, 0, api.Entry{Kind: api.Slot, N: 3})
	w.put(0, 1, api.Entry{Kind: api.Slot, N: 4})
	w.leaveRoom(9, 0)
	w.eat(api.Normal, 9)
	w.s.Disk.Fuse(4)
	for _, page := range []int{0, 1, 8} {
		if _, e := w.load(0, 64*page, 1); e != api.ErrFull {
			t.Fatalf("Load of page %d: %d", page, e)
		}
	}
	w.giveBack()
	w.loads(0, 62, string(text("slot", 3))[62:]+"slo")
	w.loads(0, 8*64, "file 0 0")
	w.loads(0, 16*64, "file 0 0")
	w.loads(0, 17*64, "file 0 1")
	w.loads(0, 9*64, "file 0 1")
	if _, e := w.s.Disk.Read(0); e != api.ErrDown {
		t.Fatalf("a fifth work: %d", e)
	}
}

// TestInOrder: the pages on the way are asked for in order, up to the first that is
// refused.
func TestInOrder(t *testing.T) {
	w := begun(t, own(0, 2), own(4, 2))
	w.put(0, 1, api.Entry{Kind: api.Lost})
	w.put(0, 2, api.Entry{Kind: api.Lost}) // in no area
	w.put(0, 4, api.Entry{Kind: api.Lost})
	for at, want := range map[int]api.Errno{
		60:          api.ErrPoison, // there is a page ahead of the lost one
		64 + 60:     api.ErrPoison, // behind the lost one is one in no area
		3*64 + 60:   api.ErrDenied, // ahead of the lost one is one in no area
		5*64 + 60:   api.ErrDenied, // behind it is none
		4095*64 + 1: api.ErrDenied,
	} {
		if _, e := w.load(0, at, 8); e != want {
			t.Fatalf("Load of %d: %d, want %d", at, e, want)
		}
		is(t, w.store(0, at, "12345678"), want, told("Store of", at))
	}
	for i := range 4 {
		if sig, e := w.signal(0); e != api.OK || sig != (api.Sig{At: 64}) {
			t.Fatalf("signal %d: %v %d", i, sig, e)
		}
	}
	if sig, e := w.signal(0); e != api.ErrNone {
		t.Fatalf("a fifth signal: %v %d", sig, e)
	}
}

// TestRefusedStore: a store that is refused at its second page changes no byte of the
// first one, and makes nothing dirty.
func TestRefusedStore(t *testing.T) {
	for _, second := range []string{"none", "read", "lost", "slot", "full"} {
		for kind := api.Own; kind <= api.Private; kind++ {
			w := begun(t)
			first := api.Area{Pages: 1, Write: true, Kind: kind}
			is(t, w.mapArea(0, first), api.OK, "Map")
			before, _ := w.load(0, 0, 64)
			is(t, w.fork(0, 1), api.OK, "Fork")
			if second != "none" {
				is(t, w.mapArea(0, api.Area{From: 1, Pages: 1, Write: second != "read", Kind: api.Own}), api.OK, "Map")
			}
			switch second {
			case "lost":
				w.put(0, 1, api.Entry{Kind: api.Lost})
			case "slot":
				w.put(0, 1, api.Entry{Kind: api.Slot})
				w.fail(0, 1)
			case "full":
				w.leaveRoom(0, 0)
			}
			want := map[string]api.Errno{"none": api.ErrDenied, "read": api.ErrDenied, "lost": api.ErrPoison, "slot": api.ErrIO, "full": api.ErrFull}
			is(t, w.store(0, 60, "12345678"), want[second], "Store")
			is(t, w.s.Cache.Dirty(cache.Key{}), false, "dirty")
			w.loads(0, 0, before)
			w.loads(1, 0, before)
		}
	}
}

// TestPoisonedFrame: bytes that the memory does not have any more, while nobody knows it
// yet.
func TestPoisonedFrame(t *testing.T) {
	w := begun(t, own(0, 3))
	w.stores(0, 60, "12345678")
	_, f := w.image(0, 1)
	w.s.Ram.Poison(f)
	for _, at := range []int{60, 64} {
		if b, e := w.s.Load(0, at, 8); b != nil || e != api.ErrPoison {
			t.Fatalf("Load of %d: %q %d", at, b, e)
		}
		is(t, w.s.Store(0, at, []byte("abcdefgh")), api.ErrPoison, "Store")
	}
	if b, e := w.s.Load(0, 56, 8); e != api.OK || string(b) != "\x00\x00\x00\x001234" {
		t.Fatalf("Load: %q %d: no byte is changed", b, e)
	}
	if _, e := w.s.Signal(0); e != api.ErrNone {
		t.Fatalf("Signal: %d", e)
	}
	is(t, w.s.Fork(0, 1), api.OK, "Fork")
	free := w.count(api.Free)
	is(t, w.s.Store(1, 64, []byte("x")), api.ErrPoison, "Store of what both have")
	is(t, w.count(api.Free), free, "Free")
}

// TestPoisonedTable: a page that no table tells of any more takes no frame, and no work of
// the disk, ahead of that being known.
func TestPoisonedTable(t *testing.T) {
	for i := range 4 {
		w := begun(t, own(0, 4), shared(4, 2, 0, 0))
		w.stores(0, 0, "mine")
		tables := w.s.Tree(0).Tables()
		w.leaveRoom(0, 0)
		w.s.Disk.Fuse(0)
		w.s.Ram.Poison(tables[i])
		for _, page := range []int{0, 1, 4} {
			if b, e := w.s.Load(0, 64*page, 1); b != nil || e != api.ErrPoison {
				t.Fatalf("Load of page %d: %v %d", page, b, e)
			}
			is(t, w.s.Store(0, 64*page, []byte("x")), api.ErrPoison, "Store")
		}
		if _, e := w.s.Load(0, 9*64, 1); e != api.ErrDenied {
			t.Fatalf("Load of what is in no area: %d", e)
		}
		w.giveBack()
		is(t, w.s.Store(0, 4*64, []byte("x")), api.ErrPoison, "Store with room")
		is(t, w.count(api.Anon), 1, "frames for bytes")
		is(t, len(w.s.Cache.Keys(-1)), 0, "pages of files")
	}
}

// TestPoisonedFreeFrame: a frame that is given, and can not be filled, is Free again.
func TestPoisonedFreeFrame(t *testing.T) {
	w := begun(t, own(0, 8), shared(8, 1, 0, 0), private(9, 1, 0, 1))
	w.stores(0, 64, "both")
	is(t, w.fork(0, 1), api.OK, "Fork")
	w.load(0, 9*64, 1)
	w.put(0, 2, api.Entry{Kind: api.Slot, N: 1})
	f, e := w.s.Pool.Alloc(api.Anon, 0, true)
	is(t, e, api.OK, "Alloc")
	w.s.Pool.Free(f)
	w.s.Ram.Poison(f)
	for _, page := range []int{0, 1, 2, 8, 9} {
		is(t, w.s.Store(0, 64*page, []byte("x")), api.ErrPoison, told("Store of page", page))
		is(t, w.s.Pool.Use(f), api.Free, "its use")
		w.same("a poisoned frame")
	}
	w.s.Pool.Spoil(f)
	for _, page := range []int{0, 1, 2, 8, 9} {
		is(t, w.s.Store(0, 64*page, []byte("x")), api.OK, told("Store of page", page))
	}
	lists(t, w.s.Back.Of(f), nil, "who has it")
}

// TestSmallMemory: the pool has frames that the memory has not.
func TestSmallMemory(t *testing.T) {
	p := pool.New()
	p.Online(0, api.Normal)
	p.Online(1, api.Movable)
	s := New(ram.New(32), disk.New(api.DiskSectors), p)
	is(t, s.Spawn(0), api.OK, "Spawn")
	is(t, s.Map(0, own(0, 2)), api.OK, "Map")
	is(t, s.Map(0, shared(2, 2, 0, 0)), api.OK, "Map")
	is(t, s.Store(0, 0, []byte("x")), api.ErrArg, "Store")
	is(t, s.Store(0, 128, []byte("x")), api.ErrArg, "Store of a file's page")
	is(t, p.Count(1, api.Free), 32, "Free")
	is(t, len(s.Cache.Keys(-1)), 0, "pages of files")
	is(t, len(s.Tree(0).Tables()), 1, "tables")
}

func TestSignals(t *testing.T) {
	w := begun(t)
	w.start(5)
	for _, n := range append(noProcs(), 0, 1, 5) {
		if sig, e := w.signal(n); sig != (api.Sig{}) || e != api.ErrNone {
			t.Fatalf("Signal of %d: %v %d", n, sig, e)
		}
	}
	ats := []int{640, 0, -1, math.MinInt, math.MaxInt, 640, 1, 2, 3, 4, 5, 6, 7, 8, 9, 10, 11, 12}
	for _, at := range ats {
		w.tell(5, at)
	}
	w.tell(0, 99)
	for _, n := range noProcs() {
		w.tell(n, 1)
	}
	w.tell(1, 1)
	for _, at := range ats[:16] {
		if sig, e := w.signal(5); e != api.OK || sig != (api.Sig{Proc: 5, At: at}) {
			t.Fatalf("Signal: %v %d, want %d", sig, e, at)
		}
	}
	if sig, e := w.signal(5); e != api.ErrNone {
		t.Fatalf("a signal too many: %v %d", sig, e)
	}
	if sig, e := w.signal(0); e != api.OK || sig != (api.Sig{At: 99}) {
		t.Fatalf("Signal: %v %d", sig, e)
	}
	w.tell(5, 1)
	is(t, w.exit(5), api.OK, "Exit")
	if _, e := w.signal(5); e != api.ErrNone {
		t.Fatalf("Signal of none: %d", e)
	}
	w.start(5)
	if _, e := w.signal(5); e != api.ErrNone {
		t.Fatalf("Signal of a new one: %d", e)
	}
	is(t, len(w.s.Procs()), 2, "processes")
}

// TestLost: each load and store of a lost page is told by its first byte, as far as there
// is room.
func TestLost(t *testing.T) {
	w := begun(t, own(0, 2), private(4094, 2, 0, 0), shared(9, 1, 0, 0))
	pages := []int{1, 4095, 9}
	for _, page := range pages {
		w.put(0, page, api.Entry{Kind: api.Lost})
	}
	for i := range 9 {
		page := pages[i%3]
		if _, e := w.load(0, 64*page+i, 3); e != api.ErrPoison {
			t.Fatalf("Load of page %d: %d", page, e)
		}
		is(t, w.store(0, 64*page+i, "x"), api.ErrPoison, "Store")
	}
	for i := range 16 {
		sig, e := w.signal(0)
		if e != api.OK || sig != (api.Sig{At: 64 * pages[i/2%3]}) {
			t.Fatalf("signal %d: %v %d", i, sig, e)
		}
	}
	if _, e := w.signal(0); e != api.ErrNone {
		t.Fatalf("a signal too many: %d", e)
	}
	is(t, w.unmap(0, 1, 1), api.OK, "Unmap")
	is(t, w.mapArea(0, own(1, 1)), api.OK, "Map")
	w.loads(0, 64, noughts(64))
}

func TestPut(t *testing.T) {
	w := begun(t, own(0, 9))
	s, p := w.s, api.Place{Page: 3}
	f, _ := s.Pool.Alloc(api.Anon, 0, true)
	g, _ := s.Pool.Alloc(api.Anon, 0, true)
	put := func(e api.Entry, inF, inG []api.Place, used int) {
		t.Helper()
		is(t, s.Put(p, e), api.OK, told("Put", e.Kind, e.N))
		got, no := s.Tree(0).Get(3)
		if got != e || no != api.OK {
			t.Fatalf("Put of %v: it is %v %d", e, got, no)
		}
		lists(t, s.Back.Of(f), inF, told("Put: who has", f))
		lists(t, s.Back.Of(g), inG, told("Put: who has", g))
		is(t, s.Swap.Used(), used, "Put: slots")
	}
	me := []api.Place{p}
	put(api.Entry{Kind: api.Frame, N: f}, me, nil, 0)
	put(api.Entry{Kind: api.Frame, N: f}, me, nil, 0)
	put(api.Entry{Kind: api.Frame, N: f, Write: true}, me, nil, 0)
	put(api.Entry{Kind: api.Frame, N: f}, me, nil, 0)
	is(t, s.Pool.Use(f), api.Anon, "use of one that stays")
	put(api.Entry{Kind: api.Frame, N: g}, nil, me, 0)
	is(t, s.Pool.Use(f), api.Free, "use of one that nobody has")
	put(api.Entry{Kind: api.Slot, N: 4}, nil, nil, 1)
	is(t, s.Pool.Use(g), api.Free, "use of one that nobody has")
	lists(t, s.Swap.Of(4), me, "who holds slot 4")
	put(api.Entry{Kind: api.Slot, N: 4}, nil, nil, 1)
	put(api.Entry{Kind: api.Slot, N: 5}, nil, nil, 1)
	lists(t, s.Swap.Of(4), nil, "who holds slot 4")
	put(api.Entry{Kind: api.Lost}, nil, nil, 0)
	put(api.Entry{Kind: api.Lost}, nil, nil, 0)
	put(api.Entry{}, nil, nil, 0)
	is(t, len(s.Tree(0).Tables()), 1, "tables")
	put(api.Entry{}, nil, nil, 0)
}

// TestPutOfOtherUses: a frame that is not of use Anon keeps its use when nobody has it.
func TestPutOfOtherUses(t *testing.T) {
	w := begun(t, own(0, 9))
	for _, use := range []int{api.Table, api.Cache, api.Balloon, api.Bad, api.Free, api.NoFrame} {
		f := 900
		if use >= api.Table && use <= api.Balloon {
			f, _ = w.s.Pool.Alloc(use, 0, false)
		} else if use != api.NoFrame {
			f = 70
		}
		if use == api.Bad {
			w.s.Pool.Spoil(f)
			f = 70
		}
		had := w.s.Pool.Use(f)
		is(t, w.s.Put(api.Place{Page: 1}, api.Entry{Kind: api.Frame, N: f}), api.OK, "Put")
		lists(t, w.s.Back.Of(f), []api.Place{{Page: 1}}, "who has it")
		is(t, w.s.Put(api.Place{Page: 1}, api.Entry{}), api.OK, "Put of nothing")
		is(t, w.s.Pool.Use(f), had, told("use", f))
	}
}

func TestPutWrong(t *testing.T) {
	w := begun(t, own(0, 9))
	w.stores(0, 0, "x")
	w.put(0, 1, api.Entry{Kind: api.Slot, N: 3})
	w.put(0, 2, api.Entry{Kind: api.Lost})
	wrong := []api.Entry{{Kind: -1}, {Kind: 4}, {N: 1}, {Write: true}, {Kind: api.Frame, N: 1024}, {Kind: api.Frame, N: -1},
		{Kind: api.Slot, N: 32}, {Kind: api.Slot, N: -1}, {Kind: api.Slot, Write: true}, {Kind: api.Lost, N: 1}, {Kind: math.MaxInt, N: math.MinInt}}
	for _, e := range wrong {
		for _, page := range []int{0, 1, 2, 3, 4095} {
			is(t, w.s.Put(api.Place{Page: page}, e), api.ErrForm, told("Put", page, e.Kind, e.N))
		}
		is(t, w.s.Put(api.Place{Page: -1}, e), api.ErrArg, "Put of a wrong page")
		for _, n := range append(noProcs(), 1, 7) {
			is(t, w.s.Put(api.Place{Proc: n}, e), api.ErrNone, "Put of no process")
			is(t, w.s.Put(api.Place{Proc: n, Page: 9999}, e), api.ErrNone, "Put of no process, and a wrong page")
		}
	}
	for _, page := range []int{math.MinInt, -4096, -1, 4096, 8192, 1 << 32, math.MaxInt} {
		for _, e := range []api.Entry{{}, {Kind: api.Frame, N: 40}, {Kind: api.Slot, N: 4}, {Kind: api.Lost}} {
			is(t, w.s.Put(api.Place{Page: page}, e), api.ErrArg, told("Put", page))
		}
	}
	w.same("refused")
	for room := range 3 {
		w.leaveRoom(room, 3)
		_, f := w.image(0, 0)
		for _, e := range []api.Entry{{Kind: api.Frame, N: f}, {Kind: api.Slot, N: 4}, {Kind: api.Lost}} {
			is(t, w.s.Put(api.Place{Page: 2222}, e), api.ErrFull, "Put without room for tables")
			w.same("refused")
		}
		is(t, w.put(0, 2222, api.Entry{}), api.OK, "Put of nothing, without room for tables")
	}
}

// TestPutRoundTheTree: Back and Swap are by the entry, also where somebody set it in the
// tree himself.
func TestPutRoundTheTree(t *testing.T) {
	w := begun(t, own(0, 9))
	f, _ := w.s.Pool.Alloc(api.Anon, 0, true)
	p := []api.Place{{Page: 4}}
	for _, e := range []api.Entry{{Kind: api.Frame, N: f}, {Kind: api.Slot, N: 6}} {
		is(t, w.s.Tree(0).Set(4, e), api.OK, "Set")
		is(t, w.s.Put(p[0], e), api.OK, "Put")
		if e.Kind == api.Frame {
			lists(t, w.s.Back.Of(f), p, "who has the frame")
		} else {
			lists(t, w.s.Swap.Of(6), p, "who holds the slot")
		}
		is(t, w.s.Put(p[0], api.Entry{}), api.OK, "Put of nothing")
	}
	w.loads(0, 0, "\x00")
}

func TestTreeAndAreasOfNone(t *testing.T) {
	w := begun(t, own(0, 1))
	w.start(4)
	for _, n := range append(noProcs(), 1, 7) {
		if w.s.Tree(n) != nil || w.s.Areas(n) != nil {
			t.Fatalf("%d: %v, %v", n, w.s.Tree(n), w.s.Areas(n))
		}
	}
	a, b := w.s.Tree(0), w.s.Tree(4)
	if a == nil || b == nil || a == b || a != w.s.Tree(0) {
		t.Fatal("each process has a tree")
	}
	is(t, len(w.s.Areas(4)), 0, "areas")
}

func TestNothingHandedInIsKept(t *testing.T) {
	w := begun(t, own(0, 2), shared(4, 1, 0, 0))
	room := []byte("12345678rest")
	b := room[:8]
	for _, at := range []int{60, 4 * 64} {
		is(t, w.s.Store(0, at, b), api.OK, "Store")
	}
	is(t, string(room), "12345678rest", "what was handed in")
	copy(room, "XXXXXXXXXXXX")
	for _, at := range []int{60, 4 * 64} {
		if got, e := w.s.Load(0, at, 8); e != api.OK || string(got) != "12345678" {
			t.Fatalf("Load: %q %d", got, e)
		}
	}
}

func TestAnswersAreNew(t *testing.T) {
	w := begun(t, own(0, 2), shared(4, 1, 0, 0))
	w.start(3)
	w.stores(0, 60, "12345678")
	for _, at := range []int{0, 60} {
		b, _ := w.s.Load(0, at, 64)
		c, _ := w.s.Load(0, at, 64)
		want := string(c)
		for i := range b {
			b[i] = 'X'
		}
		is(t, string(c), want, "another answer")
		w.loads(0, at, want)
	}
	a := w.s.Areas(0)
	is(t, w.fork(0, 1), api.OK, "Fork")
	for i := range a {
		a[i] = api.Area{From: 9}
	}
	lists(t, w.s.Areas(0), []api.Area{own(0, 2), shared(4, 1, 0, 0)}, "Areas")
	a = w.s.Areas(1)
	a[0].Pages = 77
	_ = append(a[:1], own(9, 9))
	lists(t, w.s.Areas(1), []api.Area{own(0, 2), shared(4, 1, 0, 0)}, "Areas of the other one")
	lists(t, w.s.Areas(0), []api.Area{own(0, 2), shared(4, 1, 0, 0)}, "Areas")
	procs := w.s.Procs()
	procs[0] = 99
	lists(t, w.s.Procs(), []int{0, 1, 3}, "Procs")
}

// TestNil: a nil Space has no processes, and one that New did not make has none either.
func TestNil(t *testing.T) {
	for _, s := range []*Space{nil, {}, New(nil, nil, nil)} {
		for _, n := range append(noProcs(), 0, 7) {
			is(t, s.Spawn(n), api.ErrArg, "Spawn")
			is(t, s.Exit(n), api.ErrNone, "Exit")
			is(t, s.Fork(n, 1), api.ErrNone, "Fork")
			is(t, s.Map(n, own(0, 1)), api.ErrNone, "Map")
			is(t, s.Unmap(n, 0, 1), api.ErrNone, "Unmap")
			is(t, s.Protect(n, 0, 1, true), api.ErrNone, "Protect")
			is(t, s.Store(n, 0, []byte("x")), api.ErrNone, "Store")
			is(t, s.Put(api.Place{Proc: n}, api.Entry{}), api.ErrNone, "Put")
			b, e := s.Load(n, 0, 1)
			sig, f := s.Signal(n)
			if b != nil || e != api.ErrNone || sig != (api.Sig{}) || f != api.ErrNone {
				t.Fatalf("%v %d, %v %d", b, e, sig, f)
			}
			s.Tell(n, 0)
			if s.Tree(n) != nil || s.Areas(n) != nil || len(s.Procs()) != 0 {
				t.Fatal("there is a process")
			}
		}
	}
}

// TestNotMadeByNew: what it names is used, and what it does not name asks nobody.
func TestNotMadeByNew(t *testing.T) {
	p := pool.New()
	p.Online(0, api.Normal)
	m, d := ram.New(32), disk.New(api.DiskSectors)
	for _, s := range []*Space{{Ram: m, Disk: d, Pool: p, Back: back.New(), Cache: cache.New(), Swap: swap.New()}, {Ram: m, Pool: p}} {
		is(t, s.Spawn(0), api.OK, "Spawn")
		is(t, s.Map(0, own(0, 2)), api.OK, "Map")
		is(t, s.Store(0, 60, []byte("12345678")), api.OK, "Store")
		is(t, s.Fork(0, 1), api.OK, "Fork")
		s.Map(0, shared(8, 1, 0, 0))
		s.Put(api.Place{Page: 1}, api.Entry{Kind: api.Slot})
		s.Load(0, 64, 1)
		s.Store(0, 8*64, []byte("x"))
		is(t, s.Exit(0), api.OK, "Exit")
		is(t, s.Exit(1), api.OK, "Exit")
	}
}

// TestTwoSpaces: two over one memory, one disk and one pool have frames of their own.
func TestTwoSpaces(t *testing.T) {
	w := begun(t, own(0, 2))
	o := New(w.s.Ram, w.s.Disk, w.s.Pool)
	w.stores(0, 0, "first")
	is(t, o.Spawn(0), api.OK, "Spawn")
	is(t, o.Map(0, own(0, 2)), api.OK, "Map")
	is(t, o.Store(0, 0, []byte("other")), api.OK, "Store")
	if b, e := w.s.Load(0, 0, 5); e != api.OK || string(b) != "first" {
		t.Fatalf("Load: %q %d", b, e)
	}
	is(t, o.Exit(0), api.OK, "Exit")
	w.same("the other one is gone")
}

// TestOthersUseWhatItNames: a Space goes by what it names, as others change that.
func TestOthersUseWhatItNames(t *testing.T) {
	w := begun(t, shared(0, 4, 0, 0), own(8, 4))
	k := cache.Key{Page: 2}
	f, _ := w.s.Pool.Alloc(api.Cache, 0, true)
	w.s.Ram.Write(f, 0, text("put there"))
	is(t, w.s.Cache.Put(k, f), true, "Put")
	if b, e := w.s.Load(0, 128, 9); e != api.OK || string(b) != "put there" {
		t.Fatalf("Load: %q %d", b, e)
	}
	lists(t, w.s.Back.Of(f), []api.Place{{Page: 2}}, "who has it")
	is(t, w.s.Store(0, 128, []byte("x")), api.OK, "Store")
	is(t, w.s.Cache.Dirty(k), true, "dirty")
	w.s.Cache.Mark(k, false)
	is(t, w.s.Store(0, 128, []byte("y")), api.OK, "Store")
	is(t, w.s.Cache.Dirty(k), true, "dirty again")
	var tr *tree.Tree = w.s.Tree(0)
	is(t, tr.Set(8, api.Entry{Kind: api.Lost}), api.OK, "Set")
	if _, e := w.s.Load(0, 8*64, 1); e != api.ErrPoison {
		t.Fatalf("Load of what was set: %d", e)
	}
	is(t, slices.Contains(tr.Tables(), f), false, "Tables")
}
