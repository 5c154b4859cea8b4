package hurt

import (
	"headland/api"
	"headland/cache"
	"headland/disk"
	"headland/evict"
	"headland/file"
	"headland/pool"
	"headland/ram"
	"headland/space"
	"math"
	"slices"
	"testing"
)

// noFrames are numbers of what a space's memory has not; some are those of what it has in
// their lowest bits alone.
func noFrames() []int {
	return []int{math.MinInt, math.MinInt + 1, -1 << 32, -1024, -frames, -32, -1, frames, frames + 1, 1023, 1024, 2048, 1 << 32, 1<<32 + 1, 1 << 62, math.MaxInt}
}

// The areas of a process that start makes: the pages 0 to 7 and 4091 to 4095 are its own, 8
// to 11 and 12 to 15 the same four pages of file 1, from its page 6 on.
const (
	sharedAt  = 8
	privateAt = 12
	theFile   = 1
	theOff    = 6
)

// key is the page of the file that stands at a page of the areas.
func key(n int) cache.Key {
	return cache.Key{File: theFile, Page: theOff + n}
}

// onDisk is that page as the disk has it at first.
func onDisk(n int) string {
	return text("sector", api.FileAt+theFile*api.FilePages+theOff+n)
}

// begun has process 0, with areas of each kind.
func begun(t *testing.T) *space.Space {
	t.Helper()
	s := newSpace(t)
	start(t, s, 0)
	return s
}

// start makes a process with areas of each kind.
func start(t *testing.T, s *space.Space, n int) {
	t.Helper()
	is(t, s.Spawn(n), api.OK, told("Spawn", n))
	for _, a := range []api.Area{
		{Pages: 8, Write: true, Kind: api.Own},
		{From: sharedAt, Pages: 4, Write: true, Kind: api.Shared, File: theFile, Off: theOff},
		{From: privateAt, Pages: 4, Write: true, Kind: api.Private, File: theFile, Off: theOff},
		{From: 4091, Pages: 5, Write: true, Kind: api.Own},
	} {
		is(t, s.Map(n, a), api.OK, told("Map", n, a.From))
	}
}

// stores makes a page begin with a text.
func stores(t *testing.T, s *space.Space, n, page int, b string) {
	t.Helper()
	is(t, s.Store(n, 64*page, []byte(b)), api.OK, told("Store", n, page))
}

// loads fails if a page does not begin with a text.
func loads(t *testing.T, s *space.Space, n, page int, want string) {
	t.Helper()
	b, e := s.Load(n, 64*page, len(want))
	is(t, e, api.OK, told("Load", n, page))
	is(t, string(b), want, told("Load", n, page))
}

// lost fails if a page is not lost.
func lost(t *testing.T, s *space.Space, n, page int) {
	t.Helper()
	e, no := s.Tree(n).Get(page)
	is(t, no, api.OK, told("Get", n, page))
	is(t, e, api.Entry{Kind: api.Lost}, told("the entry of", n, page))
	_, no = s.Load(n, 64*page+5, 1)
	is(t, no, api.ErrPoison, told("Load", n, page))
	is(t, s.Store(n, 64*page+5, []byte("x")), api.ErrPoison, told("Store", n, page))
}

// waits fails if other signals wait for a process than those of some pages. They do not
// wait any more.
func waits(t *testing.T, s *space.Space, n int, pages ...int) {
	t.Helper()
	for _, page := range pages {
		g, e := s.Signal(n)
		is(t, e, api.OK, told("Signal", n))
		is(t, g, api.Sig{Proc: n, At: 64 * page}, told("Signal", n))
	}
	_, e := s.Signal(n)
	is(t, e, api.ErrNone, told("a signal more", n))
}

// frame is the one that a page has.
func frame(t *testing.T, s *space.Space, n, page int) int {
	t.Helper()
	e, no := s.Tree(n).Get(page)
	if no != api.OK || e.Kind != api.Frame {
		t.Fatalf("%d %d: %v %d, want a frame", n, page, e, no)
	}
	return e.N
}

// poisoned poisons a frame, which must be done, without anybody being killed.
func poisoned(t *testing.T, s *space.Space, f int, used bool) {
	t.Helper()
	killed, e := poisons(t, s, f, used)
	is(t, e, api.OK, told("Poison", f))
	is(t, len(killed), 0, told("killed", f))
}

// taken takes a frame for a use.
func taken(t *testing.T, s *space.Space, use int, movable bool) int {
	t.Helper()
	f, e := s.Pool.Alloc(use, 0, movable)
	is(t, e, api.OK, told("Alloc", use))
	return f
}

// fill takes all Free frames away but so many, and answers those that are taken.
func fill(t *testing.T, s *space.Space, left int) []int {
	t.Helper()
	var list []int
	for {
		f, e := s.Pool.Alloc(api.Balloon, 0, true)
		if e != api.OK {
			break
		}
		list = append(list, f)
	}
	for _, f := range list[len(list)-left:] {
		is(t, s.Pool.Free(f), true, "Free")
	}
	return list
}

// never fails if a frame is given to somebody, or can be had in another way.
func never(t *testing.T, s *space.Space, f int) {
	t.Helper()
	is(t, slices.Contains(fill(t, s, 0), f), false, told("given", f))
	is(t, s.Pool.Free(f), false, told("Free", f))
	is(t, s.Pool.Use(f), api.Bad, told("the use of", f))
}

func TestExample(t *testing.T) {
	s := newSpace(t)
	killed, e := Poison(s, 5, false)
	is(t, e, api.OK, "Poison")
	is(t, len(killed), 0, "killed")
	is(t, s.Pool.Use(5), api.Bad, "its use")
	is(t, s.Ram.Bad(5), true, "poisoned")
}

// TestPoisonOfFree: of each frame that nobody has, whatever zone it is of.
func TestPoisonOfFree(t *testing.T) {
	for _, used := range []bool{false, true} {
		s := begun(t)
		stores(t, s, 0, 3, "mine")
		for _, f := range []int{1, 31, 40, 63, 64, 127} {
			poisoned(t, s, f, used)
		}
		waits(t, s, 0)
		loads(t, s, 0, 3, "mine")
		for _, f := range []int{1, 31, 40, 63, 64, 127} {
			never(t, s, f)
		}
	}
}

// TestPoisonOfNoFrame: a frame that is bad is so when its section comes on line, and when it
// goes and comes again.
func TestPoisonOfNoFrame(t *testing.T) {
	s := begun(t)
	for _, f := range []int{128, 140, 159} {
		poisoned(t, s, f, f == 140)
	}
	is(t, softs(t, s, 130), api.OK, "Soft")
	for _, zone := range []int{api.Movable, api.Normal} {
		is(t, s.Pool.Online(4, zone), api.OK, "Online")
		is(t, s.Pool.Count(4, api.Free), 28, "Free ones")
		is(t, s.Pool.Count(4, api.Bad), 4, "Bad ones")
		for _, f := range []int{128, 140, 159} {
			bad(t, s, f, true)
		}
		bad(t, s, 130, false)
		is(t, s.Pool.Offline(4), api.OK, "Offline")
		is(t, s.Pool.Count(4, api.Bad), 4, "Bad ones")
	}
}

// TestPoisonOfBalloon: the frame is the balloon's no more, and nothing else is changed.
func TestPoisonOfBalloon(t *testing.T) {
	s := begun(t)
	stores(t, s, 0, 3, "mine")
	f, g := taken(t, s, api.Balloon, true), taken(t, s, api.Balloon, true)
	poisoned(t, s, f, true)
	is(t, s.Pool.Use(g), api.Balloon, "the other one")
	is(t, s.Pool.Free(g), true, "Free")
	waits(t, s, 0)
	loads(t, s, 0, 3, "mine")
	never(t, s, f)
}

// TestPoisonOfTable: whichever table it is, the process is gone, with what it had alone;
// nobody else loses a byte.
func TestPoisonOfTable(t *testing.T) {
	for which := range 8 {
		s := begun(t)
		stores(t, s, 0, 3, "ours")
		stores(t, s, 0, 4, "out")
		stores(t, s, 0, 4095, "far")
		stores(t, s, 0, sharedAt, "written")
		is(t, s.Fork(0, 7), api.OK, "Fork")
		is(t, s.Fork(0, 2), api.OK, "Fork")
		is(t, evict.Out(s, 2, 4), api.OK, "Out")
		stores(t, s, 2, 5, "mine")
		stores(t, s, 2, 6, "mine, and out")
		is(t, evict.Out(s, 2, 6), api.OK, "Out")
		s.Tell(2, 64)
		is(t, len(s.Tree(2).Tables()), 8, "tables")
		f, mine := s.Tree(2).Tables()[which], frame(t, s, 2, 5)
		killed, e := poisons(t, s, f, which%2 == 0)
		is(t, e, api.OK, "Poison")
		are(t, killed, []int{2}, "killed")
		are(t, s.Procs(), []int{0, 7}, "Procs")
		is(t, s.Pool.Use(mine), api.Free, "what it had alone")
		is(t, s.Swap.Used(), 1, "slots")
		_, e = s.Load(2, 0, 1)
		is(t, e, api.ErrNone, "Load of nobody")
		for _, n := range []int{0, 7} {
			waits(t, s, n)
			loads(t, s, n, 3, "ours")
			loads(t, s, n, 4, "out")
			loads(t, s, n, 4095, "far")
			loads(t, s, n, privateAt, "written")
		}
		is(t, s.Cache.Dirty(key(0)), true, "dirty")
		start(t, s, 2)
		loads(t, s, 2, 5, string(make([]byte, 64)))
		waits(t, s, 2)
		never(t, s, f)
	}
}

// TestPoisonOfRoot: a process that has nothing but its root is gone, too; each by itself.
func TestPoisonOfRoot(t *testing.T) {
	s := newSpace(t)
	for n := range api.MaxProcs {
		is(t, s.Spawn(n), api.OK, "Spawn")
	}
	for i, n := range []int{7, 0, 3, 1, 2, 6, 5, 4} {
		killed, e := poisons(t, s, s.Tree(n).Tables()[0], false)
		is(t, e, api.OK, "Poison")
		are(t, killed, []int{n}, "killed")
		is(t, len(s.Procs()), api.MaxProcs-1-i, "processes")
	}
	is(t, s.Pool.Count(1, api.Bad), api.MaxProcs, "bad frames")
}

// TestPoisonOfNobodysTable: a table of no process that is there kills nobody.
func TestPoisonOfNobodysTable(t *testing.T) {
	s := begun(t)
	poisoned(t, s, taken(t, s, api.Table, false), true)
	is(t, s.Spawn(1), api.OK, "Spawn")
	root := s.Tree(1).Tables()[0]
	is(t, s.Exit(1), api.OK, "Exit")
	poisoned(t, s, root, true)
	are(t, s.Procs(), []int{0}, "Procs")
}

// TestPoisonOfClean: nobody loses a byte of a page of a file that is on the disk, and
// nobody is told.
func TestPoisonOfClean(t *testing.T) {
	for _, used := range []bool{false, true} {
		s := begun(t)
		start(t, s, 6)
		stores(t, s, 0, sharedAt, "written")
		is(t, evict.Sync(s, theFile), api.OK, "Sync")
		loads(t, s, 6, privateAt, "written")
		loads(t, s, 0, sharedAt+1, onDisk(1))
		loads(t, s, 0, privateAt+1, onDisk(1))
		is(t, s.Fork(0, 2), api.OK, "Fork")
		stores(t, s, 6, privateAt+1, "mine")
		for page := range 2 {
			poisoned(t, s, frame(t, s, 0, sharedAt+page), used)
			_, ok := s.Cache.Frame(key(page))
			is(t, ok, false, "it is in a frame")
		}
		for _, n := range []int{0, 2, 6} {
			waits(t, s, n)
			loads(t, s, n, sharedAt, "written"+onDisk(0)[7:])
			loads(t, s, n, privateAt, "written"+onDisk(0)[7:])
			loads(t, s, n, sharedAt+1, onDisk(1))
			waits(t, s, n)
		}
		loads(t, s, 6, privateAt+1, "mine"+onDisk(1)[4:])
		loads(t, s, 2, privateAt+1, onDisk(1))
	}
}

// TestPoisonOfCleanIsReadAnew: the bytes come from the disk as it is, when they are asked
// for, and not ahead of that.
func TestPoisonOfCleanIsReadAnew(t *testing.T) {
	s := begun(t)
	loads(t, s, 0, sharedAt+2, onDisk(2))
	poisoned(t, s, frame(t, s, 0, sharedAt+2), true)
	is(t, file.Write(s.Disk, theFile, theOff+2, []byte(text("another", 1))), api.OK, "Write")
	s.Disk.Fail(0, 1)
	_, e := s.Load(0, 64*(sharedAt+2), 1)
	is(t, e, api.ErrIO, "Load, and the disk fails")
	loads(t, s, 0, sharedAt+2, text("another", 1))
	stores(t, s, 0, sharedAt+2, "stored")
	is(t, s.Cache.Dirty(key(2)), true, "dirty")
}

// TestPoisonOfCleanLeavesNoTables: a process that has nothing any more but its areas has its
// root alone.
func TestPoisonOfCleanLeavesNoTables(t *testing.T) {
	s := begun(t)
	loads(t, s, 0, privateAt+3, onDisk(3))
	is(t, len(s.Tree(0).Tables()), 4, "tables")
	poisoned(t, s, frame(t, s, 0, privateAt+3), false)
	is(t, len(s.Tree(0).Tables()), 1, "tables")
	is(t, len(s.Areas(0)), 4, "areas")
	loads(t, s, 0, privateAt+3, onDisk(3))
}

// TestPoisonOfNoPage: a frame of use Cache in which no page of a file stands has nothing
// that could be lost, whichever other page is dirty.
func TestPoisonOfNoPage(t *testing.T) {
	s := begun(t)
	is(t, s.Map(0, api.Area{From: 16, Pages: 2, Write: true, Kind: api.Shared}), api.OK, "Map")
	stores(t, s, 0, 16, "page 0 of file 0")
	is(t, s.Cache.Dirty(cache.Key{}), true, "dirty")
	f := taken(t, s, api.Cache, true)
	is(t, s.Put(api.Place{Page: 17}, api.Entry{Kind: api.Frame, N: f}), api.OK, "Put")
	poisoned(t, s, f, true)
	waits(t, s, 0)
	loads(t, s, 0, 17, text("sector", 97))
	loads(t, s, 0, 16, "page 0 of file 0")
	poisoned(t, s, taken(t, s, api.Anon, true), true)
	waits(t, s, 0)
}

// TestPoisonOfDirty: what was not written of a file is gone: whoever had the page finds it
// lost, who had it not reads what is on the disk.
func TestPoisonOfDirty(t *testing.T) {
	for _, used := range []bool{false, true} {
		s := begun(t)
		for _, n := range []int{4, 6} {
			start(t, s, n)
		}
		stores(t, s, 0, sharedAt+1, "written")
		stores(t, s, 0, sharedAt+2, "kept")
		loads(t, s, 4, privateAt+1, "written")
		loads(t, s, 4, sharedAt+1, "written")
		is(t, s.Fork(0, 2), api.OK, "Fork")
		stores(t, s, 2, privateAt+1, "mine")
		poisoned(t, s, frame(t, s, 0, sharedAt+1), used)
		_, ok := s.Cache.Frame(key(1))
		is(t, ok, false, "it is in a frame")
		is(t, s.Cache.Dirty(key(1)), false, "dirty")
		if used {
			waits(t, s, 0, sharedAt+1)
			waits(t, s, 2, sharedAt+1)
			waits(t, s, 4, sharedAt+1, privateAt+1)
		}
		for _, n := range []int{0, 2, 4, 6} {
			waits(t, s, n)
		}
		for _, p := range []api.Place{{Proc: 0, Page: sharedAt + 1}, {Proc: 2, Page: sharedAt + 1}, {Proc: 4, Page: sharedAt + 1}, {Proc: 4, Page: privateAt + 1}} {
			lost(t, s, p.Proc, p.Page)
			waits(t, s, p.Proc, p.Page, p.Page)
		}
		loads(t, s, 6, sharedAt+1, onDisk(1))
		loads(t, s, 0, privateAt+1, onDisk(1))
		loads(t, s, 2, privateAt+1, "mine"+("written" + onDisk(1)[7:])[4:])
		loads(t, s, 6, sharedAt+2, "kept")
		is(t, evict.Sync(s, theFile), api.OK, "Sync")
		b, _ := file.Read(s.Disk, theFile, theOff+1)
		is(t, string(b), onDisk(1), "what is on the disk")
	}
}

// TestPoisonOfNobodysFile: a page of a file that nobody has any more is in no frame, and
// what was not written of it is gone.
func TestPoisonOfNobodysFile(t *testing.T) {
	s := begun(t)
	stores(t, s, 0, sharedAt, "written")
	loads(t, s, 0, sharedAt+1, onDisk(1))
	f, g := frame(t, s, 0, sharedAt), frame(t, s, 0, sharedAt+1)
	is(t, s.Exit(0), api.OK, "Exit")
	poisoned(t, s, f, true)
	poisoned(t, s, g, true)
	is(t, len(s.Cache.Keys(-1)), 0, "pages in frames")
	start(t, s, 0)
	loads(t, s, 0, sharedAt, onDisk(0))
	loads(t, s, 0, sharedAt+1, onDisk(1))
}

// TestPoisonOfAnon: whoever had the frame finds the page lost, and nobody else; of these
// each place is told, if it is being used.
func TestPoisonOfAnon(t *testing.T) {
	for _, used := range []bool{false, true} {
		for _, page := range []int{0, 3, 7, 4091, 4095} {
			s := begun(t)
			stores(t, s, 0, page, "ours")
			stores(t, s, 0, 1, "kept")
			f := frame(t, s, 0, page)
			is(t, s.Fork(0, 2), api.OK, "Fork")
			is(t, s.Fork(2, 1), api.OK, "Fork")
			is(t, s.Fork(2, 4), api.OK, "Fork")
			is(t, s.Put(api.Place{Proc: 1, Page: 5}, api.Entry{Kind: api.Frame, N: f, Write: true}), api.OK, "Put")
			stores(t, s, 4, page, "mine")
			s.Tell(0, 9999)
			poisoned(t, s, f, used)
			g, e := s.Signal(0)
			is(t, e, api.OK, "Signal")
			is(t, g, api.Sig{At: 9999}, "the one that waited")
			if used {
				waits(t, s, 0, page)
				waits(t, s, 1, min(page, 5), max(page, 5))
				waits(t, s, 2, page)
			}
			for n := range 3 {
				waits(t, s, n)
				lost(t, s, n, page)
				waits(t, s, n, page, page)
				loads(t, s, n, 1, "kept")
			}
			lost(t, s, 1, 5)
			waits(t, s, 4)
			loads(t, s, 4, page, "mine")
			is(t, s.Fork(0, 3), api.OK, "Fork of what is lost")
			lost(t, s, 3, page)
			never(t, s, f)
		}
	}
}

// TestPoisonThenMapAgain: a page that was lost is another one when it is mapped again.
func TestPoisonThenMapAgain(t *testing.T) {
	s := begun(t)
	stores(t, s, 0, 2, "mine")
	poisoned(t, s, frame(t, s, 0, 2), true)
	waits(t, s, 0, 2)
	is(t, s.Unmap(0, 2, 1), api.OK, "Unmap")
	is(t, s.Map(0, api.Area{From: 2, Pages: 1, Write: true, Kind: api.Own}), api.OK, "Map")
	loads(t, s, 0, 2, string(make([]byte, 64)))
	stores(t, s, 0, 2, "again")
	loads(t, s, 0, 2, "again")
}

// TestPoisonOfWhatWentOut: the frame that a page had ahead of its going out is nobody's.
func TestPoisonOfWhatWentOut(t *testing.T) {
	s := begun(t)
	stores(t, s, 0, 2, "out")
	f := frame(t, s, 0, 2)
	is(t, evict.Out(s, 0, 2), api.OK, "Out")
	poisoned(t, s, f, true)
	waits(t, s, 0)
	loads(t, s, 0, 2, "out")
}

// TestSignalsFull: of signals for which there is no room none is told, and all else is done.
func TestSignalsFull(t *testing.T) {
	s := begun(t)
	stores(t, s, 0, 2, "ours")
	f := frame(t, s, 0, 2)
	is(t, s.Fork(0, 1), api.OK, "Fork")
	is(t, s.Put(api.Place{Page: 6}, api.Entry{Kind: api.Frame, N: f}), api.OK, "Put")
	var pages []int
	for page := range api.MaxSignals - 1 {
		s.Tell(0, 64*page)
		pages = append(pages, page)
	}
	poisoned(t, s, f, true)
	waits(t, s, 0, append(pages, 2)...)
	waits(t, s, 1, 2)
	lost(t, s, 0, 2)
	lost(t, s, 0, 6)
	lost(t, s, 1, 2)
}

// TestThere: what is bad already is so as it was, in whatever way it became so.
func TestThere(t *testing.T) {
	s := begun(t)
	stores(t, s, 0, 3, "mine")
	stores(t, s, 0, 4, "mine, too")
	f, g := frame(t, s, 0, 3), frame(t, s, 0, 4)
	poisoned(t, s, f, false)
	is(t, softs(t, s, g), api.OK, "Soft")
	is(t, s.Pool.Spoil(90), true, "Spoil")
	is(t, s.Pool.Spoil(150), true, "Spoil")
	for _, n := range []int{f, g, 90, 150} {
		for _, used := range []bool{false, true} {
			killed, e := poisons(t, s, n, used)
			is(t, e, api.ErrThere, told("Poison", n))
			is(t, killed == nil, true, "beside an error")
		}
		is(t, softs(t, s, n), api.ErrThere, told("Soft", n))
		bad(t, s, n, n == f)
	}
	waits(t, s, 0)
	loads(t, s, 0, 4, "mine, too")
}

// TestPoisonOfPoisoned: a frame of which the bytes are lost is not bad ahead of that being
// told.
func TestPoisonOfPoisoned(t *testing.T) {
	s := begun(t)
	stores(t, s, 0, 3, "mine")
	f := frame(t, s, 0, 3)
	is(t, s.Ram.Poison(f), true, "Poison of the memory")
	is(t, s.Ram.Poison(70), true, "Poison of the memory")
	want := frame(t, s, 0, 3)
	is(t, Soft(s, f), api.ErrPoison, "Soft of what can't be read")
	is(t, frame(t, s, 0, 3), want, "its frame")
	is(t, s.Pool.Use(f), api.Anon, "its use")
	killed, e := Poison(s, f, true)
	is(t, e, api.OK, "Poison")
	is(t, len(killed), 0, "killed")
	bad(t, s, f, true)
	waits(t, s, 0, 3)
	lost(t, s, 0, 3)
	poisoned(t, s, 70, true)
}

func TestArg(t *testing.T) {
	s := begun(t)
	stores(t, s, 0, 3, "mine")
	s.Pool.Spoil(1023)
	for _, f := range noFrames() {
		for _, used := range []bool{false, true} {
			killed, e := poisons(t, s, f, used)
			is(t, e, api.ErrArg, told("Poison", f))
			is(t, killed == nil, true, "beside an error")
			killed, e = Poison(nil, f, used)
			is(t, e, api.ErrArg, told("Poison of nil", f))
			is(t, killed == nil, true, "beside an error")
		}
		is(t, softs(t, s, f), api.ErrArg, told("Soft", f))
		is(t, Soft(nil, f), api.ErrArg, told("Soft of nil", f))
	}
	for _, f := range []int{0, 1, 1023} {
		_, e := Poison(nil, f, true)
		is(t, e, api.ErrArg, "Poison of nil")
		is(t, Soft(nil, f), api.ErrArg, "Soft of nil")
	}
}

// TestEnds: the first frame of the memory, and the last one.
func TestEnds(t *testing.T) {
	s := begun(t)
	for _, f := range []int{0, frames - 1} {
		poisoned(t, s, f, true)
	}
	s = begun(t)
	for _, f := range []int{0, frames - 1} {
		is(t, softs(t, s, f), api.OK, told("Soft", f))
	}
}

// TestSoftOfFree: of each frame that nobody has, on line or not.
func TestSoftOfFree(t *testing.T) {
	s := begun(t)
	stores(t, s, 0, 3, "mine")
	for _, f := range []int{1, 31, 40, 63, 64, 127, 128, 159} {
		is(t, softs(t, s, f), api.OK, told("Soft", f))
	}
	is(t, s.Pool.Online(4, api.Movable), api.OK, "Online")
	loads(t, s, 0, 3, "mine")
	for _, f := range []int{1, 31, 40, 63, 64, 127, 128, 159} {
		never(t, s, f)
	}
}

// TestSoftBusy: a table and a frame of a balloon stay what they are.
func TestSoftBusy(t *testing.T) {
	s := begun(t)
	stores(t, s, 0, 3, "mine")
	list := append(s.Tree(0).Tables(), taken(t, s, api.Balloon, true), taken(t, s, api.Balloon, false), taken(t, s, api.Table, false))
	for _, left := range []int{1, 0} {
		fill(t, s, left)
		for _, f := range list {
			is(t, softs(t, s, f), api.ErrBusy, told("Soft", f))
		}
	}
	loads(t, s, 0, 3, "mine")
}

// TestSoftOfAnon: the bytes are the same, in another frame, for all who had that one, and
// nobody is told.
func TestSoftOfAnon(t *testing.T) {
	for _, page := range []int{0, 3, 7, 4091, 4095} {
		s := begun(t)
		b := text("ours", page)
		stores(t, s, 0, page, b)
		f := frame(t, s, 0, page)
		is(t, s.Fork(0, 2), api.OK, "Fork")
		is(t, s.Fork(2, 1), api.OK, "Fork")
		is(t, s.Put(api.Place{Proc: 1, Page: 5}, api.Entry{Kind: api.Frame, N: f, Write: true}), api.OK, "Put")
		is(t, softs(t, s, f), api.OK, "Soft")
		to := frame(t, s, 0, page)
		is(t, to != f, true, "another one")
		is(t, len(s.Back.Of(to)), 4, "who has it")
		for n := range 3 {
			waits(t, s, n)
			loads(t, s, n, page, b)
		}
		stores(t, s, 1, 5, "mine")
		stores(t, s, 2, page, "MINE")
		loads(t, s, 0, page, b)
		loads(t, s, 1, page, b)
		never(t, s, f)
	}
}

// TestSoftOfFile: a page of a file is as dirty as it was, and whoever has it.
func TestSoftOfFile(t *testing.T) {
	for _, dirty := range []bool{false, true} {
		s := begun(t)
		want := onDisk(1)
		if dirty {
			want = "written" + want[7:]
			stores(t, s, 0, sharedAt+1, "written")
		}
		loads(t, s, 0, privateAt+1, want)
		is(t, s.Fork(0, 5), api.OK, "Fork")
		f := frame(t, s, 0, privateAt+1)
		is(t, softs(t, s, f), api.OK, "Soft")
		at, ok := s.Cache.Frame(key(1))
		is(t, ok && at == frame(t, s, 5, privateAt+1), true, "where it stands")
		is(t, s.Cache.Dirty(key(1)), dirty, "dirty")
		for _, n := range []int{0, 5} {
			waits(t, s, n)
			loads(t, s, n, sharedAt+1, want)
			loads(t, s, n, privateAt+1, want)
		}
		is(t, evict.Sync(s, theFile), api.OK, "Sync")
		b, _ := file.Read(s.Disk, theFile, theOff+1)
		is(t, string(b), want, "what is written")
		never(t, s, f)
	}
}

// TestSoftAgain: each frame into which the page comes may be taken away, till there is none.
func TestSoftAgain(t *testing.T) {
	s := begun(t)
	stores(t, s, 0, 3, "mine")
	for {
		f := frame(t, s, 0, 3)
		e := softs(t, s, f)
		if e == api.ErrFull {
			break
		}
		is(t, e, api.OK, told("Soft", f))
	}
	loads(t, s, 0, 3, "mine")
	many := 0
	for n := range sections {
		is(t, s.Pool.Count(n, api.Free), 0, "Free ones")
		many += s.Pool.Count(n, api.Bad)
	}
	is(t, many, 32*sections-1-4, "bad ones: all but the page's, and the tables")
}

// TestSoftFull: where there is no frame to move to nothing is changed; Poison asks for none.
func TestSoftFull(t *testing.T) {
	s := begun(t)
	stores(t, s, 0, 3, "mine")
	stores(t, s, 0, sharedAt, "written")
	loads(t, s, 0, sharedAt+1, onDisk(1))
	is(t, s.Fork(0, 1), api.OK, "Fork")
	f, g, h := frame(t, s, 0, 3), frame(t, s, 0, sharedAt), frame(t, s, 0, sharedAt+1)
	list := fill(t, s, 0)
	for _, n := range []int{f, g, h} {
		is(t, softs(t, s, n), api.ErrFull, told("Soft", n))
	}
	is(t, s.Pool.Free(list[len(list)-1]), true, "Free")
	is(t, softs(t, s, f), api.OK, "Soft into the last one")
	is(t, softs(t, s, g), api.ErrFull, "Soft, and no room again")
	for n := range 2 {
		loads(t, s, n, 3, "mine")
		loads(t, s, n, sharedAt, "written")
	}
	for _, n := range []int{frame(t, s, 0, 3), g, h} {
		poisoned(t, s, n, true)
	}
	waits(t, s, 1, 3, sharedAt)
	_, e := s.Load(0, 64*(sharedAt+1), 1)
	is(t, e, api.ErrFull, "Load of what there is no frame for")
}

// TestIsolated: a section that is isolated takes nothing in, and what is in it may be bad.
func TestIsolated(t *testing.T) {
	s := begun(t)
	stores(t, s, 0, 3, "mine")
	stores(t, s, 0, 4, "mine, too")
	stores(t, s, 0, sharedAt, "written")
	f, g, h := frame(t, s, 0, 3), frame(t, s, 0, 4), frame(t, s, 0, sharedAt)
	is(t, s.Pool.Isolate(0, true), true, "Isolate")
	is(t, softs(t, s, f, 0), api.OK, "Soft")
	is(t, frame(t, s, 0, 3), 64, "the new one")
	is(t, softs(t, s, h, 0), api.OK, "Soft")
	poisoned(t, s, g, true)
	waits(t, s, 0, 4)
	is(t, s.Pool.Offline(0), api.OK, "Offline")
	is(t, s.Pool.Count(0, api.Bad), 3, "bad ones")
	loads(t, s, 0, 3, "mine")
	loads(t, s, 0, sharedAt, "written")
	is(t, s.Pool.Online(0, api.Normal), api.OK, "Online")
	is(t, s.Pool.Count(0, api.Free), 29, "Free ones")
}

// TestSoftIntoPoisoned: a frame that can't be written and is not known to be bad keeps the
// page where it is.
func TestSoftIntoPoisoned(t *testing.T) {
	s := begun(t)
	stores(t, s, 0, 3, "mine")
	f := frame(t, s, 0, 3)
	is(t, s.Ram.Poison(1), true, "Poison of the memory")
	want := stateOf(t, s, "ahead")
	is(t, Soft(s, f), api.ErrPoison, "Soft")
	same(t, stateOf(t, s, "refused"), want, "refused")
	poisoned(t, s, 1, true)
	is(t, softs(t, s, f), api.OK, "Soft")
	loads(t, s, 0, 3, "mine")
}

// TestPoisonedTables: somebody whose page can't be reached keeps no frame from being bad,
// and what Back tells of them is so, too.
func TestPoisonedTables(t *testing.T) {
	for _, page := range []int{3, sharedAt, sharedAt + 1} {
		s := begun(t)
		stores(t, s, 0, 3, "ours")
		stores(t, s, 0, 4, "kept")
		stores(t, s, 0, sharedAt, "written")
		loads(t, s, 0, sharedAt+1, onDisk(1))
		is(t, s.Fork(0, 1), api.OK, "Fork")
		is(t, s.Fork(0, 2), api.OK, "Fork")
		tables := s.Tree(1).Tables()
		for _, f := range tables {
			s.Ram.Poison(f)
		}
		f := frame(t, s, 0, page)
		is(t, Soft(s, f), api.OK, "Soft")
		bad(t, s, f, false)
		f = frame(t, s, 0, page)
		is(t, len(s.Back.Of(f)), 3, "who has the new one")
		_, e := Poison(s, f, true)
		is(t, e, api.OK, "Poison")
		bad(t, s, f, true)
		if page == sharedAt+1 {
			waits(t, s, 0)
			waits(t, s, 1)
			loads(t, s, 2, page, onDisk(1))
		} else {
			waits(t, s, 0, page)
			waits(t, s, 1, page)
			lost(t, s, 2, page)
		}
		killed, e := Poison(s, tables[1], false)
		is(t, e, api.OK, "Poison of a table")
		are(t, killed, []int{1}, "killed")
		is(t, len(s.Back.Frames(1)), 0, "what it has")
		loads(t, s, 0, 4, "kept")
		loads(t, s, 2, 4, "kept")
	}
}

// TestSmallMemory: what the pool has and the memory has not is no frame.
func TestSmallMemory(t *testing.T) {
	for _, many := range []int{0, 1, 33} {
		p := pool.New()
		is(t, p.Online(0, api.Normal), api.OK, "Online")
		is(t, p.Online(1, api.Normal), api.OK, "Online")
		s := space.New(ram.New(many), disk.New(api.DiskSectors), p)
		for _, f := range []int{many, many + 1, 63} {
			_, e := Poison(s, f, true)
			is(t, e, api.ErrArg, told("Poison", f))
			is(t, Soft(s, f), api.ErrArg, told("Soft", f))
			is(t, p.Use(f), api.Free, "its use")
		}
		if many == 0 {
			continue
		}
		_, e := Poison(s, many-1, true)
		is(t, e, api.OK, "Poison of the last one")
		is(t, p.Use(many-1), api.Bad, "its use")
	}
}

// TestOverNothing: a Space that names no memory has no frame; one that names no more than
// that, and a pool, has frames that nobody has.
func TestOverNothing(t *testing.T) {
	p := pool.New()
	for _, s := range []*space.Space{{}, space.New(nil, nil, nil), {Pool: p}} {
		for _, f := range append(noFrames(), 0, 31) {
			killed, e := Poison(s, f, true)
			is(t, e, api.ErrArg, told("Poison", f))
			is(t, killed == nil, true, "beside an error")
			is(t, Soft(s, f), api.ErrArg, told("Soft", f))
		}
	}
	is(t, p.Online(0, api.Movable), api.OK, "Online")
	s := &space.Space{Pool: p, Ram: ram.New(32)}
	for f, use := range []int{api.Anon, api.Cache, api.Balloon} {
		_, e := p.Alloc(use, 0, true)
		is(t, e, api.OK, "Alloc")
		killed, e := Poison(s, f, true)
		is(t, e, api.OK, told("Poison", f))
		is(t, len(killed), 0, told("killed", f))
		bad(t, s, f, true)
	}
	is(t, Soft(s, 4), api.OK, "Soft")
	bad(t, s, 4, false)
	for _, f := range []int{-1, 0, 31, 32} {
		Poison(&space.Space{Ram: ram.New(32)}, f, true) // without a pool nothing can be bad, but each call answers
		Soft(&space.Space{Ram: ram.New(32)}, f)
	}
}

// TestBehindNobody: places of no process, and pages that no process has, are told nothing,
// and have the frame no more.
func TestBehindNobody(t *testing.T) {
	for _, use := range []int{api.Anon, api.Cache} {
		s := begun(t)
		f := taken(t, s, use, true)
		for _, p := range []api.Place{{Proc: 6, Page: 9}, {Proc: -1}, {Proc: math.MaxInt, Page: math.MinInt}} {
			s.Back.Add(f, p)
		}
		is(t, Soft(s, f), api.OK, "Soft")
		bad(t, s, f, false)
		to := s.Back.Frames(6)[0]
		_, e := Poison(s, to, true)
		is(t, e, api.OK, "Poison")
		bad(t, s, to, true)
		waits(t, s, 0)
	}
}

// TestWhatBackTells: it is Back that tells who has a frame, whatever stands in their tables.
func TestWhatBackTells(t *testing.T) {
	for _, use := range []int{api.Anon, api.Cache} {
		s := begun(t)
		stores(t, s, 0, 4, "kept")
		f := taken(t, s, use, true)
		s.Back.Add(f, api.Place{Page: 5})
		_, e := Poison(s, f, true)
		is(t, e, api.OK, "Poison")
		bad(t, s, f, true)
		if use == api.Anon {
			waits(t, s, 0, 5)
			lost(t, s, 0, 5)
		} else {
			waits(t, s, 0)
			loads(t, s, 0, 5, string(make([]byte, 64)))
		}
		loads(t, s, 0, 4, "kept")
	}
}

// TestTwoSpaces: nothing is kept between calls but in the Space.
func TestTwoSpaces(t *testing.T) {
	a, b := begun(t), begun(t)
	for _, s := range []*space.Space{a, b} {
		stores(t, s, 0, 0, "mine")
		stores(t, s, 0, 1, "too")
	}
	was := stateOf(t, b, "b")
	poisoned(t, a, frame(t, a, 0, 0), true)
	is(t, softs(t, a, frame(t, a, 0, 1)), api.OK, "Soft")
	killed, e := poisons(t, a, a.Tree(0).Tables()[0], true)
	is(t, e, api.OK, "Poison")
	are(t, killed, []int{0}, "killed")
	killed[0] = 99
	same(t, stateOf(t, b, "b"), was, "b")
	killed, _ = poisons(t, b, b.Tree(0).Tables()[0], true)
	are(t, killed, []int{0}, "killed")
}
