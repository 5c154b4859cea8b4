package move

import (
	"headland/api"
	"headland/cache"
	"headland/disk"
	"headland/evict"
	"headland/pool"
	"headland/ram"
	"headland/space"
	"math"
	"slices"
	"testing"
)

// noFrames are numbers of what there is not; some are those of what there is in their
// lowest bits alone.
func noFrames() []int {
	return []int{math.MinInt, math.MinInt + 1, -1 << 32, -1024, -1023, -32, -1, 1024, 1025, 2048, 1 << 32, 1<<32 + 1, 1 << 62, math.MaxInt}
}

// The areas of a process that start makes: the pages 0 to 7 are its own, 8 to 11 and 12 to
// 15 the same four pages of file 1, from its page 6 on.
const (
	sharedAt  = 8
	privateAt = 12
	theFile   = 1
	theOff    = 6
)

// key is the page of the file that stands at a page of the areas.
func key(n int) cache.Key {
	return cache.Key{File: theFile, Page: theOff + n}
}

// begun has process 0, with areas of each kind.
func begun(t *testing.T) *space.Space {
	t.Helper()
	s := newSpace(t)
	start(t, s, 0)
	return s
}

// start makes a process with areas of each kind.
func start(t *testing.T, s *space.Space, n int) {
	t.Helper()
	is(t, s.Spawn(n), api.OK, told("Spawn", n))
	for _, a := range []api.Area{
		{Pages: 8, Write: true, Kind: api.Own},
		{From: sharedAt, Pages: 4, Write: true, Kind: api.Shared, File: theFile, Off: theOff},
		{From: privateAt, Pages: 4, Write: true, Kind: api.Private, File: theFile, Off: theOff},
		{From: 4091, Pages: 5, Write: true, Kind: api.Own},
	} {
		is(t, s.Map(n, a), api.OK, told("Map", n, a.From))
	}
}

// stores makes a page begin with a text.
func stores(t *testing.T, s *space.Space, n, page int, b string) {
	t.Helper()
	is(t, s.Store(n, 64*page, []byte(b)), api.OK, told("Store", n, page))
}

// loads fails if a page does not begin with a text.
func loads(t *testing.T, s *space.Space, n, page int, want string) {
	t.Helper()
	b, e := s.Load(n, 64*page, len(want))
	is(t, e, api.OK, told("Load", n, page))
	is(t, string(b), want, told("Load", n, page))
}

// lost fails if a page is not lost, or if its process is not told so when it loads it, and
// not ahead of that.
func lost(t *testing.T, s *space.Space, n, page int) {
	t.Helper()
	_, e := s.Signal(n)
	is(t, e, api.ErrNone, told("a signal", n, page))
	_, e = s.Load(n, 64*page+5, 1)
	is(t, e, api.ErrPoison, told("Load", n, page))
	g, e := s.Signal(n)
	is(t, e, api.OK, told("Signal", n, page))
	is(t, g, api.Sig{Proc: n, At: 64 * page}, told("Signal", n, page))
}

// frame is the one that a page has.
func frame(t *testing.T, s *space.Space, n, page int) int {
	t.Helper()
	e, no := s.Tree(n).Get(page)
	if no != api.OK || e.Kind != api.Frame {
		t.Fatalf("%d %d: %v %d, want a frame", n, page, e, no)
	}
	return e.N
}

// anon is how many frames are had by pages of processes' own.
func anon(s *space.Space) int {
	many := 0
	for n := range sections {
		many += s.Pool.Count(n, api.Anon)
	}
	return many
}

// movesTo moves the frame of a page, which must be done, and answers the new one.
func movesTo(t *testing.T, s *space.Space, n, page int) int {
	t.Helper()
	to, e := moves(t, s, frame(t, s, n, page))
	is(t, e, api.OK, told("Frame of", n, page))
	is(t, frame(t, s, n, page), to, told("the frame of", n, page))
	return to
}

// fill takes all Free frames of a zone away but so many.
func fill(t *testing.T, s *space.Space, movable bool, left int) {
	t.Helper()
	var list []int
	for {
		f, e := s.Pool.Alloc(api.Balloon, 0, movable)
		if e != api.OK {
			break
		}
		list = append(list, f)
	}
	for _, f := range list[len(list)-left:] {
		is(t, s.Pool.Free(f), true, "Free")
	}
}

func TestExample(t *testing.T) {
	s := begun(t)
	stores(t, s, 0, 3, "the same bytes")
	_, e := Frame(s, frame(t, s, 0, 3))
	is(t, e, api.OK, "Frame")
	loads(t, s, 0, 3, "the same bytes")
}

func TestFrame(t *testing.T) {
	for _, page := range []int{0, 1, 7, 4091, 4095} {
		s := begun(t)
		b := text("mine", page)
		stores(t, s, 0, page, b)
		is(t, frame(t, s, 0, page), 0, "its frame")
		is(t, movesTo(t, s, 0, page), 1, "the new one")
		is(t, s.Pool.Use(0), api.Free, "the old one")
		is(t, s.Pool.Use(1), api.Anon, "the new one")
		is(t, len(s.Back.Of(0)), 0, "who has the old one")
		if got := s.Back.Of(1); !slices.Equal(got, []api.Place{{Page: page}}) {
			t.Fatalf("who has the new one: %v", got)
		}
		_, e := moves(t, s, 0)
		is(t, e, api.ErrNone, "Frame again")
		loads(t, s, 0, page, b)
		stores(t, s, 0, page, "again")
		loads(t, s, 0, page, "again"+b[5:])
		is(t, movesTo(t, s, 0, page), 0, "the first one again")
		loads(t, s, 0, page, "again"+b[5:])
		is(t, anon(s), 1, "frames")
	}
}

// TestFrameOfZeros: what the new frame had is nobody's to see.
func TestFrameOfZeros(t *testing.T) {
	s := begun(t)
	loads(t, s, 0, 2, "\x00")
	movesTo(t, s, 0, 2)
	loads(t, s, 0, 2, string(make([]byte, 64)))
}

// TestFrameOfTwo: all who had the frame have the new one, and each has its own from when
// it writes.
func TestFrameOfTwo(t *testing.T) {
	s := begun(t)
	stores(t, s, 0, 3, "ours")
	stores(t, s, 0, 4, "too")
	is(t, s.Fork(0, 2), api.OK, "Fork")
	is(t, s.Fork(2, 1), api.OK, "Fork")
	is(t, s.Put(api.Place{Proc: 1, Page: 5}, api.Entry{Kind: api.Frame, N: frame(t, s, 0, 3)}), api.OK, "Put")
	stores(t, s, 2, 4, "mine")
	to := movesTo(t, s, 2, 3)
	if got := s.Back.Of(to); !slices.Equal(got, []api.Place{{Proc: 0, Page: 3}, {Proc: 1, Page: 3}, {Proc: 1, Page: 5}, {Proc: 2, Page: 3}}) {
		t.Fatalf("who has it: %v", got)
	}
	is(t, anon(s), 3, "frames")
	stores(t, s, 2, 3, "MY")
	is(t, anon(s), 4, "frames behind a store")
	loads(t, s, 2, 3, "MYrs")
	movesTo(t, s, 0, 4)
	for n := range 3 {
		loads(t, s, n, 4, []string{"too", "too", "mine"}[n])
	}
	for _, p := range []api.Place{{Proc: 0, Page: 3}, {Proc: 1, Page: 3}, {Proc: 1, Page: 5}} {
		loads(t, s, p.Proc, p.Page, "ours")
	}
	for n := range 3 {
		is(t, s.Exit(n), api.OK, "Exit")
	}
	is(t, anon(s), 0, "frames that nobody has")
}

// TestFrameOfFile: a page of a file is as dirty as it was, and whoever has it.
func TestFrameOfFile(t *testing.T) {
	for _, dirty := range []bool{false, true} {
		s := begun(t)
		want := text("sector", 119)
		if dirty {
			want = "written" + want[7:]
			stores(t, s, 0, sharedAt+1, "written")
		}
		loads(t, s, 0, sharedAt+1, want)
		loads(t, s, 0, privateAt+1, want)
		is(t, s.Fork(0, 5), api.OK, "Fork")
		f := frame(t, s, 0, sharedAt+1)
		to := movesTo(t, s, 5, sharedAt+1)
		is(t, s.Pool.Use(f), api.Free, "the old one")
		is(t, s.Pool.Use(to), api.Cache, "the new one")
		is(t, len(s.Back.Of(to)), 4, "who has it")
		at, ok := s.Cache.Frame(key(1))
		is(t, ok && at == to, true, "where it stands")
		_, ok = s.Cache.Of(f)
		is(t, ok, false, "a page stands in the old one")
		is(t, s.Cache.Dirty(key(1)), dirty, "dirty")
		for _, n := range []int{0, 5} {
			loads(t, s, n, sharedAt+1, want)
			loads(t, s, n, privateAt+1, want)
		}
		is(t, evict.Sync(s, theFile), api.OK, "Sync")
		b, _ := s.Disk.Read(119)
		is(t, string(b), want, "what is written")
		is(t, evict.Drop(s, theFile, theOff+1), api.OK, "Drop")
		is(t, s.Pool.Use(to), api.Free, "the new one behind a Drop")
		loads(t, s, 5, privateAt+1, want)
	}
}

// TestFrameOfFileThenStores: what is stored in a page of a file that moved is seen as ever.
func TestFrameOfFileThenStores(t *testing.T) {
	s := begun(t)
	loads(t, s, 0, sharedAt, "sector 118")
	loads(t, s, 0, privateAt, "sector 118")
	is(t, s.Fork(0, 1), api.OK, "Fork")
	movesTo(t, s, 1, privateAt)
	stores(t, s, 1, privateAt, "mine")
	stores(t, s, 0, sharedAt, "ours")
	is(t, s.Cache.Dirty(key(0)), true, "dirty")
	loads(t, s, 1, sharedAt, "oursor 118")
	loads(t, s, 0, privateAt, "oursor 118")
	loads(t, s, 1, privateAt, "mineor 118")
	movesTo(t, s, 1, privateAt)
	movesTo(t, s, 1, sharedAt)
	loads(t, s, 0, privateAt, "oursor 118")
	loads(t, s, 1, privateAt, "mineor 118")
}

// TestFrameOfOthersFiles: of many pages in frames the one alone that is meant stands
// elsewhere.
func TestFrameOfOthersFiles(t *testing.T) {
	s := begun(t)
	for n := range 4 {
		is(t, s.Map(0, api.Area{From: 16 + 4*n, Pages: 3, Write: true, Kind: api.Shared, File: n, Off: 13 * (n % 2)}), api.OK, "Map")
		for page := range 3 {
			loads(t, s, 0, 16+4*n+page, "sector")
			if page < 2 {
				stores(t, s, 0, 16+4*n+page, told("written", n, page))
			}
		}
	}
	for range 2 {
		for n := range 4 {
			for page := range 2 {
				movesTo(t, s, 0, 16+4*n+page)
				loads(t, s, 0, 16+4*n+page, told("written", n, page))
			}
			movesTo(t, s, 0, 18+4*n)
			loads(t, s, 0, 18+4*n, told("sector", 96+16*n+13*(n%2)+2))
		}
	}
}

// TestFrameOfNobodys: a page of a file that nobody has any more moves, too.
func TestFrameOfNobodys(t *testing.T) {
	s := begun(t)
	stores(t, s, 0, sharedAt, "written")
	loads(t, s, 0, sharedAt+1, "sector")
	f, g := frame(t, s, 0, sharedAt), frame(t, s, 0, sharedAt+1)
	is(t, s.Exit(0), api.OK, "Exit")
	for i, from := range []int{f, g} {
		to, e := moves(t, s, from)
		is(t, e, api.OK, "Frame")
		at, ok := s.Cache.Frame(key(i))
		is(t, ok && at == to, true, "where it stands")
		is(t, s.Cache.Dirty(key(i)), i == 0, "dirty")
	}
	start(t, s, 3)
	loads(t, s, 3, sharedAt, "written")
	loads(t, s, 3, sharedAt+1, "sector 119")
}

// TestFrameOfNoPage: a frame that was given to nobody yet, and one that somebody has who
// is no process, have what they have.
func TestFrameOfNoPage(t *testing.T) {
	for _, use := range []int{api.Anon, api.Cache} {
		s := begun(t)
		loads(t, s, 0, 0, "\x00")
		f, e := s.Pool.Alloc(use, 0, true)
		is(t, e, api.OK, "Alloc")
		to, e := moves(t, s, f)
		is(t, e, api.OK, "Frame")
		s.Back.Add(to, api.Place{Proc: 6, Page: 9})
		s.Back.Add(to, api.Place{Proc: -1, Page: 4096})
		back, e := Frame(s, to)
		is(t, e, api.OK, "Frame of what Back alone knows")
		is(t, back, f, "the new one")
		is(t, len(s.Back.Of(to)), 0, "who has the old one")
		is(t, len(s.Back.Of(back)), 2, "who has the new one")
		is(t, s.Pool.Use(to), api.Free, "the old one")
		is(t, s.Pool.Use(back), use, "the new one")
		is(t, Clear(s, back), api.OK, "Clear of what Back alone knows")
		is(t, len(s.Back.Of(back)), 0, "who has it")
		is(t, s.Pool.Use(back), api.Free, "its use")
	}
}

// TestFrameKeepsWrite: of an entry nothing but the frame is another one.
func TestFrameKeepsWrite(t *testing.T) {
	s := begun(t)
	stores(t, s, 0, 3, "mine")
	is(t, s.Fork(0, 1), api.OK, "Fork")
	is(t, s.Put(api.Place{Page: 3}, api.Entry{Kind: api.Frame, N: frame(t, s, 0, 3), Write: true}), api.OK, "Put")
	to := movesTo(t, s, 0, 3)
	for n := range 2 {
		e, _ := s.Tree(n).Get(3)
		is(t, e, api.Entry{Kind: api.Frame, N: to, Write: n == 0}, told("entry", n))
	}
}

// others are frames that can be neither moved nor cleared, one of each use.
func others(t *testing.T, s *space.Space) []int {
	t.Helper()
	balloon, e := s.Pool.Alloc(api.Balloon, 0, true)
	is(t, e, api.OK, "Alloc")
	is(t, s.Pool.Spoil(90), true, "Spoil")
	is(t, s.Pool.Spoil(32*sections+1), true, "Spoil")
	list := append(noFrames(), balloon, 90, 89, 32*sections, 32*sections+1, 32*sections+2, 1023)
	return append(list, s.Tree(0).Tables()...)
}

func TestNone(t *testing.T) {
	s := begun(t)
	stores(t, s, 0, 3, "mine")
	stores(t, s, 0, sharedAt, "written")
	loads(t, s, 0, privateAt+1, "sector")
	for _, f := range others(t, s) {
		_, e := moves(t, s, f)
		is(t, e, api.ErrNone, told("Frame", f))
		is(t, clears(t, s, f), api.ErrNone, told("Clear", f))
	}
}

// TestOtherUses: what is had by a page, or stands for a page of a file, but is used for
// something else stays.
func TestOtherUses(t *testing.T) {
	s := begun(t)
	stores(t, s, 0, 2, "mine")
	for _, f := range append(others(t, s), 95) {
		if f < 0 || f > 1023 {
			continue
		}
		is(t, s.Put(api.Place{Page: 2}, api.Entry{Kind: api.Frame, N: f}), api.OK, "Put")
		is(t, s.Cache.Put(key(0), f), true, "Put")
		is(t, s.Cache.Mark(key(0), true), true, "Mark")
		_, e := Frame(s, f)
		is(t, e, api.ErrNone, told("Frame", f))
		is(t, Clear(s, f), api.ErrNone, told("Clear", f))
		is(t, frame(t, s, 0, 2), f, "its frame")
		at, ok := s.Cache.Frame(key(0))
		is(t, ok && at == f && s.Cache.Dirty(key(0)), true, "the page of the file")
		s.Cache.Drop(key(0))
	}
}

// TestWhere: Movable sections first, then Normal ones, and none that is isolated.
func TestWhere(t *testing.T) {
	s := begun(t)
	for page := range 6 {
		stores(t, s, 0, page, told("page", page))
	}
	stores(t, s, 0, sharedAt, "written")
	is(t, movesTo(t, s, 0, 4), 7, "the new one")
	is(t, s.Pool.Isolate(0, true), true, "Isolate")
	to, e := moves(t, s, 4, 0)
	is(t, e, api.ErrNone, "Frame of what is Free")
	to, e = moves(t, s, 0, 0)
	is(t, e, api.OK, "Frame out of what is isolated")
	is(t, to, 64, "the new one")
	to, e = moves(t, s, to, 0)
	is(t, e, api.OK, "Frame")
	is(t, to, 65, "the new one")
	is(t, s.Pool.Isolate(2, true), true, "Isolate")
	for i, from := range []int{65, 6, 1} {
		to, e = moves(t, s, from, 0, 2)
		is(t, e, api.OK, "Frame into a Normal section")
		is(t, to, 37+i, "the new one: 32 to 36 are tables")
	}
	is(t, s.Pool.Isolate(1, true), true, "Isolate")
	to, e = moves(t, s, 2, 0, 1, 2)
	is(t, e, api.OK, "Frame into another one")
	is(t, to, 96, "the new one")
	is(t, s.Pool.Isolate(3, true), true, "Isolate")
	for _, from := range []int{3, 37, 38, 96} {
		to, e = moves(t, s, from, 0, 1, 2, 3)
		is(t, e, api.ErrFull, "Frame, and all are isolated")
	}
	is(t, s.Pool.Isolate(0, false), true, "Isolate")
	to, e = moves(t, s, 38, 1, 2, 3)
	is(t, e, api.OK, "Frame back")
	is(t, to, 0, "the new one")
	for page := range 6 {
		loads(t, s, 0, page, told("page", page))
	}
	loads(t, s, 0, sharedAt, "written")
}

// TestFull: one frame is enough, and where there is none nothing is changed.
func TestFull(t *testing.T) {
	s := begun(t)
	stores(t, s, 0, 3, "mine")
	stores(t, s, 0, sharedAt, "written")
	loads(t, s, 0, privateAt+1, "sector")
	is(t, s.Fork(0, 1), api.OK, "Fork")
	f, g, h := frame(t, s, 0, 3), frame(t, s, 0, sharedAt), frame(t, s, 0, privateAt+1)
	tables := s.Tree(0).Tables()
	fill(t, s, false, 0)
	fill(t, s, true, 1)
	for _, from := range []int{f, g, h} {
		_, e := moves(t, s, from)
		is(t, e, api.OK, "Frame into the last one")
	}
	_, e := s.Pool.Alloc(api.Balloon, 0, true)
	is(t, e, api.OK, "Alloc")
	for _, p := range []api.Place{{Page: 3}, {Page: sharedAt}, {Proc: 1, Page: privateAt + 1}} {
		_, e := moves(t, s, frame(t, s, p.Proc, p.Page))
		is(t, e, api.ErrFull, "Frame, and no room")
	}
	for _, from := range append(noFrames(), tables[0], 127, 128) {
		_, e := moves(t, s, from)
		is(t, e, api.ErrNone, "Frame of none, and no room")
	}
	loads(t, s, 1, 3, "mine")
	loads(t, s, 1, sharedAt, "written")
	is(t, clears(t, s, frame(t, s, 1, sharedAt)), api.OK, "Clear, and no room")
	movesTo(t, s, 1, 3)
}

// TestFullOfNormal: what is left is of a Normal section.
func TestFullOfNormal(t *testing.T) {
	s := begun(t)
	stores(t, s, 0, 3, "mine")
	s.Pool.Isolate(1, true)
	s.Pool.Isolate(3, true)
	fill(t, s, true, 0)
	s.Pool.Isolate(3, false)
	fill(t, s, false, 1)
	to, e := moves(t, s, 0, 1)
	is(t, e, api.OK, "Frame")
	is(t, to, 127, "the new one")
	to, e = moves(t, s, 127, 1)
	is(t, e, api.OK, "Frame")
	is(t, to, 0, "the new one: a Movable section's")
	loads(t, s, 0, 3, "mine")
}

// TestEmptied: behind moves of all its frames a section can go off line, and its frames
// are in nobody's hands.
func TestEmptied(t *testing.T) {
	s := begun(t)
	for page := range 16 {
		stores(t, s, 0, page, told("page", page))
	}
	is(t, s.Fork(0, 1), api.OK, "Fork")
	s.Pool.Isolate(0, true)
	is(t, s.Pool.Offline(0), api.ErrBusy, "Offline")
	for f := range 32 {
		if s.Pool.Use(f) == api.Free {
			continue
		}
		_, e := moves(t, s, f, 0)
		is(t, e, api.OK, told("Frame", f))
	}
	is(t, s.Pool.Offline(0), api.OK, "Offline")
	for n := range 2 {
		for page := range 16 {
			loads(t, s, n, page, told("page", page))
			is(t, frame(t, s, n, page) >= 32, true, "its frame is elsewhere")
		}
		for _, f := range s.Back.Frames(n) {
			is(t, f >= 32, true, told("somebody has", f))
		}
	}
}

// TestOutAndMove: a page that went out has no frame that could move, and one that came in
// again has.
func TestOutAndMove(t *testing.T) {
	s := begun(t)
	stores(t, s, 0, 3, "mine")
	is(t, s.Fork(0, 1), api.OK, "Fork")
	movesTo(t, s, 0, 3)
	f := movesTo(t, s, 1, 3)
	is(t, evict.Out(s, 1, 3), api.OK, "Out")
	_, e := moves(t, s, f)
	is(t, e, api.ErrNone, "Frame of what went out")
	is(t, clears(t, s, f), api.ErrNone, "Clear of what went out")
	is(t, s.Swap.Used(), 1, "slots")
	loads(t, s, 0, 3, "mine")
	movesTo(t, s, 0, 3)
	loads(t, s, 1, 3, "mine")
}

// TestPoison: bytes that can't be read don't move, and none move into a frame that can't
// be written.
func TestPoison(t *testing.T) {
	for _, page := range []int{3, sharedAt, sharedAt + 1} {
		s := begun(t)
		stores(t, s, 0, 3, "mine")
		stores(t, s, 0, sharedAt, "written")
		loads(t, s, 0, sharedAt+1, "sector")
		f := frame(t, s, 0, page)
		is(t, s.Ram.Poison(3), true, "Poison of a frame that is Free")
		want := stateOf(t, s, "ahead")
		to, e := Frame(s, f)
		is(t, e, api.ErrPoison, "Frame into a poisoned one")
		is(t, to, 0, "beside an error")
		same(t, stateOf(t, s, "refused"), want, "refused")
		is(t, s.Pool.Spoil(3), true, "Spoil")
		is(t, movesTo(t, s, 0, page), 4, "the new one")
		is(t, s.Ram.Poison(4), true, "Poison")
		want = stateOf(t, s, "poisoned")
		to, e = Frame(s, 4)
		is(t, e, api.ErrPoison, "Frame of a poisoned one")
		is(t, to, 0, "beside an error")
		same(t, stateOf(t, s, "refused again"), want, "refused again")
		is(t, clears(t, s, 4), api.OK, "Clear of a poisoned one")
		lost(t, s, 0, page)
	}
}

// TestPoisonedTable: somebody whose page can't be reached keeps nobody from moving, and
// has what all others have, as far as Back can tell.
func TestPoisonedTable(t *testing.T) {
	for _, cleared := range []bool{false, true} {
		for _, page := range []int{3, sharedAt, 4091} {
			s := begun(t)
			stores(t, s, 0, 0, "in frame 0")
			stores(t, s, 0, page, "ours")
			is(t, s.Fork(0, 1), api.OK, "Fork")
			is(t, s.Fork(0, 2), api.OK, "Fork")
			for _, table := range s.Tree(1).Tables() {
				s.Ram.Poison(table)
			}
			f := frame(t, s, 0, page)
			if cleared {
				is(t, Clear(s, f), api.OK, "Clear")
				lost(t, s, 0, page)
				lost(t, s, 2, page)
			} else {
				to, e := Frame(s, f)
				is(t, e, api.OK, "Frame")
				if got := s.Back.Of(to); !slices.Equal(got, []api.Place{{Proc: 0, Page: page}, {Proc: 1, Page: page}, {Proc: 2, Page: page}}) {
					t.Fatalf("who has it: %v", got)
				}
				loads(t, s, 0, page, "ours")
				loads(t, s, 2, page, "ours")
			}
			is(t, len(s.Back.Of(f)), 0, "who has the old one")
			is(t, s.Pool.Use(f), api.Free, "the old one")
			_, e := s.Load(1, 64*page, 1)
			is(t, e, api.ErrPoison, "Load of what can't be reached")
			for n := range 3 {
				is(t, s.Exit(n), api.OK, "Exit")
				is(t, len(s.Back.Frames(n)), 0, "what it has")
			}
			is(t, anon(s), 0, "frames that nobody has")
		}
	}
}

func TestClear(t *testing.T) {
	for _, page := range []int{0, 3, 7, 4091, 4095} {
		s := begun(t)
		stores(t, s, 0, page, "mine")
		stores(t, s, 0, 1, "kept")
		f := frame(t, s, 0, page)
		is(t, clears(t, s, f), api.OK, "Clear")
		is(t, s.Pool.Use(f), api.Free, "its use")
		is(t, len(s.Back.Of(f)), 0, "who has it")
		e, no := s.Tree(0).Get(page)
		is(t, no, api.OK, "Get")
		is(t, e, api.Entry{Kind: api.Lost}, "its entry")
		is(t, clears(t, s, f), api.ErrNone, "Clear again")
		lost(t, s, 0, page)
		is(t, s.Store(0, 64*page, []byte("again")), api.ErrPoison, "Store")
		loads(t, s, 0, 1, "kept")
		is(t, s.Unmap(0, page, 1), api.OK, "Unmap")
		is(t, s.Map(0, api.Area{From: page, Pages: 1, Write: true, Kind: api.Own}), api.OK, "Map")
		loads(t, s, 0, page, string(make([]byte, 64)))
	}
}

// TestClearOfTwo: each one that had the frame finds its page lost, and nobody else.
func TestClearOfTwo(t *testing.T) {
	s := begun(t)
	stores(t, s, 0, 3, "ours")
	stores(t, s, 0, 4, "kept")
	is(t, s.Fork(0, 2), api.OK, "Fork")
	is(t, s.Fork(2, 1), api.OK, "Fork")
	is(t, s.Fork(2, 4), api.OK, "Fork")
	is(t, s.Put(api.Place{Proc: 1, Page: 5}, api.Entry{Kind: api.Frame, N: frame(t, s, 0, 3), Write: true}), api.OK, "Put")
	stores(t, s, 4, 3, "mine")
	is(t, clears(t, s, frame(t, s, 2, 3)), api.OK, "Clear")
	lost(t, s, 1, 5)
	for n := range 3 {
		lost(t, s, n, 3)
		loads(t, s, n, 4, "kept")
	}
	loads(t, s, 4, 3, "mine")
	is(t, s.Fork(0, 3), api.OK, "Fork of what is lost")
	lost(t, s, 3, 3)
}

// TestClearOfFile: whoever had the page finds it lost, who had it not reads it anew, and
// what was not written is gone.
func TestClearOfFile(t *testing.T) {
	for _, dirty := range []bool{false, true} {
		s := begun(t)
		start(t, s, 6)
		loads(t, s, 0, sharedAt+1, "sector 119")
		loads(t, s, 6, privateAt+1, "sector 119")
		stores(t, s, 0, sharedAt+2, "kept")
		stores(t, s, 0, privateAt+1, "mine")
		if dirty {
			stores(t, s, 0, sharedAt+1, "written")
		}
		f := frame(t, s, 0, sharedAt+1)
		is(t, clears(t, s, f), api.OK, "Clear")
		_, ok := s.Cache.Frame(key(1))
		is(t, ok, false, "it is in a frame")
		_, ok = s.Cache.Of(f)
		is(t, ok, false, "a page stands in its frame")
		is(t, s.Pool.Use(f), api.Free, "its use")
		is(t, len(s.Disk.Loose()), 0, "loose")
		is(t, clears(t, s, f), api.ErrNone, "Clear again")
		lost(t, s, 0, sharedAt+1)
		lost(t, s, 6, privateAt+1)
		loads(t, s, 0, privateAt+1, "mineor 119")
		loads(t, s, 6, sharedAt+1, text("sector", 119))
		is(t, s.Cache.Dirty(key(1)), false, "dirty")
		loads(t, s, 6, sharedAt+2, "kept")
	}
}

// TestClearOfNobodys: a page of a file that nobody has is in no frame any more.
func TestClearOfNobodys(t *testing.T) {
	s := begun(t)
	stores(t, s, 0, sharedAt, "written")
	f := frame(t, s, 0, sharedAt)
	is(t, s.Exit(0), api.OK, "Exit")
	is(t, clears(t, s, f), api.OK, "Clear")
	start(t, s, 0)
	loads(t, s, 0, sharedAt, text("sector", 118))
}

// TestClearOfMoved: what moved is cleared where it is now.
func TestClearOfMoved(t *testing.T) {
	for _, page := range []int{3, sharedAt} {
		s := begun(t)
		stores(t, s, 0, page, "mine")
		f := frame(t, s, 0, page)
		to := movesTo(t, s, 0, page)
		is(t, clears(t, s, f), api.ErrNone, "Clear of the old one")
		is(t, clears(t, s, to), api.OK, "Clear")
		lost(t, s, 0, page)
		_, e := moves(t, s, to)
		is(t, e, api.ErrNone, "Frame of what was cleared")
	}
}

// TestSmallRam: a frame that the pool has and the memory has not holds no bytes.
func TestSmallRam(t *testing.T) {
	p := pool.New()
	is(t, p.Online(0, api.Normal), api.OK, "Online")
	s := space.New(ram.New(5), disk.New(api.DiskSectors), p)
	is(t, s.Spawn(0), api.OK, "Spawn")
	is(t, s.Map(0, api.Area{Pages: 1, Write: true, Kind: api.Own}), api.OK, "Map")
	stores(t, s, 0, 0, "mine")
	f := frame(t, s, 0, 0)
	to, e := Frame(s, f) // the five frames that there are have four tables and this page
	is(t, e, api.ErrArg, "Frame")
	is(t, to, 0, "beside an error")
	is(t, frame(t, s, 0, 0), f, "its frame")
	is(t, p.Use(5), api.Free, "the one that is none")
	loads(t, s, 0, 0, "mine")
	is(t, Clear(s, f), api.OK, "Clear")
	lost(t, s, 0, 0)
}

func TestNil(t *testing.T) {
	for _, f := range append(noFrames(), 0, 1, 1023) {
		to, e := Frame(nil, f)
		is(t, e, api.ErrArg, "Frame")
		is(t, to, 0, "beside an error")
		is(t, Clear(nil, f), api.ErrArg, "Clear")
	}
}

// TestOverNothing: a Space that names nothing has no frame of anything; one that names a
// pool alone has frames that nobody has.
func TestOverNothing(t *testing.T) {
	for _, s := range []*space.Space{{}, space.New(nil, nil, nil)} {
		for _, f := range append(noFrames(), 0, 1023) {
			_, e := Frame(s, f)
			is(t, e, api.ErrNone, "Frame")
			is(t, Clear(s, f), api.ErrNone, "Clear")
		}
	}
	p := pool.New()
	is(t, p.Online(0, api.Normal), api.OK, "Online")
	for _, use := range []int{api.Anon, api.Cache} {
		f, e := p.Alloc(use, 0, true)
		is(t, e, api.OK, "Alloc")
		to, e := Frame(&space.Space{Pool: p}, f)
		is(t, e, api.ErrArg, "Frame, and no memory")
		is(t, to, 0, "beside an error")
		is(t, p.Count(0, api.Free), 31, "Free ones")
		is(t, Clear(&space.Space{Pool: p}, f), api.OK, "Clear")
		is(t, p.Count(0, api.Free), 32, "Free ones")
	}
}

// TestTwoSpaces: nothing is kept between calls but in the Space.
func TestTwoSpaces(t *testing.T) {
	a, b := begun(t), begun(t)
	stores(t, a, 0, 0, "mine")
	stores(t, b, 0, 0, "yours")
	was := stateOf(t, b, "b")
	movesTo(t, a, 0, 0)
	is(t, clears(t, a, frame(t, a, 0, 0)), api.OK, "Clear")
	same(t, stateOf(t, b, "b"), was, "b")
	is(t, movesTo(t, b, 0, 0), 1, "the new one")
	lost(t, a, 0, 0)
	loads(t, b, 0, 0, "yours")
}
