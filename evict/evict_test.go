package evict

import (
	"headland/api"
	"headland/cache"
	"headland/disk"
	"headland/file"
	"headland/pool"
	"headland/ram"
	"headland/space"
	"math"
	"slices"
	"testing"
)

// noProcs, noPages, noFiles and noFilePages are numbers of what there is not; some are
// those of what there is in their lowest bits alone.
func noProcs() []int {
	return []int{math.MinInt, -1 << 32, -8, -1, 8, 9, 16, 64, 1 << 32, 1<<32 + 1, 1 << 62, math.MaxInt}
}

func noPages() []int {
	return []int{math.MinInt, math.MinInt + 1, -1 << 32, -4096, -4095, -1, 4096, 4097, 8192, 1 << 32, 1<<32 + 1, 1 << 62, math.MaxInt}
}

func noFiles() []int {
	return []int{math.MinInt, math.MinInt + 1, -1 << 32, -4, -3, -1, 4, 5, 8, 16, 1 << 32, 1<<32 + 1, 1 << 62, math.MaxInt}
}

func noFilePages() []int {
	return []int{math.MinInt, math.MinInt + 1, -1 << 32, -16, -15, -1, 16, 17, 32, 1 << 32, 1<<32 + 1, 1 << 62, math.MaxInt}
}

// The areas of a process that begun makes: the pages 0 to 7 are its own, 8 to 11 and 12 to
// 15 the same four pages of file 1, from its page 6 on.
const (
	ownAt     = 0
	sharedAt  = 8
	privateAt = 12
	theFile   = 1
	theOff    = 6
)

// begun has process 0, with areas of each kind.
func begun(t *testing.T) *space.Space {
	t.Helper()
	s := newSpace(t)
	start(t, s, 0)
	return s
}

// start makes a process with areas of each kind.
func start(t *testing.T, s *space.Space, n int) {
	t.Helper()
	is(t, s.Spawn(n), api.OK, told("Spawn", n))
	for _, a := range []api.Area{
		{From: ownAt, Pages: 8, Write: true, Kind: api.Own},
		{From: sharedAt, Pages: 4, Write: true, Kind: api.Shared, File: theFile, Off: theOff},
		{From: privateAt, Pages: 4, Write: true, Kind: api.Private, File: theFile, Off: theOff},
		{From: 4091, Pages: 5, Write: true, Kind: api.Own},
	} {
		is(t, s.Map(n, a), api.OK, told("Map", n, a.From))
	}
}

// stores makes a page have a text.
func stores(t *testing.T, s *space.Space, n, page int, b string) {
	t.Helper()
	is(t, s.Store(n, 64*page, []byte(b)), api.OK, told("Store", n, page))
}

// loads fails if a page does not begin with a text.
func loads(t *testing.T, s *space.Space, n, page int, want string) {
	t.Helper()
	b, e := s.Load(n, 64*page, len(want))
	is(t, e, api.OK, told("Load", n, page))
	is(t, string(b), want, told("Load", n, page))
}

// frame is the one that a page has.
func frame(t *testing.T, s *space.Space, n, page int) int {
	t.Helper()
	e, no := s.Tree(n).Get(page)
	if no != api.OK || e.Kind != api.Frame {
		t.Fatalf("%d %d: %v %d, want a frame", n, page, e, no)
	}
	return e.N
}

// sector is what the disk has there.
func sector(t *testing.T, s *space.Space, n int) string {
	t.Helper()
	b, e := s.Disk.Read(n)
	is(t, e, api.OK, told("Read", n))
	return string(b)
}

// never is a disk that does nothing.
func never() trouble {
	return trouble{0, math.MaxInt}
}

func TestExample(t *testing.T) {
	s := begun(t)
	stores(t, s, 0, 3, "the same bytes")
	is(t, out(t, s, 0, 3, trouble{}), api.OK, "Out")
	loads(t, s, 0, 3, "the same bytes")
}

func TestOut(t *testing.T) {
	for _, page := range []int{0, 1, 7, 4091, 4095} {
		s := begun(t)
		b := text("mine", page)
		stores(t, s, 0, page, b)
		f := frame(t, s, 0, page)
		is(t, out(t, s, 0, page, trouble{}), api.OK, "Out")
		is(t, sector(t, s, 160), b, "slot 0")
		is(t, s.Pool.Use(f), api.Free, "its frame")
		is(t, len(s.Back.Of(f)), 0, "who has it")
		is(t, s.Swap.Used(), 1, "slots")
		is(t, s.Pool.Count(0, api.Anon), 0, "frames")
		if e, no := s.Tree(0).Get(page); no != api.OK || e != (api.Entry{Kind: api.Slot}) {
			t.Fatalf("its entry: %v %d", e, no)
		}
		is(t, out(t, s, 0, page, trouble{}), api.ErrNone, "Out again")
		loads(t, s, 0, page, b)
		is(t, s.Swap.Used(), 0, "slots")
		is(t, out(t, s, 0, page, trouble{}), api.OK, "Out behind a load")
	}
}

// TestOutOfZeros: a page that was loaded alone is one that has bytes, too.
func TestOutOfZeros(t *testing.T) {
	s := begun(t)
	loads(t, s, 0, 2, "\x00")
	is(t, out(t, s, 0, 2, trouble{}), api.OK, "Out")
	is(t, sector(t, s, 160), string(make([]byte, 64)), "slot 0")
	loads(t, s, 0, 2, string(make([]byte, 64)))
}

// TestOutOfOneOfTwo: all who had the frame hold the slot, whoever of them is named.
func TestOutOfOneOfTwo(t *testing.T) {
	for named := range 3 {
		s := begun(t)
		stores(t, s, 0, 3, "ours")
		stores(t, s, 0, 4, "too")
		is(t, s.Fork(0, 2), api.OK, "Fork")
		is(t, s.Fork(2, 1), api.OK, "Fork")
		is(t, s.Put(api.Place{Proc: 1, Page: 5}, api.Entry{Kind: api.Frame, N: frame(t, s, 0, 3)}), api.OK, "Put")
		stores(t, s, 2, 4, "mine")
		is(t, out(t, s, named, 3, trouble{}), api.OK, "Out")
		if got := s.Swap.Of(0); !slices.Equal(got, []api.Place{{Proc: 0, Page: 3}, {Proc: 1, Page: 3}, {Proc: 1, Page: 5}, {Proc: 2, Page: 3}}) {
			t.Fatalf("who holds the slot: %v", got)
		}
		for n := range 3 {
			is(t, out(t, s, n, 3, trouble{}), api.ErrNone, "Out again")
			loads(t, s, n, 4, []string{"too", "too", "mine"}[n])
		}
		stores(t, s, 2, 3, "now mine")
		loads(t, s, 0, 3, "ours")
		loads(t, s, 1, 5, "ours")
		loads(t, s, 2, 3, "now mine")
	}
}

// TestOutOfPrivate: a page of a file that was written by a process is its own.
func TestOutOfPrivate(t *testing.T) {
	s := begun(t)
	loads(t, s, 0, privateAt, "sector 118")
	is(t, out(t, s, 0, privateAt, trouble{}), api.ErrNone, "Out of the file's frame")
	stores(t, s, 0, privateAt, "mine")
	is(t, out(t, s, 0, privateAt, trouble{}), api.OK, "Out")
	loads(t, s, 0, sharedAt, "sector 118")
	loads(t, s, 0, privateAt, "mineor 118")
}

func TestOutNone(t *testing.T) {
	s := begun(t)
	start(t, s, 7)
	stores(t, s, 0, 3, "mine")
	stores(t, s, 0, sharedAt, "dirty")
	loads(t, s, 0, sharedAt+1, "sector")
	loads(t, s, 0, privateAt+1, "sector")
	is(t, s.Put(api.Place{Page: 5}, api.Entry{Kind: api.Lost}), api.OK, "Put")
	for _, page := range append(noPages(), 0, 2, 4, 5, sharedAt, sharedAt+1, sharedAt+2, privateAt, privateAt+1, 100, 4095) {
		is(t, out(t, s, 0, page, trouble{}), api.ErrNone, told("Out", page))
	}
	for _, n := range append(noProcs(), 1, 6, 7) {
		is(t, out(t, s, n, 3, trouble{}), api.ErrNone, told("Out of process", n))
	}
	is(t, out(t, s, 0, 3, trouble{}), api.OK, "Out of a page that has a frame")
}

// TestOutOfOtherUses: a page whose frame is for something else has none of use Anon.
func TestOutOfOtherUses(t *testing.T) {
	s := begun(t)
	p := api.Place{Page: 2}
	for use := api.Table; use <= api.Balloon; use++ {
		f, e := s.Pool.Alloc(use, 0, true)
		is(t, e, api.OK, "Alloc")
		is(t, s.Put(p, api.Entry{Kind: api.Frame, N: f}), api.OK, "Put")
		before := s.Disk.Loose()
		want := api.ErrNone
		if use == api.Anon {
			want = api.OK
		}
		is(t, Out(s, 0, 2), want, told("Out of use", use))
		is(t, len(s.Disk.Loose()) > len(before), use == api.Anon, "written")
		s.Put(p, api.Entry{})
	}
	s.Pool.Spoil(90)
	for _, f := range []int{90, 95, 96, 1023} {
		is(t, s.Put(p, api.Entry{Kind: api.Frame, N: f}), api.OK, "Put")
		is(t, Out(s, 0, 2), api.ErrNone, told("Out of frame", f))
	}
}

// slots has all slots held, by the pages 16 to 47 of process 0.
func slots(t *testing.T) *space.Space {
	t.Helper()
	s := begun(t)
	is(t, s.Map(0, api.Area{From: 16, Pages: 32, Write: true, Kind: api.Own}), api.OK, "Map")
	for slot := range 32 {
		stores(t, s, 0, 16+slot, told("slot", slot))
		is(t, out(t, s, 0, 16+slot, trouble{}), api.OK, told("Out", slot))
		if e, no := s.Tree(0).Get(16 + slot); no != api.OK || e != (api.Entry{Kind: api.Slot, N: slot}) {
			t.Fatalf("%v %d, want slot %d", e, no, slot)
		}
	}
	return s
}

// TestOutSlots: the least slot that nobody holds, as long as there is one.
func TestOutSlots(t *testing.T) {
	s := slots(t)
	stores(t, s, 0, 0, "mine")
	is(t, out(t, s, 0, 0, trouble{}), api.ErrFull, "Out, and no slot")
	for _, slot := range []int{31, 0, 17} {
		loads(t, s, 0, 16+slot, told("slot", slot))
		is(t, out(t, s, 0, 0, trouble{}), api.OK, told("Out", slot))
		is(t, out(t, s, 0, 16+slot, trouble{}), api.ErrFull, told("Out again", slot))
		if e, _ := s.Tree(0).Get(0); e.N != slot {
			t.Fatalf("slot %d, want %d", e.N, slot)
		}
		loads(t, s, 0, 0, "mine")
		is(t, out(t, s, 0, 16+slot, trouble{}), api.OK, told("Out again", slot))
	}
}

// TestOutFull: the error that is named first, and no work of the disk.
func TestOutFull(t *testing.T) {
	s := slots(t)
	is(t, s.Disk.Flush(), api.OK, "Flush")
	stores(t, s, 0, 0, "mine")
	loads(t, s, 0, sharedAt, "sector")
	s.Disk.Fail(0, 1)
	is(t, Out(s, 0, 0), api.ErrFull, "Out")
	is(t, Out(s, 0, 1), api.ErrNone, "Out of no frame")
	is(t, Out(s, 0, sharedAt), api.ErrNone, "Out of a file's frame")
	_, e := s.Disk.Read(0)
	is(t, e, api.ErrIO, "the first work")
	is(t, len(s.Disk.Loose()), 0, "what was written")
	loads(t, s, 0, 0, "mine")
}

func TestOutDiskFails(t *testing.T) {
	s := begun(t)
	stores(t, s, 0, 3, "mine")
	is(t, s.Fork(0, 1), api.OK, "Fork")
	f := frame(t, s, 0, 3)
	is(t, out(t, s, 0, 3, never()), api.ErrIO, "Out")
	is(t, out(t, s, 0, 2, never()), api.ErrNone, "Out of no frame")
	s.Disk.Fuse(0)
	is(t, Out(s, 1, 3), api.ErrDown, "Out, and no power")
	is(t, Out(s, 1, 2), api.ErrNone, "Out of no frame, and no power")
	is(t, frame(t, s, 0, 3), f, "its frame")
	is(t, s.Swap.Used(), 0, "slots")
	loads(t, s, 0, 3, "mine")
	s.Disk.Crash(0, 0)
	is(t, out(t, s, 1, 3, trouble{1, 9}), api.OK, "Out: one work")
	loads(t, s, 0, 3, "mine")
}

// small is a Space over a disk of other sizes.
func small(t *testing.T, d *disk.Disk) *space.Space {
	t.Helper()
	p := pool.New()
	is(t, p.Online(0, api.Normal), api.OK, "Online")
	s := space.New(ram.New(32), d, p)
	start(t, s, 0)
	return s
}

func TestSmallDisk(t *testing.T) {
	for _, d := range []*disk.Disk{nil, disk.New(0), disk.New(160)} {
		s := small(t, d)
		stores(t, s, 0, 3, "mine")
		is(t, Out(s, 0, 3), api.ErrArg, "Out")
		is(t, s.Swap.Used(), 0, "slots")
		loads(t, s, 0, 3, "mine")
	}
	s := small(t, disk.New(96+16+10))
	for page := range 4 {
		stores(t, s, 0, sharedAt+page, told("page", page))
	}
	is(t, Sync(s, theFile), api.OK, "Sync")
	s = small(t, nil)
	is(t, Sync(s, theFile), api.ErrArg, "Sync of no disk")
}

// TestPoison: bytes that can't be read do not go out, and nobody's other ones either.
func TestPoison(t *testing.T) {
	s := begun(t)
	stores(t, s, 0, 3, "mine")
	stores(t, s, 0, sharedAt, "dirty")
	stores(t, s, 0, sharedAt+1, "dirty, too")
	loads(t, s, 0, sharedAt+2, "sector")
	want := stateOf(t, s, "ahead")
	s.Ram.Poison(frame(t, s, 0, 3))
	s.Ram.Poison(frame(t, s, 0, sharedAt+1))
	s.Ram.Poison(frame(t, s, 0, sharedAt+2))
	want.bytes = stateOf(t, s, "poisoned").bytes
	is(t, Out(s, 0, 3), api.ErrPoison, "Out")
	is(t, Drop(s, theFile, theOff+1), api.ErrPoison, "Drop")
	same(t, stateOf(t, s, "refused"), want, "refused")
	is(t, Sync(s, theFile), api.ErrPoison, "Sync")
	want.clean(cache.Key{File: theFile, Page: theOff}, &trouble{})
	same(t, stateOf(t, s, "Sync"), want, "Sync")
	is(t, Drop(s, theFile, theOff+2), api.OK, "Drop of a clean one: its bytes are not asked for")
	is(t, Drop(s, theFile, theOff), api.OK, "Drop")
}

// TestPoisonedTable: where somebody can't be made to let go of a frame, all keep it, and
// the disk has no work. Nobody but process 0 has the frames behind these.
func TestPoisonedTable(t *testing.T) {
	for _, page := range []int{3, 4091} {
		s := begun(t)
		stores(t, s, 0, sharedAt, "dirty")
		stores(t, s, 0, 1, "between them")
		stores(t, s, 0, page, "mine")
		is(t, s.Fork(0, 1), api.OK, "Fork")
		is(t, s.Put(api.Place{Proc: 1, Page: 1}, api.Entry{}), api.OK, "Put")
		f, g := frame(t, s, 0, page), frame(t, s, 0, sharedAt)
		for _, table := range s.Tree(1).Tables() {
			s.Ram.Poison(table)
		}
		s.Disk.Fail(0, 1)
		is(t, Out(s, 0, page), api.ErrPoison, "Out")
		is(t, Out(s, 1, page), api.ErrNone, "Out of a page that can't be asked")
		is(t, Drop(s, theFile, theOff), api.ErrPoison, "Drop")
		is(t, Drop(s, theFile, theOff+1), api.ErrNone, "Drop of a page in no frame")
		_, e := s.Disk.Read(0)
		is(t, e, api.ErrIO, "the first work")
		is(t, frame(t, s, 0, page), f, "the frame")
		is(t, frame(t, s, 0, sharedAt), g, "the file's frame")
		is(t, s.Cache.Dirty(cache.Key{File: theFile, Page: theOff}), true, "dirty")
		is(t, s.Swap.Used(), 0, "slots")
		is(t, Sync(s, theFile), api.OK, "Sync")
		is(t, s.Exit(1), api.OK, "Exit")
		is(t, out(t, s, 0, page, trouble{}), api.OK, "Out")
		is(t, drop(t, s, theFile, theOff, trouble{}), api.OK, "Drop")
	}
}

// TestPoisonedTableOfOthers: a table that is on the way to other pages keeps nobody's.
func TestPoisonedTableOfOthers(t *testing.T) {
	s := begun(t)
	stores(t, s, 0, 3, "mine")
	stores(t, s, 0, sharedAt, "dirty")
	before := s.Tree(0).Tables()
	is(t, s.Map(0, api.Area{From: 512, Pages: 1, Kind: api.Shared, File: 2}), api.OK, "Map")
	stores(t, s, 0, 4091, "far")
	loads(t, s, 0, 512, "sector")
	is(t, s.Fork(0, 2), api.OK, "Fork")
	for _, table := range s.Tree(0).Tables() {
		if !slices.Contains(before, table) {
			s.Ram.Poison(table)
		}
	}
	is(t, Out(s, 2, 4091), api.ErrPoison, "Out of a far one")
	is(t, Drop(s, 2, 0), api.ErrPoison, "Drop of a far one")
	is(t, Out(s, 2, 3), api.OK, "Out")
	is(t, Drop(s, theFile, theOff), api.OK, "Drop")
	loads(t, s, 0, 3, "mine")
	loads(t, s, 0, sharedAt, "dirty")
}

// TestPoisonedTableAndNoSlot: the error that the words name is answered.
func TestPoisonedTableAndNoSlot(t *testing.T) {
	s := slots(t)
	stores(t, s, 0, 0, "mine")
	is(t, s.Fork(0, 1), api.OK, "Fork")
	for _, table := range s.Tree(1).Tables() {
		s.Ram.Poison(table)
	}
	is(t, Out(s, 0, 0), api.ErrFull, "Out")
}

// dirtied has four pages of the file in frames: 6, 7 and 9 are dirty, 8 is not; and a
// dirty page of each file beside it.
func dirtied(t *testing.T) *space.Space {
	t.Helper()
	s := begun(t)
	for n := range 4 {
		is(t, s.Map(0, api.Area{From: 16 + n, Pages: 1, Write: true, Kind: api.Shared, File: n, Off: 15 * (n % 2)}), api.OK, "Map")
		if n != theFile {
			stores(t, s, 0, 16+n, told("another", n))
		}
	}
	loads(t, s, 0, sharedAt+2, "sector")
	for _, page := range []int{3, 0, 1} {
		stores(t, s, 0, sharedAt+page, told("written", page))
	}
	return s
}

func TestSync(t *testing.T) {
	s := dirtied(t)
	is(t, s.Disk.Write(120, []byte(text("not read"))), api.OK, "Write of what is clean")
	is(t, sync(t, s, theFile, trouble{}), api.OK, "Sync")
	is(t, sector(t, s, 118)[:9], "written 0", "page 6")
	is(t, sector(t, s, 119)[:9], "written 1", "page 7")
	is(t, sector(t, s, 120), text("not read"), "page 8, which was clean")
	is(t, sector(t, s, 121)[:9], "written 3", "page 9")
	is(t, len(s.Disk.Loose()), 0, "loose")
	for n := range 4 {
		for _, k := range s.Cache.Keys(n) {
			is(t, s.Cache.Dirty(k), n != theFile, told("dirty", n, k.Page))
		}
	}
	is(t, sync(t, s, theFile, trouble{}), api.OK, "Sync again")
	for n := range 4 {
		is(t, sync(t, s, n, trouble{}), api.OK, told("Sync", n))
	}
	is(t, sector(t, s, 96)[:9], "another 0", "file 0")
	is(t, sector(t, s, 96+2*16)[:9], "another 2", "file 2")
	is(t, sector(t, s, 96+4*16-1)[:9], "another 3", "file 3")
}

// TestSyncLasts: what is synced is sure, and what is stored behind that is not.
func TestSyncLasts(t *testing.T) {
	s := dirtied(t)
	is(t, sync(t, s, theFile, trouble{}), api.OK, "Sync")
	stores(t, s, 0, sharedAt, "behind it")
	s.Disk.Crash(0, 0)
	is(t, sector(t, s, 118)[:9], "written 0", "page 6")
	is(t, sector(t, s, 121)[:9], "written 3", "page 9")
}

// TestSyncFlushes: what others wrote is sure, too, also if no page is dirty.
func TestSyncFlushes(t *testing.T) {
	s := newSpace(t)
	is(t, sync(t, s, 3, trouble{}), api.OK, "Sync of a file of which nothing is in a frame")
	is(t, s.Disk.Write(7, []byte(text("loose"))), api.OK, "Write")
	is(t, sync(t, s, 2, trouble{}), api.OK, "Sync")
	is(t, len(s.Disk.Loose()), 0, "loose")
	s.Disk.Crash(0, 0)
	is(t, sector(t, s, 7), text("loose"), "what was loose")
}

func TestSyncArg(t *testing.T) {
	s := dirtied(t)
	is(t, s.Disk.Write(7, []byte(text("loose"))), api.OK, "Write")
	for _, n := range noFiles() {
		is(t, sync(t, s, n, trouble{}), api.ErrArg, told("Sync", n))
		is(t, sync(t, s, n, never()), api.ErrArg, told("Sync", n))
	}
	is(t, len(s.Disk.Loose()), 1, "loose")
}

// TestSyncFails: three writes and a Flush; the disk fails at each of them.
func TestSyncFails(t *testing.T) {
	for done := range 6 {
		s := dirtied(t)
		want := api.ErrIO
		if done > 3 {
			want = api.OK
		}
		is(t, sync(t, s, theFile, trouble{done, 1}), want, told("Sync", done))
		left := 0
		for _, k := range s.Cache.Keys(theFile) {
			if s.Cache.Dirty(k) {
				left++
			}
		}
		is(t, left, max(3-done, 0), told("dirty", done))
		is(t, len(s.Disk.Loose()), []int{0, 1, 2, 3, 0, 0}[done], told("loose", done))
		is(t, sync(t, s, theFile, trouble{}), api.OK, "Sync behind it")
		is(t, sector(t, s, 118)[:9]+sector(t, s, 121)[:9], "written 0written 3", "what is written")
	}
}

// TestSyncPower: behind a crash the pages are as they were, unless the Sync was done.
func TestSyncPower(t *testing.T) {
	for works := range 6 {
		s := dirtied(t)
		s.Disk.Fuse(works)
		want, has := api.ErrDown, "sector 11"
		if works > 3 {
			want, has = api.OK, "written 0"
		}
		is(t, Sync(s, theFile), want, told("Sync", works))
		s.Disk.Crash(0, 0)
		is(t, sector(t, s, 118)[:9], has, told("page 6", works))
		is(t, Sync(s, theFile), api.OK, "Sync behind it")
		loads(t, s, 0, sharedAt, "written 0")
	}
}

func TestDrop(t *testing.T) {
	for page := range 4 {
		s := dirtied(t)
		loads(t, s, 0, privateAt+page, "")
		is(t, s.Fork(0, 3), api.OK, "Fork")
		k := cache.Key{File: theFile, Page: theOff + page}
		f, _ := s.Cache.Frame(k)
		is(t, drop(t, s, k.File, k.Page, trouble{}), api.OK, "Drop")
		is(t, s.Pool.Use(f), api.Free, "its frame")
		is(t, len(s.Back.Of(f)), 0, "who has it")
		_, ok := s.Cache.Frame(k)
		is(t, ok, false, "in a frame")
		is(t, len(s.Disk.Loose()), []int{1, 1, 0, 1}[page], "loose")
		is(t, drop(t, s, k.File, k.Page, trouble{}), api.ErrNone, "Drop again")
		want := []string{"written 0", "written 1", "sector 120", "written 3"}[page]
		for _, n := range []int{0, 3} {
			loads(t, s, n, sharedAt+page, want)
			loads(t, s, n, privateAt+page, want)
		}
	}
}

// TestDropOfClean: a page that is clean is not written, and is read anew.
func TestDropOfClean(t *testing.T) {
	s := dirtied(t)
	is(t, s.Disk.Write(120, []byte(text("anew"))), api.OK, "Write")
	is(t, drop(t, s, theFile, theOff+2, never()), api.OK, "Drop: no work")
	loads(t, s, 0, sharedAt+2, text("anew"))
}

// TestDropOfSynced: what is on the disk is not written again.
func TestDropOfSynced(t *testing.T) {
	s := dirtied(t)
	is(t, sync(t, s, theFile, trouble{}), api.OK, "Sync")
	is(t, drop(t, s, theFile, theOff, never()), api.OK, "Drop: no work")
	loads(t, s, 0, sharedAt, "written 0")
	is(t, drop(t, s, theFile, theOff, never()), api.OK, "Drop of what was read anew")
	stores(t, s, 0, sharedAt, "again")
	is(t, drop(t, s, theFile, theOff, never()), api.ErrIO, "Drop of what was stored since")
}

// TestDropOfPrivate: who wrote to a page of a Private area keeps its own.
func TestDropOfPrivate(t *testing.T) {
	s := dirtied(t)
	stores(t, s, 0, privateAt, "mine")
	f := frame(t, s, 0, privateAt)
	is(t, drop(t, s, theFile, theOff, trouble{}), api.OK, "Drop")
	is(t, frame(t, s, 0, privateAt), f, "its own frame")
	loads(t, s, 0, privateAt, "mineten 0")
	loads(t, s, 0, sharedAt, "written 0")
}

// TestDropOfNobodys: a page that nobody has any more is in a frame till it is dropped.
func TestDropOfNobodys(t *testing.T) {
	s := dirtied(t)
	is(t, s.Exit(0), api.OK, "Exit")
	for page := range 4 {
		is(t, drop(t, s, theFile, theOff+page, trouble{}), api.OK, told("Drop", page))
	}
	start(t, s, 0)
	loads(t, s, 0, sharedAt, "written 0")
	loads(t, s, 0, sharedAt+2, "sector 120")
}

// TestDropIsNoSync: what was written by it is loose, till a Sync of whatever file.
func TestDropIsNoSync(t *testing.T) {
	s := dirtied(t)
	is(t, drop(t, s, theFile, theOff, trouble{}), api.OK, "Drop")
	is(t, drop(t, s, theFile, theOff+1, trouble{}), api.OK, "Drop")
	s.Disk.Crash(1, 64)
	is(t, sector(t, s, 118)[:9], "written 0", "page 6, which was kept")
	is(t, sector(t, s, 119), text("sector", 119), "page 7, which was not")
	is(t, drop(t, s, theFile, theOff+3, trouble{}), api.OK, "Drop")
	is(t, sync(t, s, 2, trouble{}), api.OK, "Sync")
	s.Disk.Crash(0, 0)
	is(t, sector(t, s, 121)[:9], "written 3", "page 9")
}

func TestDropWrong(t *testing.T) {
	s := dirtied(t)
	for _, n := range noFiles() {
		for _, page := range []int{0, theOff, -1, 16} {
			is(t, drop(t, s, n, page, trouble{}), api.ErrArg, told("Drop", n, page))
		}
	}
	for _, page := range noFilePages() {
		for n := range 4 {
			is(t, drop(t, s, n, page, never()), api.ErrArg, told("Drop", n, page))
		}
	}
	for n := range 4 {
		for page := range 16 {
			if _, ok := s.Cache.Frame(cache.Key{File: n, Page: page}); !ok {
				is(t, drop(t, s, n, page, never()), api.ErrNone, told("Drop", n, page))
			}
		}
	}
}

func TestDropDiskFails(t *testing.T) {
	s := dirtied(t)
	is(t, s.Fork(0, 3), api.OK, "Fork")
	is(t, drop(t, s, theFile, theOff, never()), api.ErrIO, "Drop")
	is(t, drop(t, s, theFile, theOff, trouble{1, 9}), api.OK, "Drop: one work")
	f, _ := s.Cache.Frame(cache.Key{File: theFile, Page: theOff + 1})
	s.Disk.Fuse(0)
	is(t, Drop(s, theFile, theOff+1), api.ErrDown, "Drop, and no power")
	is(t, Drop(s, theFile, theOff+2), api.OK, "Drop of what is clean, and no power")
	is(t, frame(t, s, 3, sharedAt+1), f, "its frame")
	is(t, s.Cache.Dirty(cache.Key{File: theFile, Page: theOff + 1}), true, "dirty")
	loads(t, s, 0, sharedAt+1, "written 1")
}

// TestEachFilePage: each page of each file has its own sector.
func TestEachFilePage(t *testing.T) {
	for n := range 4 {
		s := newSpace(t)
		is(t, s.Spawn(0), api.OK, "Spawn")
		is(t, s.Map(0, api.Area{Pages: 16, Write: true, Kind: api.Shared, File: n}), api.OK, "Map")
		for page := range 16 {
			stores(t, s, 0, page, told("page", n, page))
		}
		is(t, drop(t, s, n, 0, trouble{}), api.OK, "Drop")
		is(t, drop(t, s, n, 15, trouble{}), api.OK, "Drop")
		is(t, sync(t, s, n, trouble{}), api.OK, "Sync")
		for page := range 16 {
			want := told("page", n, page)
			b, e := file.Read(s.Disk, n, page)
			is(t, e, api.OK, "Read")
			is(t, string(b[:len(want)]), want, "page")
			loads(t, s, 0, page, want)
		}
	}
}

func TestNil(t *testing.T) {
	for _, n := range append(noFiles(), 0, 3) {
		is(t, Out(nil, n, 0), api.ErrArg, "Out")
		is(t, Sync(nil, n), api.ErrArg, "Sync")
		is(t, Drop(nil, n, 0), api.ErrArg, "Drop")
	}
}

// TestOverNothing: a Space that names nothing has no frame of anything.
func TestOverNothing(t *testing.T) {
	for _, s := range []*space.Space{{}, space.New(nil, nil, nil)} {
		is(t, Out(s, 0, 0), api.ErrNone, "Out")
		is(t, Sync(s, 0), api.ErrArg, "Sync: there is no disk")
		is(t, Sync(s, 4), api.ErrArg, "Sync")
		is(t, Drop(s, 0, 0), api.ErrNone, "Drop")
		is(t, Drop(s, 0, 16), api.ErrArg, "Drop")
	}
}

// TestTwoSpaces: nothing is kept between calls but in the Space.
func TestTwoSpaces(t *testing.T) {
	a, b := dirtied(t), dirtied(t)
	stores(t, a, 0, 0, "mine")
	stores(t, b, 0, 0, "yours")
	was := stateOf(t, b, "b")
	is(t, out(t, a, 0, 0, trouble{}), api.OK, "Out")
	is(t, sync(t, a, theFile, trouble{}), api.OK, "Sync")
	is(t, drop(t, a, theFile, theOff, trouble{}), api.OK, "Drop")
	same(t, stateOf(t, b, "b"), was, "b")
	is(t, out(t, b, 0, 0, trouble{}), api.OK, "Out")
	loads(t, a, 0, 0, "mine")
	loads(t, b, 0, 0, "yours")
}
