package evict

import (
	"cmp"
	"fmt"
	"headland/api"
	"headland/cache"
	"headland/disk"
	"headland/pool"
	"headland/ram"
	"headland/space"
	"reflect"
	"slices"
	"strconv"
	"testing"
)

// sections is how many are on line in a world.
const sections = 3

// stand is how a page of a file stands in memory.
type stand struct {
	frame int
	dirty bool
}

// state is all that can be seen of a Space. What a call must do to it is done by the words
// alone: who has a frame or holds a slot is found by looking at each entry.
type state struct {
	entries map[api.Place]api.Entry // none of these has Nothing
	uses    [32 * sections]int      // a table's frame counts as Free here, see tables
	bytes   map[int]string          // of frames that have bytes of pages
	tables  map[int]int             // how many each process has
	files   map[cache.Key]stand
	disk    map[int]string
	loose   []int
	areas   map[int][]api.Area
}

// trouble is what the disk does: so many works, and then so many that fail.
type trouble struct{ done, fails int }

func (x *trouble) work() api.Errno {
	switch {
	case x.done > 0:
		x.done--
	case x.fails > 0:
		x.fails--
		return api.ErrIO
	}
	return api.OK
}

// is fails if a call did not answer what was wanted.
func is[T comparable](t *testing.T, got, want T, what string) {
	t.Helper()
	if got != want {
		t.Fatalf("%s: %v, want %v", what, got, want)
	}
}

// told is a call as text.
func told(call string, numbers ...int) string {
	for _, n := range numbers {
		call += " " + strconv.Itoa(n)
	}
	return call
}

// text is a page that begins with a word and numbers, and has bytes that differ up to its
// end.
func text(word string, numbers ...int) string {
	b := []byte(told(word, numbers...))
	for len(b) < api.PageSize {
		b = append(b, byte(len(b)*7+len(word))|1)
	}
	return string(b)
}

// newSpace has a Normal section between two Movable ones, so that frame 0 is a page's; and
// pages of files and slots that differ. Nothing is loose.
func newSpace(t *testing.T) *space.Space {
	t.Helper()
	d, p := disk.New(api.DiskSectors), pool.New()
	for n := range sections {
		zone := api.Movable
		if n == 1 {
			zone = api.Normal
		}
		is(t, p.Online(n, zone), api.OK, "Online")
	}
	for n := range api.DiskSectors {
		is(t, d.Write(n, []byte(text("sector", n))), api.OK, "Write")
	}
	is(t, d.Flush(), api.OK, "Flush")
	return space.New(ram.New(32*sections), d, p)
}

// pages are those that are looked at, and that tests use.
func pages() []int {
	var list []int
	for page := range api.MaxPages {
		if page < 48 || page >= 63 && page < 66 || page == 511 || page == 512 || page > 4090 {
			list = append(list, page)
		}
	}
	return list
}

// stateOf looks at all of a Space, and fails if what it names does not tell the same.
func stateOf(t *testing.T, s *space.Space, what string) *state {
	t.Helper()
	x := &state{entries: map[api.Place]api.Entry{}, bytes: map[int]string{}, tables: map[int]int{}, files: map[cache.Key]stand{}, disk: map[int]string{}, areas: map[int][]api.Area{}}
	for _, n := range s.Procs() {
		x.tables[n] = len(s.Tree(n).Tables())
		x.areas[n] = s.Areas(n)
		for _, page := range pages() {
			e, no := s.Tree(n).Get(page)
			is(t, no, api.OK, told(what+": Get", n, page))
			if e.Kind != api.Nothing {
				x.entries[api.Place{Proc: n, Page: page}] = e
			}
		}
	}
	for _, k := range s.Cache.Keys(-1) {
		f, _ := s.Cache.Frame(k)
		x.files[k] = stand{f, s.Cache.Dirty(k)}
	}
	x.seeFrames(t, s, what)
	for slot := range api.MaxSlots {
		if got := s.Swap.Of(slot); !slices.Equal(got, x.who(api.Slot, slot)) {
			t.Fatalf("%s: slot %d: %v hold it, want %v", what, slot, got, x.who(api.Slot, slot))
		}
	}
	for n := range s.Disk.Sectors() {
		b, _ := s.Disk.Read(n)
		x.disk[n] = string(b)
	}
	x.loose = s.Disk.Loose()
	return x
}

// seeFrames looks at the frames.
func (x *state) seeFrames(t *testing.T, s *space.Space, what string) {
	t.Helper()
	tables, all := 0, 0
	for f := range x.uses {
		x.uses[f] = s.Pool.Use(f)
		switch x.uses[f] {
		case api.Table:
			tables++
			x.uses[f] = api.Free
		case api.Anon, api.Cache:
			b, _ := s.Ram.Read(f, 0, api.PageSize)
			x.bytes[f] = string(b)
		}
		if got := s.Back.Of(f); !slices.Equal(got, x.who(api.Frame, f)) {
			t.Fatalf("%s: frame %d: %v have it, want %v", what, f, got, x.who(api.Frame, f))
		}
	}
	for _, n := range x.tables {
		all += n
	}
	is(t, tables, all, what+": frames of tables")
}

// who answers the places whose entries are so, by Proc, then by Page.
func (x *state) who(kind, n int) []api.Place {
	var list []api.Place
	for p, e := range x.entries {
		if e.Kind == kind && e.N == n {
			list = append(list, p)
		}
	}
	slices.SortFunc(list, func(a, b api.Place) int { return cmp.Or(a.Proc-b.Proc, a.Page-b.Page) })
	return list
}

// same fails if a state is not as it must be.
func same(t *testing.T, got, want *state, what string) {
	t.Helper()
	a, b := reflect.ValueOf(*got), reflect.ValueOf(*want)
	for i := range a.NumField() {
		if f, g := fmt.Sprint(a.Field(i)), fmt.Sprint(b.Field(i)); f != g {
			t.Fatalf("%s: %s: %q, want %q", what, a.Type().Field(i).Name, f, g)
		}
	}
}

// give makes places have an entry, and counts the tables anew.
func (x *state) give(list []api.Place, e api.Entry) {
	for _, p := range list {
		x.entries[p] = e
		if e.Kind == api.Nothing {
			delete(x.entries, p)
		}
	}
	heads := map[[3]int]bool{}
	for n := range x.tables {
		x.tables[n] = 1
	}
	for p := range x.entries {
		for _, size := range []int{512, 64, 8} {
			k := [3]int{p.Proc, size, p.Page / size}
			if !heads[k] {
				heads[k] = true
				x.tables[p.Proc]++
			}
		}
	}
}

// write makes a sector have bytes, which are loose.
func (x *state) write(sector int, b string) {
	x.disk[sector] = b
	if !slices.Contains(x.loose, sector) {
		x.loose = append(x.loose, sector)
		slices.Sort(x.loose)
	}
}

// free makes a frame be so.
func (x *state) free(f int) {
	x.uses[f] = api.Free
	delete(x.bytes, f)
}

func (x *state) out(p api.Place, d trouble) api.Errno {
	e := x.entries[p]
	if e.Kind != api.Frame || x.uses[e.N] != api.Anon {
		return api.ErrNone
	}
	slot := 0
	for len(x.who(api.Slot, slot)) > 0 {
		slot++
	}
	if slot == 32 {
		return api.ErrFull
	}
	if no := d.work(); no != api.OK {
		return no
	}
	x.write(160+slot, x.bytes[e.N])
	x.give(x.who(api.Frame, e.N), api.Entry{Kind: api.Slot, N: slot})
	x.free(e.N)
	return api.OK
}

// clean makes a page of a file be on the disk, if it is dirty.
func (x *state) clean(k cache.Key, d *trouble) api.Errno {
	at := x.files[k]
	if !at.dirty {
		return api.OK
	}
	no := d.work()
	if no == api.OK {
		x.write(96+16*k.File+k.Page, x.bytes[at.frame])
		x.files[k] = stand{at.frame, false}
	}
	return no
}

func (x *state) sync(n int, d trouble) api.Errno {
	if n < 0 || n > 3 {
		return api.ErrArg
	}
	for page := range 16 {
		if no := x.clean(cache.Key{File: n, Page: page}, &d); no != api.OK {
			return no
		}
	}
	no := d.work()
	if no == api.OK {
		x.loose = nil
	}
	return no
}

func (x *state) drop(n, page int, d trouble) api.Errno {
	if n < 0 || n > 3 || page < 0 || page > 15 {
		return api.ErrArg
	}
	k := cache.Key{File: n, Page: page}
	at, ok := x.files[k]
	if !ok {
		return api.ErrNone
	}
	if no := x.clean(k, &d); no != api.OK {
		return no
	}
	x.give(x.who(api.Frame, at.frame), api.Entry{})
	x.free(at.frame)
	delete(x.files, k)
	return api.OK
}

// call does something to a Space, whose disk is in trouble meanwhile, and to what it was
// ahead of that, and fails if these are not the same.
func call(t *testing.T, s *space.Space, d trouble, what string, real func() api.Errno, words func(x *state) api.Errno) api.Errno {
	t.Helper()
	want := stateOf(t, s, "ahead of "+what)
	s.Disk.Fail(d.done, d.fails)
	got := real()
	s.Disk.Fail(0, 0)
	is(t, got, words(want), what)
	same(t, stateOf(t, s, what), want, what)
	return got
}

// out, sync and drop are the calls, held against the words.
func out(t *testing.T, s *space.Space, n, page int, d trouble) api.Errno {
	t.Helper()
	return call(t, s, d, told("Out", n, page, d.done, d.fails), func() api.Errno { return Out(s, n, page) }, func(x *state) api.Errno {
		return x.out(api.Place{Proc: n, Page: page}, d)
	})
}

func sync(t *testing.T, s *space.Space, n int, d trouble) api.Errno {
	t.Helper()
	return call(t, s, d, told("Sync", n, d.done, d.fails), func() api.Errno { return Sync(s, n) }, func(x *state) api.Errno {
		return x.sync(n, d)
	})
}

func drop(t *testing.T, s *space.Space, n, page int, d trouble) api.Errno {
	t.Helper()
	return call(t, s, d, told("Drop", n, page, d.done, d.fails), func() api.Errno { return Drop(s, n, page) }, func(x *state) api.Errno {
		return x.drop(n, page, d)
	})
}
