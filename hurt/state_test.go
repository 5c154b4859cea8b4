package hurt

import (
	"cmp"
	"fmt"
	"headland/api"
	"headland/cache"
	"headland/disk"
	"headland/pool"
	"headland/ram"
	"headland/space"
	"reflect"
	"slices"
	"strconv"
	"testing"
)

// sections is how many are on line in a space; frames how many it has: those of one more
// section, which is not on line.
const (
	sections = 4
	frames   = 32 * (sections + 1)
)

// stand is how a page of a file stands in memory.
type stand struct {
	frame int
	dirty bool
}

// state is all that can be seen of a Space. What a call must do to it is done by the words
// alone: who has a frame or holds a slot is found by looking at each entry.
type state struct {
	entries  map[api.Place]api.Entry // none of these has Nothing
	uses     [frames]int
	poisoned [frames]bool
	zones    [sections + 1]int
	bytes    map[int]string // of frames of use Anon and Cache
	tables   map[int][]int
	files    map[cache.Key]stand
	disk     map[int]string
	loose    []int
	areas    map[int][]api.Area
	signals  map[int][]api.Sig
}

// is fails if a call did not answer what was wanted.
func is[T comparable](t *testing.T, got, want T, what string) {
	t.Helper()
	if got != want {
		t.Fatalf("%s: %v, want %v", what, got, want)
	}
}

// are fails if a list is another one.
func are[T comparable](t *testing.T, got, want []T, what string) {
	t.Helper()
	if !slices.Equal(got, want) {
		t.Fatalf("%s: %v, want %v", what, got, want)
	}
}

// told is a call as text.
func told(call string, numbers ...int) string {
	for _, n := range numbers {
		call += " " + strconv.Itoa(n)
	}
	return call
}

// text is a page that begins with a word and numbers, and has bytes that differ up to its
// end.
func text(word string, numbers ...int) string {
	b := []byte(told(word, numbers...))
	for len(b) < api.PageSize {
		b = append(b, byte(len(b)*7+len(word))|1)
	}
	return string(b)
}

// newSpace has Movable sections on both sides of a Normal one, so that frame 0 is a page's;
// a Normal one behind them; frames that were used by somebody once; and pages of files and
// slots that differ. Nothing is loose.
func newSpace(t *testing.T) *space.Space {
	t.Helper()
	d, p, m := disk.New(api.DiskSectors), pool.New(), ram.New(frames)
	for n := range sections {
		zone := []int{api.Movable, api.Normal, api.Movable, api.Normal}[n]
		is(t, p.Online(n, zone), api.OK, "Online")
	}
	for f := range frames {
		is(t, m.Write(f, 0, []byte(text("old", f))), api.OK, "Write")
	}
	for n := range api.DiskSectors {
		is(t, d.Write(n, []byte(text("sector", n))), api.OK, "Write")
	}
	is(t, d.Flush(), api.OK, "Flush")
	return space.New(m, d, p)
}

// pages are those that are looked at, and that tests use.
func pages() []int {
	var list []int
	for page := range api.MaxPages {
		if page < 24 || page >= 63 && page < 66 || page == 511 || page == 512 || page > 4090 {
			list = append(list, page)
		}
	}
	return list
}

// stateOf looks at all of a Space, and fails if what it names does not tell the same, or if
// a frame that is bad is in somebody's hands.
func stateOf(t *testing.T, s *space.Space, what string) *state {
	t.Helper()
	x := &state{entries: map[api.Place]api.Entry{}, bytes: map[int]string{}, tables: map[int][]int{}, files: map[cache.Key]stand{}, disk: map[int]string{}, areas: map[int][]api.Area{}, signals: map[int][]api.Sig{}}
	for _, n := range s.Procs() {
		x.seeProcess(t, s, n, what)
	}
	for _, k := range s.Cache.Keys(-1) {
		f, _ := s.Cache.Frame(k)
		is(t, s.Pool.Use(f), api.Cache, told(what+": the use of a file's frame", f))
		x.files[k] = stand{f, s.Cache.Dirty(k)}
	}
	x.seeFrames(t, s, what)
	for slot := range api.MaxSlots {
		are(t, s.Swap.Of(slot), x.who(api.Slot, slot), told(what+": who holds slot", slot))
	}
	for n := range s.Disk.Sectors() {
		b, _ := s.Disk.Read(n)
		x.disk[n] = string(b)
	}
	x.loose = s.Disk.Loose()
	return x
}

// seeProcess looks at a process. Its signals are taken, and told again.
func (x *state) seeProcess(t *testing.T, s *space.Space, n int, what string) {
	t.Helper()
	x.tables[n], x.areas[n] = s.Tree(n).Tables(), s.Areas(n)
	for _, page := range pages() {
		e, no := s.Tree(n).Get(page)
		is(t, no, api.OK, told(what+": Get", n, page))
		if e.Kind != api.Nothing {
			x.entries[api.Place{Proc: n, Page: page}] = e
		}
	}
	is(t, len(x.tables[n]), x.wants(n), told(what+": how many tables has", n))
	for {
		g, no := s.Signal(n)
		if no != api.OK {
			break
		}
		x.signals[n] = append(x.signals[n], g)
	}
	for _, g := range x.signals[n] {
		s.Tell(n, g.At)
	}
}

// wants is how many tables a process must have: the root, and one for each beginning that
// pages of it have which have something.
func (x *state) wants(n int) int {
	begins := map[api.Place]int{}
	for p := range x.entries {
		for level := 1; level < api.Levels && p.Proc == n; level++ {
			p.Page /= api.Entries
			begins[api.Place{Proc: level, Page: p.Page}]++
		}
	}
	return 1 + len(begins)
}

// seeFrames looks at the frames.
func (x *state) seeFrames(t *testing.T, s *space.Space, what string) {
	t.Helper()
	for f := range frames {
		x.uses[f], x.poisoned[f] = s.Pool.Use(f), s.Ram.Bad(f)
		x.zones[f/32] = s.Pool.Zone(f / 32)
		are(t, s.Back.Of(f), x.who(api.Frame, f), told(what+": who has frame", f))
		b, no := s.Ram.Read(f, 0, api.PageSize)
		switch x.uses[f] {
		case api.Anon, api.Cache:
			is(t, no, api.OK, told(what+": Read", f))
			x.bytes[f] = string(b)
		case api.Bad:
			is(t, len(s.Back.Of(f)), 0, told(what+": who has bad frame", f))
		}
	}
	for n, list := range x.tables {
		for _, f := range list {
			is(t, x.uses[f], api.Table, told(what+": a table of", n))
		}
	}
}

// who answers the places whose entries are so, by Proc, then by Page.
func (x *state) who(kind, n int) []api.Place {
	var list []api.Place
	for p, e := range x.entries {
		if e.Kind == kind && e.N == n {
			list = append(list, p)
		}
	}
	slices.SortFunc(list, func(a, b api.Place) int { return cmp.Or(a.Proc-b.Proc, a.Page-b.Page) })
	return list
}

// same fails if a state is not as it must be. Which tables go where a page has nothing any
// more is the tree's to say: they are Free then, and as many are left as are wanted.
func same(t *testing.T, got, want *state, what string) {
	t.Helper()
	for n, list := range want.tables {
		want.tables[n] = slices.DeleteFunc(list, func(f int) bool {
			gone := !slices.Contains(got.tables[n], f)
			if gone {
				want.uses[f] = api.Free
			}
			return gone
		})
	}
	a, b := reflect.ValueOf(*got), reflect.ValueOf(*want)
	for i := range a.NumField() {
		if f, g := fmt.Sprint(a.Field(i)), fmt.Sprint(b.Field(i)); f != g {
			t.Fatalf("%s: %s: %q, want %q", what, a.Type().Field(i).Name, f, g)
		}
	}
}

// may is what both calls ask first.
func (x *state) may(f int) api.Errno {
	if f < 0 || f >= frames {
		return api.ErrArg
	}
	if x.uses[f] == api.Bad {
		return api.ErrThere
	}
	return api.OK
}

// file answers which page of a file stands in a frame.
func (x *state) file(f int) (cache.Key, bool) {
	for k, at := range x.files {
		if at.frame == f {
			return k, true
		}
	}
	return cache.Key{}, false
}

// poison is what a call of Poison must do.
func (x *state) poison(f int, used bool) ([]int, api.Errno) {
	if e := x.may(f); e != api.OK {
		return nil, e
	}
	k, filed := x.file(f)
	clean := x.uses[f] == api.Cache && !(filed && x.files[k].dirty)
	switch x.uses[f] {
	case api.Anon, api.Cache:
		for _, p := range x.who(api.Frame, f) {
			x.entries[p] = api.Entry{Kind: api.Lost}
			if clean {
				delete(x.entries, p)
			} else if list := x.signals[p.Proc]; used && len(list) < api.MaxSignals {
				x.signals[p.Proc] = append(list, api.Sig{Proc: p.Proc, At: 64 * p.Page})
			}
		}
		if filed {
			delete(x.files, k)
		}
	}
	var killed []int
	for n, list := range x.tables {
		if slices.Contains(list, f) {
			killed = append(killed, n)
			x.exit(n)
		}
	}
	x.uses[f], x.poisoned[f] = api.Bad, true
	delete(x.bytes, f)
	return killed, api.OK
}

// exit makes a process be gone, with what nobody else has.
func (x *state) exit(n int) {
	for p, e := range x.entries {
		if p.Proc != n {
			continue
		}
		delete(x.entries, p)
		if e.Kind == api.Frame && x.uses[e.N] == api.Anon && len(x.who(api.Frame, e.N)) == 0 {
			x.uses[e.N] = api.Free
			delete(x.bytes, e.N)
		}
	}
	for _, f := range x.tables[n] {
		x.uses[f] = api.Free
	}
	delete(x.tables, n)
	delete(x.areas, n)
	delete(x.signals, n)
}

// room is the frame that is given next for what can be moved: the first Free one of a
// Movable section, if there is none the first Free one of a Normal one. A section that is
// isolated gives none.
func (x *state) room(isolated []int) (int, bool) {
	for _, zone := range []int{api.Movable, api.Normal} {
		for f, use := range x.uses {
			if use == api.Free && x.zones[f/32] == zone && !slices.Contains(isolated, f/32) {
				return f, true
			}
		}
	}
	return 0, false
}

// soft is what a call of Soft must do.
func (x *state) soft(f int, isolated []int) api.Errno {
	if e := x.may(f); e != api.OK {
		return e
	}
	switch x.uses[f] {
	case api.Table, api.Balloon:
		return api.ErrBusy
	case api.Anon, api.Cache:
		to, ok := x.room(isolated)
		if !ok {
			return api.ErrFull
		}
		x.uses[to], x.bytes[to] = x.uses[f], x.bytes[f]
		for _, p := range x.who(api.Frame, f) {
			x.entries[p] = api.Entry{Kind: api.Frame, N: to, Write: x.entries[p].Write}
		}
		if k, ok := x.file(f); ok {
			x.files[k] = stand{to, x.files[k].dirty}
		}
	}
	x.uses[f] = api.Bad
	delete(x.bytes, f)
	return api.OK
}

// call does something to a Space, and to what it was ahead of that, and fails if these are
// not the same. The disk has no work meanwhile: its next one is the first that fails.
func call(t *testing.T, s *space.Space, what string, real func(), words func(x *state)) {
	t.Helper()
	want := stateOf(t, s, "ahead of "+what)
	s.Disk.Fail(0, 1)
	real()
	_, e := s.Disk.Read(0)
	is(t, e, api.ErrIO, "the first work behind "+what)
	words(want)
	same(t, stateOf(t, s, what), want, what)
}

// poisons is Poison, held against the words.
func poisons(t *testing.T, s *space.Space, f int, used bool) ([]int, api.Errno) {
	t.Helper()
	var killed, wantKilled []int
	var e, want api.Errno
	what := told("Poison", f)
	call(t, s, what, func() { killed, e = Poison(s, f, used) }, func(x *state) { wantKilled, want = x.poison(f, used) })
	is(t, e, want, what)
	are(t, killed, wantKilled, what+": killed")
	if e == api.OK {
		bad(t, s, f, true)
	}
	return killed, e
}

// softs is Soft, held against the words, while some sections are isolated.
func softs(t *testing.T, s *space.Space, f int, isolated ...int) api.Errno {
	t.Helper()
	var e, want api.Errno
	what := told("Soft", f)
	poisoned := s.Ram.Bad(f)
	call(t, s, what, func() { e = Soft(s, f) }, func(x *state) { want = x.soft(f, isolated) })
	is(t, e, want, what)
	if e == api.OK {
		bad(t, s, f, poisoned)
	}
	return e
}

// bad fails if a frame is not bad, or not poisoned as it must be, or if it is in somebody's
// hands.
func bad(t *testing.T, s *space.Space, f int, poisoned bool) {
	t.Helper()
	is(t, s.Pool.Use(f), api.Bad, told("the use of", f))
	is(t, s.Ram.Bad(f), poisoned, told("poisoned", f))
	is(t, len(s.Back.Of(f)), 0, told("who has", f))
	_, ok := s.Cache.Of(f)
	is(t, ok, false, told("a page of a file stands in", f))
	for _, n := range s.Procs() {
		is(t, s.Tree(n).Owns(f), false, told("a table of", n, f))
	}
}
