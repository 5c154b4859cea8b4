package move

import (
	"cmp"
	"fmt"
	"headland/api"
	"headland/cache"
	"headland/disk"
	"headland/pool"
	"headland/ram"
	"headland/space"
	"reflect"
	"slices"
	"strconv"
	"testing"
)

// sections is how many are on line in a space, beside one behind them that is not.
const sections = 4

// stand is how a page of a file stands in memory.
type stand struct {
	frame int
	dirty bool
}

// state is all that can be seen of a Space. What a call must do to it is done by the words
// alone: who has a frame or holds a slot is found by looking at each entry.
type state struct {
	entries map[api.Place]api.Entry // none of these has Nothing
	uses    [32 * (sections + 1)]int
	zones   [sections + 1]int
	bytes   map[int]string // of frames that are neither tables nor poisoned
	tables  map[int][]int
	files   map[cache.Key]stand
	disk    map[int]string
	loose   []int
	areas   map[int][]api.Area
}

// is fails if a call did not answer what was wanted.
func is[T comparable](t *testing.T, got, want T, what string) {
	t.Helper()
	if got != want {
		t.Fatalf("%s: %v, want %v", what, got, want)
	}
}

// told is a call as text.
func told(call string, numbers ...int) string {
	for _, n := range numbers {
		call += " " + strconv.Itoa(n)
	}
	return call
}

// text is a page that begins with a word and numbers, and has bytes that differ up to its
// end.
func text(word string, numbers ...int) string {
	b := []byte(told(word, numbers...))
	for len(b) < api.PageSize {
		b = append(b, byte(len(b)*7+len(word))|1)
	}
	return string(b)
}

// newSpace has Movable sections on both sides of a Normal one, so that frame 0 is a page's;
// a Normal one behind them; frames that were used by somebody once; and pages of files and
// slots that differ. Nothing is loose.
func newSpace(t *testing.T) *space.Space {
	t.Helper()
	d, p, m := disk.New(api.DiskSectors), pool.New(), ram.New(32*(sections+1))
	for n := range sections {
		zone := []int{api.Movable, api.Normal, api.Movable, api.Normal}[n]
		is(t, p.Online(n, zone), api.OK, "Online")
	}
	for f := range m.Frames() {
		is(t, m.Write(f, 0, []byte(text("old", f))), api.OK, "Write")
	}
	for n := range api.DiskSectors {
		is(t, d.Write(n, []byte(text("sector", n))), api.OK, "Write")
	}
	is(t, d.Flush(), api.OK, "Flush")
	return space.New(m, d, p)
}

// pages are those that are looked at, and that tests use.
func pages() []int {
	var list []int
	for page := range api.MaxPages {
		if page < 48 || page >= 63 && page < 66 || page == 511 || page == 512 || page > 4090 {
			list = append(list, page)
		}
	}
	return list
}

// stateOf looks at all of a Space, and fails if what it names does not tell the same.
func stateOf(t *testing.T, s *space.Space, what string) *state {
	t.Helper()
	x := &state{entries: map[api.Place]api.Entry{}, bytes: map[int]string{}, tables: map[int][]int{}, files: map[cache.Key]stand{}, disk: map[int]string{}, areas: map[int][]api.Area{}}
	for _, n := range s.Procs() {
		x.tables[n] = s.Tree(n).Tables()
		x.areas[n] = s.Areas(n)
		for _, page := range pages() {
			e, no := s.Tree(n).Get(page)
			is(t, no, api.OK, told(what+": Get", n, page))
			if e.Kind != api.Nothing {
				x.entries[api.Place{Proc: n, Page: page}] = e
			}
		}
	}
	for _, k := range s.Cache.Keys(-1) {
		f, _ := s.Cache.Frame(k)
		of, ok := s.Cache.Of(f)
		is(t, ok && of == k, true, told(what+": the page that stands in", f))
		x.files[k] = stand{f, s.Cache.Dirty(k)}
	}
	x.seeFrames(t, s, what)
	for n := range s.Disk.Sectors() {
		b, _ := s.Disk.Read(n)
		x.disk[n] = string(b)
	}
	x.loose = s.Disk.Loose()
	return x
}

// seeFrames looks at the frames and the slots.
func (x *state) seeFrames(t *testing.T, s *space.Space, what string) {
	t.Helper()
	for f := range x.uses {
		x.uses[f] = s.Pool.Use(f)
		x.zones[f/32] = s.Pool.Zone(f / 32)
		if b, no := s.Ram.Read(f, 0, api.PageSize); no == api.OK && x.uses[f] != api.Table {
			x.bytes[f] = string(b)
		}
		if got := s.Back.Of(f); !slices.Equal(got, x.who(api.Frame, f)) {
			t.Fatalf("%s: frame %d: %v have it, want %v", what, f, got, x.who(api.Frame, f))
		}
	}
	for slot := range api.MaxSlots {
		if got := s.Swap.Of(slot); !slices.Equal(got, x.who(api.Slot, slot)) {
			t.Fatalf("%s: slot %d: %v hold it, want %v", what, slot, got, x.who(api.Slot, slot))
		}
	}
}

// who answers the places whose entries are so, by Proc, then by Page.
func (x *state) who(kind, n int) []api.Place {
	var list []api.Place
	for p, e := range x.entries {
		if e.Kind == kind && e.N == n {
			list = append(list, p)
		}
	}
	slices.SortFunc(list, func(a, b api.Place) int { return cmp.Or(a.Proc-b.Proc, a.Page-b.Page) })
	return list
}

// same fails if a state is not as it must be.
func same(t *testing.T, got, want *state, what string) {
	t.Helper()
	a, b := reflect.ValueOf(*got), reflect.ValueOf(*want)
	for i := range a.NumField() {
		if f, g := fmt.Sprint(a.Field(i)), fmt.Sprint(b.Field(i)); f != g {
			t.Fatalf("%s: %s: %q, want %q", what, a.Type().Field(i).Name, f, g)
		}
	}
}

// has tells whether a frame is one that can be moved, or cleared.
func (x *state) has(f int) bool {
	return f >= 0 && f < len(x.uses) && (x.uses[f] == api.Anon || x.uses[f] == api.Cache)
}

// room is the frame that is given next for what can be moved: the first Free one of a
// Movable section, if there is none the first Free one of a Normal one. A section that is
// isolated gives none.
func (x *state) room(isolated []int) (int, bool) {
	for _, zone := range []int{api.Movable, api.Normal} {
		for f, use := range x.uses {
			if use == api.Free && x.zones[f/32] == zone && !slices.Contains(isolated, f/32) {
				return f, true
			}
		}
	}
	return 0, false
}

// file answers which page of a file stands in a frame.
func (x *state) file(f int) (cache.Key, bool) {
	for k, at := range x.files {
		if at.frame == f {
			return k, true
		}
	}
	return cache.Key{}, false
}

// frame is what a call of Frame must do.
func (x *state) frame(f int, isolated []int) (int, api.Errno) {
	if !x.has(f) {
		return 0, api.ErrNone
	}
	to, ok := x.room(isolated)
	if !ok {
		return 0, api.ErrFull
	}
	x.uses[f], x.uses[to] = api.Free, x.uses[f]
	x.bytes[to] = x.bytes[f]
	for _, p := range x.who(api.Frame, f) {
		x.entries[p] = api.Entry{Kind: api.Frame, N: to, Write: x.entries[p].Write}
	}
	if k, ok := x.file(f); ok {
		x.files[k] = stand{to, x.files[k].dirty}
	}
	return to, api.OK
}

// clear is what a call of Clear must do.
func (x *state) clear(f int) api.Errno {
	if !x.has(f) {
		return api.ErrNone
	}
	for _, p := range x.who(api.Frame, f) {
		x.entries[p] = api.Entry{Kind: api.Lost}
	}
	if k, ok := x.file(f); ok {
		delete(x.files, k)
	}
	x.uses[f] = api.Free
	return api.OK
}

// call does something to a Space, and to what it was ahead of that, and fails if these are
// not the same. The disk has no work meanwhile: its next one is the first that fails.
func call(t *testing.T, s *space.Space, what string, real func(), words func(x *state)) {
	t.Helper()
	want := stateOf(t, s, "ahead of "+what)
	s.Disk.Fail(0, 1)
	real()
	_, e := s.Disk.Read(0)
	is(t, e, api.ErrIO, "the first work behind "+what)
	words(want)
	same(t, stateOf(t, s, what), want, what)
}

// moves is Frame, held against the words, while some sections are isolated.
func moves(t *testing.T, s *space.Space, f int, isolated ...int) (int, api.Errno) {
	t.Helper()
	var to, wantTo int
	var e, wantE api.Errno
	what := told("Frame", f)
	call(t, s, what, func() { to, e = Frame(s, f) }, func(x *state) { wantTo, wantE = x.frame(f, isolated) })
	is(t, e, wantE, what)
	is(t, to, wantTo, what+": the new one")
	return to, e
}

// clears is Clear, held against the words.
func clears(t *testing.T, s *space.Space, f int) api.Errno {
	t.Helper()
	var e, want api.Errno
	what := told("Clear", f)
	call(t, s, what, func() { e = Clear(s, f) }, func(x *state) { want = x.clear(f) })
	is(t, e, want, what)
	return e
}
