package tree

import (
	"encoding/binary"
	"headland/api"
	"headland/pool"
	"headland/ram"
	"math"
	"math/rand"
	"slices"
	"strconv"
	"testing"
)

const (
	most    = api.MaxFrames
	perSect = api.SectFrames
)

// wrongPages are pages that there are not.
func wrongPages() []int {
	return []int{math.MinInt, math.MinInt + 1, -1 << 32, -4097, -4096, -4095, -513, -512, -65, -64, -9, -8, -7, -2, -1,
		4096, 4097, 4103, 4104, 4608, 8191, 8192, 32767, 32768, 1 << 32, 1<<32 + 1, 1 << 62, math.MaxInt - 4096, math.MaxInt - 1, math.MaxInt}
}

// wrongEntries are entries that may not be.
func wrongEntries() []api.Entry {
	return []api.Entry{
		{Kind: -1}, {Kind: 4}, {Kind: 9}, {Kind: math.MinInt}, {Kind: math.MaxInt}, {Kind: 5, Write: true},
		{N: 1}, {N: -1}, {Write: true}, {N: math.MaxInt}, {N: math.MinInt},
		{Kind: api.Frame, N: -1}, {Kind: api.Frame, N: 1024}, {Kind: api.Frame, N: 1024, Write: true},
		{Kind: api.Frame, N: math.MaxInt}, {Kind: api.Frame, N: math.MinInt}, {Kind: api.Frame, N: 1 << 62}, {Kind: api.Frame, N: 1 << 38},
		{Kind: api.Slot, N: -1}, {Kind: api.Slot, N: 32}, {Kind: api.Slot, N: 31, Write: true}, {Kind: api.Slot, Write: true}, {Kind: api.Slot, N: 1 << 62},
		{Kind: api.Lost, N: 1}, {Kind: api.Lost, N: -1}, {Kind: api.Lost, Write: true},
	}
}

// rightEntries are entries of each kind, at the ends of their N and between, and their
// numbers, worked out by hand.
func rightEntries() map[api.Entry]uint64 {
	return map[api.Entry]uint64{
		{}:                                      0,
		{Kind: api.Frame}:                       1,
		{Kind: api.Frame, N: 1}:                 5,
		{Kind: api.Frame, N: 3}:                 13,
		{Kind: api.Frame, N: 64}:                257,
		{Kind: api.Frame, N: 1023}:              4093,
		{Kind: api.Frame, Write: true}:          1099511627777,
		{Kind: api.Frame, N: 3, Write: true}:    1099511627789,
		{Kind: api.Frame, N: 1023, Write: true}: 1099511631869,
		{Kind: api.Slot}:                        2,
		{Kind: api.Slot, N: 1}:                  6,
		{Kind: api.Slot, N: 31}:                 126,
		{Kind: api.Lost}:                        3,
	}
}

// right tells whether an entry may be.
func right(e api.Entry) bool {
	switch e.Kind {
	case api.Nothing, api.Lost:
		return e.N == 0 && !e.Write
	case api.Frame:
		return e.N >= 0 && e.N <= 1023
	case api.Slot:
		return e.N >= 0 && e.N <= 31 && !e.Write
	}
	return false
}

// number is the number of an entry that may be.
func number(e api.Entry) uint64 {
	v := uint64(e.Kind + 4*e.N)
	if e.Write {
		v += 1099511627776
	}
	return v
}

// frame is an entry of kind Frame.
func frame(n int) api.Entry {
	return api.Entry{Kind: api.Frame, N: n}
}

// key is which table of a tree one is: so many numbers lead to it, and the digits of
// its pages that it took are, read as a number, path.
type key struct{ level, path int }

// keys are the tables on the way to a page, the root first.
func keys(page int) [4]key {
	return [4]key{{0, 0}, {1, page / 512}, {2, page / 64}, {3, page / 8}}
}

// places are where in its tables a page's numbers stand, worked out one by one.
func places(page int) [4]int {
	return [4]int{page / 512, page / 64 % 8, page / 8 % 8, page % 8}
}

// held is a tree, and what it must be.
type held struct {
	x       *Tree
	entries map[int]api.Entry // that are not Nothing
	frames  map[key]int
	closed  bool
}

// world is a memory and a pool, what each frame of it must be used for, and trees
// over them.
type world struct {
	t     *testing.T
	m     *ram.Ram
	p     *pool.Pool
	uses  [most]int
	open  [api.MaxSects]bool // Normal, and not isolated
	trees []*held
}

// newWorld has those sections on line, all Normal.
func newWorld(t *testing.T, sects ...int) *world {
	t.Helper()
	w := &world{t: t, m: ram.New(most), p: pool.New()}
	for f := range w.uses {
		w.uses[f] = api.NoFrame
	}
	for _, s := range sects {
		w.online(s, api.Normal)
	}
	w.dirty()
	return w
}

func (w *world) online(sect, zone int) {
	w.t.Helper()
	if e := w.p.Online(sect, zone); e != api.OK {
		w.t.Fatalf("Online(%d, %d): %d", sect, zone, e)
	}
	for f := sect * perSect; f < sect*perSect+perSect; f++ {
		if w.uses[f] == api.NoFrame {
			w.uses[f] = api.Free
		}
	}
	w.open[sect] = zone == api.Normal
}

// dirty writes bytes that are not 0 into each frame.
func (w *world) dirty() {
	for f := range most {
		b := make([]byte, api.PageSize)
		for i := range b {
			b[i] = byte(1 + (f*7+i)%255)
		}
		w.m.Write(f, 0, b)
	}
}

// left are the frames that may be given, rising.
func (w *world) left() []int {
	var list []int
	for f, use := range w.uses {
		if use == api.Free && w.open[f/perSect] {
			list = append(list, f)
		}
	}
	return list
}

// take uses frames for something else.
func (w *world) take(n int) []int {
	w.t.Helper()
	var list []int
	for range n {
		f, e := w.p.Alloc(api.Anon, 0, false)
		if e != api.OK {
			w.t.Fatalf("Alloc: %d", e)
		}
		w.uses[f] = api.Anon
		list = append(list, f)
	}
	return list
}

// leave makes so many frames, and no more, be left.
func (w *world) leave(n int) []int {
	w.t.Helper()
	return w.take(len(w.left()) - n)
}

// give makes frames Free that take took.
func (w *world) give(frames ...int) {
	w.t.Helper()
	for _, f := range frames {
		if !w.p.Free(f) {
			w.t.Fatalf("Free(%d)", f)
		}
		w.uses[f] = api.Free
	}
}

// bytes is what each frame has; nil of one that is poisoned.
func (w *world) bytes() [][]byte {
	list := make([][]byte, most)
	for f := range list {
		list[f], _ = w.m.Read(f, 0, api.PageSize)
	}
	return list
}

// unchanged fails if a frame has other bytes than in was, but for these.
func (w *world) unchanged(was [][]byte, what string, but ...int) {
	w.t.Helper()
	for f, b := range w.bytes() {
		if !slices.Contains(but, f) && !slices.Equal(b, was[f]) {
			w.t.Fatalf("%s: frame %d: %v, was %v", what, f, b, was[f])
		}
	}
}

// numbers are those of a frame, as they stand in the memory.
func (w *world) numbers(f int) [8]uint64 {
	w.t.Helper()
	b, e := w.m.Read(f, 0, api.PageSize)
	if e != api.OK {
		w.t.Fatalf("Read(%d): %d", f, e)
	}
	var list [8]uint64
	for i := range list {
		list[i] = binary.LittleEndian.Uint64(b[8*i:])
	}
	return list
}

// numbersAre fails if a frame has other numbers than those at these places, and 0s.
func (w *world) numbersAre(f int, want map[int]uint64) {
	w.t.Helper()
	for i, v := range w.numbers(f) {
		if v != want[i] {
			w.t.Fatalf("frame %d: its number %d is %d, want %d", f, i, v, want[i])
		}
	}
}

// tables are the frames of a tree, rising, as they must be.
func (h *held) tables() []int {
	var list []int
	for _, f := range h.frames {
		list = append(list, f)
	}
	slices.Sort(list)
	return list
}

// poisoned tells whether a table on the way to a page is.
func (w *world) poisoned(h *held, page int) bool {
	for _, k := range keys(page) {
		if f, ok := h.frames[k]; ok && w.m.Bad(f) {
			return true
		}
	}
	return false
}

// newTree makes one more tree. It fails if it is not as the words say.
func (w *world) newTree() *held {
	w.t.Helper()
	was, left := w.bytes(), w.left()
	x, e := New(w.m, w.p)
	if len(left) == 0 {
		if x != nil || e != api.ErrFull {
			w.t.Fatalf("New: %v %d, want ErrFull", x, e)
		}
		w.unchanged(was, "New")
		w.same("New")
		return nil
	}
	if x == nil || e != api.OK {
		w.t.Fatalf("New: %v %d", x, e)
	}
	h := &held{x: x, entries: map[int]api.Entry{}, frames: map[key]int{{0, 0}: left[0]}}
	w.trees = append(w.trees, h)
	w.uses[left[0]] = api.Table
	w.unchanged(was, "New", left[0])
	w.same("New")
	return h
}

// same fails if pool, memory and trees are not as they must be.
func (w *world) same(what string) {
	w.t.Helper()
	for f, use := range w.uses {
		if got := w.p.Use(f); got != use {
			w.t.Fatalf("%s: Use(%d): %d, want %d", what, f, got, use)
		}
	}
	for i, h := range w.trees {
		want := h.tables()
		if got := h.x.Tables(); !slices.Equal(got, want) {
			w.t.Fatalf("%s: tree %d: Tables: %v, want %v", what, i, got, want)
		}
		for f := -3; f < most+3; f++ {
			_, in := slices.BinarySearch(want, f)
			if got := h.x.Owns(f); got != in {
				w.t.Fatalf("%s: tree %d: Owns(%d): %v", what, i, f, got)
			}
		}
		w.sameBytes(h, what)
	}
}

// sameBytes fails if the tables of a tree have other numbers than they must.
func (w *world) sameBytes(h *held, what string) {
	w.t.Helper()
	want := map[key]*[8]uint64{}
	for k := range h.frames {
		want[k] = new([8]uint64)
	}
	for k, f := range h.frames {
		if k.level > 0 {
			want[key{k.level - 1, k.path / 8}][k.path%8] = uint64(f + 1)
		}
	}
	for page, e := range h.entries {
		want[key{3, page / 8}][page%8] = number(e)
	}
	for k, f := range h.frames {
		if w.m.Bad(f) {
			continue
		}
		if got := w.numbers(f); got != *want[k] {
			w.t.Fatalf("%s: table %v in frame %d: %v, want %v", what, k, f, got, *want[k])
		}
		if k.level > 0 && got0(*want[k]) {
			w.t.Fatalf("%s: table %v has nothing, and is there", what, k)
		}
	}
}

func got0(list [8]uint64) bool {
	for _, v := range list {
		if v != 0 {
			return false
		}
	}
	return true
}

// get does a Get, and fails if it answers other than the words say, or changes
// anything.
func (w *world) get(h *held, page int) (api.Entry, api.Errno) {
	w.t.Helper()
	want, no := api.Entry{}, api.OK
	switch {
	case h.closed:
		no = api.ErrNone
	case page < 0 || page > 4095:
		no = api.ErrArg
	case w.poisoned(h, page):
		no = api.ErrPoison
	default:
		want = h.entries[page]
	}
	got, e := h.x.Get(page)
	if got != want || e != no {
		w.t.Fatalf("Get(%d): %+v %d, want %+v %d", page, got, e, want, no)
	}
	return got, e
}

// refusal is the error that a Set must answer.
func (w *world) refusal(h *held, page int, e api.Entry) api.Errno {
	switch {
	case h.closed:
		return api.ErrNone
	case page < 0 || page > 4095:
		return api.ErrArg
	case !right(e):
		return api.ErrForm
	case w.poisoned(h, page):
		return api.ErrPoison
	case e.Kind != api.Nothing && len(w.missing(h, page)) > len(w.left()):
		return api.ErrFull
	}
	return api.OK
}

// missing are the tables on the way to a page that are not there, the highest first.
func (w *world) missing(h *held, page int) []key {
	var list []key
	for _, k := range keys(page) {
		if _, ok := h.frames[k]; !ok {
			list = append(list, k)
		}
	}
	return list
}

// set does a Set, and fails if it answers other than the words say, or if what is
// behind it is not as they say.
func (w *world) set(h *held, page int, e api.Entry) api.Errno {
	w.t.Helper()
	what := "Set(" + strconv.Itoa(page) + ", " + strconv.Itoa(e.Kind) + " " + strconv.Itoa(e.N) + " " + strconv.FormatBool(e.Write) + ")"
	was, no := w.bytes(), w.refusal(h, page, e)
	if got := h.x.Set(page, e); got != no {
		w.t.Fatalf("%s: %d, want %d", what, got, no)
	}
	if no != api.OK {
		w.unchanged(was, what)
		w.same(what)
		return no
	}
	mine := h.tables()
	if e.Kind == api.Nothing {
		delete(h.entries, page)
		w.gone(h, page)
	} else {
		h.entries[page] = e
		mine = append(mine, w.made(h, page, what)...)
	}
	w.unchanged(was, what, mine...)
	w.same(what)
	w.get(h, page)
	return no
}

// gone takes tables away that have nothing behind a Set of Nothing.
func (w *world) gone(h *held, page int) {
	for level := 3; level > 0; level-- {
		k := keys(page)[level]
		f, ok := h.frames[k]
		for other := range h.entries {
			ok = ok && keys(other)[level] != k
		}
		if ok {
			delete(h.frames, k)
			if w.uses[f] != api.Bad {
				w.uses[f] = api.Free
			}
		}
	}
}

// made finds in the memory which frames the tables have that a Set made, and answers
// them. They must be those that Alloc gives next, in any order.
func (w *world) made(h *held, page int, what string) []int {
	w.t.Helper()
	missing := w.missing(h, page)
	next := w.left()[:len(missing)]
	for _, k := range missing {
		above := h.frames[key{k.level - 1, k.path / 8}]
		f := int(w.numbers(above)[k.path%8]) - 1
		if !slices.Contains(next, f) || w.uses[f] != api.Free {
			w.t.Fatalf("%s: table %v in frame %d, want one of %v", what, k, f, next)
		}
		h.frames[k] = f
		w.uses[f] = api.Table
	}
	return next
}

// poison poisons a frame in the memory, and makes it Bad in the pool as well if
// spoil.
func (w *world) poison(f int, spoil bool) {
	w.t.Helper()
	if !w.m.Poison(f) {
		w.t.Fatalf("Poison(%d)", f)
	}
	if spoil {
		w.spoil(f)
	}
}

func (w *world) spoil(f int) {
	w.t.Helper()
	if !w.p.Spoil(f) {
		w.t.Fatalf("Spoil(%d)", f)
	}
	w.uses[f] = api.Bad
}

// end does a Close, and fails if what is behind it is not as the words say.
func (w *world) end(h *held) {
	w.t.Helper()
	was := w.bytes()
	h.x.Close()
	for _, f := range h.frames {
		if w.uses[f] == api.Table {
			w.uses[f] = api.Free
		}
	}
	mine := h.tables()
	h.closed, h.entries, h.frames = true, map[int]api.Entry{}, map[key]int{}
	w.unchanged(was, "Close", mine...)
	w.same("Close")
}

// ok fails if it is another error than OK.
func ok(t *testing.T, e api.Errno, what string) {
	t.Helper()
	if e != api.OK {
		t.Fatalf("%s: %d", what, e)
	}
}

// P12.1: the chapter's example: New, Set(0, ..): four tables.
func TestExample(t *testing.T) {
	p := pool.New()
	p.Online(0, api.Normal)
	x, e := New(ram.New(most), p)
	ok(t, e, "New")
	if !slices.Equal(x.Tables(), []int{0}) {
		t.Fatalf("Tables: %v", x.Tables())
	}
	ok(t, x.Set(0, frame(9)), "Set")
	if !slices.Equal(x.Tables(), []int{0, 1, 2, 3}) {
		t.Fatalf("Tables: %v", x.Tables())
	}
}

// P12.1: New: ErrArg, if the memory or the pool is nil, ahead of there being no room;
// and nothing is taken.
func TestNewOfNil(t *testing.T) {
	full, w := pool.New(), newWorld(t, 0)
	for _, c := range []struct {
		m *ram.Ram
		p *pool.Pool
	}{{nil, nil}, {nil, w.p}, {w.m, nil}, {nil, full}, {ram.New(0), nil}} {
		was := w.bytes()
		if x, e := New(c.m, c.p); x != nil || e != api.ErrArg {
			t.Fatalf("New: %v %d", x, e)
		}
		w.unchanged(was, "New")
		w.same("New")
	}
}

// P12.1: New: Alloc's error, where there is no frame for the root: no section is on
// line, none but Movable ones, none that is not isolated, no Free frame.
func TestNewWithoutRoom(t *testing.T) {
	refused := func(w *world) {
		t.Helper()
		if w.newTree() != nil || len(w.left()) != 0 {
			t.Fatal("there is room")
		}
	}
	refused(newWorld(t))

	w := newWorld(t)
	w.online(0, api.Movable)
	w.online(31, api.Movable)
	refused(w)
	w.online(7, api.Normal)
	if h := w.newTree(); h.frames[key{}] != 7*perSect {
		t.Fatalf("the root is %d", h.frames[key{}])
	}

	w = newWorld(t, 3)
	w.p.Isolate(3, true)
	w.open[3] = false
	refused(w)
	w.p.Isolate(3, false)
	w.open[3] = true
	w.newTree()

	w = newWorld(t, 3)
	taken := w.leave(0)
	refused(w)
	w.give(taken[5])
	if h := w.newTree(); h.frames[key{}] != taken[5] {
		t.Fatalf("the root is %d", h.frames[key{}])
	}

	w = newWorld(t, 0)
	for f := range perSect {
		w.spoil(f)
	}
	refused(w)
}

// P12.1, Words: a new tree has one table: the frame that Alloc gave, of use Table; its
// bytes are 0, whatever they were, and no other frame's change.
func TestNewRoot(t *testing.T) {
	w := newWorld(t, 2, 5)
	w.online(0, api.Movable)
	w.spoil(64)
	taken := w.take(3)
	h := w.newTree()
	root := h.frames[key{}]
	if root != taken[2]+1 || w.p.Use(root) != api.Table || w.p.Count(2, api.Table) != 1 {
		t.Fatalf("the root is %d", root)
	}
	w.numbersAre(root, nil)
	for _, page := range []int{0, 1, 7, 8, 63, 64, 511, 512, 4095} {
		if e, no := h.x.Get(page); e != (api.Entry{}) || no != api.OK {
			t.Fatalf("Get(%d): %+v %d", page, e, no)
		}
	}
	w.same("Get")
}

// P12.1: Get and Set: ErrArg of each page that there is not; the first one and the
// last one are.
func TestWrongPages(t *testing.T) {
	w := newWorld(t, 0, 1)
	h := w.newTree()
	for range 2 { // of a tree that has nothing, and of one that has both ends
		for _, page := range wrongPages() {
			if _, e := w.get(h, page); e != api.ErrArg {
				t.Fatalf("Get(%d): %d", page, e)
			}
			for _, e := range []api.Entry{{}, frame(1), {Kind: api.Lost}} {
				if no := w.set(h, page, e); no != api.ErrArg {
					t.Fatalf("Set(%d): %d", page, no)
				}
			}
		}
		ok(t, w.set(h, 0, frame(5)), "Set(0)")
		ok(t, w.set(h, 4095, frame(6)), "Set(4095)")
	}
	for page, want := range map[int]api.Entry{0: frame(5), 4095: frame(6), 1: {}, 4094: {}} {
		if got, _ := w.get(h, page); got != want {
			t.Fatalf("Get(%d): %+v", page, got)
		}
	}
}

// P12.1, Words: the memory's bytes behind a Set: the root's, the others', the last
// table's, as numbers of 8 bytes, the lowest byte first, at the page's digits.
func TestBytes(t *testing.T) {
	w := newWorld(t, 9)
	h := w.newTree()
	page := 3*512 + 5*64 + 1*8 + 6
	ok(t, w.set(h, page, api.Entry{Kind: api.Frame, N: 1023, Write: true}), "Set")
	list := [4]int{}
	for i, k := range keys(page) {
		list[i] = h.frames[k]
	}
	if list[0] != 288 {
		t.Fatalf("the root is %d", list[0])
	}
	w.numbersAre(list[0], map[int]uint64{3: uint64(list[1] + 1)})
	w.numbersAre(list[1], map[int]uint64{5: uint64(list[2] + 1)})
	w.numbersAre(list[2], map[int]uint64{1: uint64(list[3] + 1)})
	w.numbersAre(list[3], map[int]uint64{6: 1099511631869})
	b, _ := w.m.Read(list[3], 48, 8)
	if !slices.Equal(b, []byte{0xfd, 0x0f, 0, 0, 0, 1, 0, 0}) {
		t.Fatalf("the last table has %x", b)
	}
	b, _ = w.m.Read(list[0], 24, 8)
	if !slices.Equal(b, []byte{byte(list[1] + 1), 1, 0, 0, 0, 0, 0, 0}) {
		t.Fatalf("the root has %x", b)
	}
	ok(t, w.set(h, page-6, api.Entry{Kind: api.Slot, N: 31}), "Set")
	ok(t, w.set(h, page+1, api.Entry{Kind: api.Lost}), "Set")
	w.numbersAre(list[2], map[int]uint64{1: uint64(list[3] + 1)})
	w.numbersAre(list[3], map[int]uint64{0: 126, 6: 1099511631869, 7: 3})
}

// P12.1, Words: what an entry is stands in the memory: what is written there is what
// Get answers.
func TestReadsTheMemory(t *testing.T) {
	w := newWorld(t, 0)
	h := w.newTree()
	ok(t, w.set(h, 100, frame(4)), "Set")
	last := h.frames[keys(100)[3]]
	w.m.Write(last, 8*(100%8), []byte{13, 0, 0, 0, 0, 1, 0, 0})
	h.entries[100] = api.Entry{Kind: api.Frame, N: 3, Write: true}
	w.get(h, 100)
	w.m.Write(last, 8*(101%8), []byte{126, 0, 0, 0, 0, 0, 0, 0})
	h.entries[101] = api.Entry{Kind: api.Slot, N: 31}
	w.get(h, 101)
	w.same("Write")
	ok(t, w.set(h, 100, api.Entry{}), "Set")
	if len(h.x.Tables()) != 4 {
		t.Fatalf("Tables: %v", h.x.Tables())
	}
	ok(t, w.set(h, 101, api.Entry{}), "Set")
	if len(h.x.Tables()) != 1 {
		t.Fatalf("Tables: %v", h.x.Tables())
	}
}

// P12.1, Words: pages side by side, pages that differ in one of their digits alone,
// and pages far apart each have an entry of their own, and as few tables as they may.
func TestDigits(t *testing.T) {
	for _, c := range []struct{ a, b, tables int }{
		{0, 1, 4}, {0, 7, 4}, {7, 8, 5}, {0, 8, 5}, {0, 56, 5}, {63, 64, 6}, {0, 64, 6}, {0, 448, 6}, {511, 512, 7}, {0, 512, 7}, {0, 3584, 7},
		{4094, 4095, 4}, {4088, 4095, 4}, {4087, 4088, 5}, {4031, 4095, 6}, {4032, 4031, 6}, {3583, 3584, 7}, {0, 4095, 7}, {1, 8, 5}, {8, 64, 6}, {64, 512, 7}, {1, 512, 7},
		{0o1234, 0o1235, 4}, {0o1234, 0o1244, 5}, {0o1234, 0o1334, 6}, {0o1234, 0o2234, 7}, {0o1234, 0o4321, 7}, {0o7070, 0o0707, 7},
	} {
		w := newWorld(t, 0)
		h := w.newTree()
		ok(t, w.set(h, c.a, frame(11)), "Set")
		if got, _ := w.get(h, c.b); got != (api.Entry{}) {
			t.Fatalf("%d is set, and %d has %+v", c.a, c.b, got)
		}
		ok(t, w.set(h, c.b, api.Entry{Kind: api.Slot, N: 3}), "Set")
		if got := len(h.x.Tables()); got != c.tables {
			t.Fatalf("%d and %d: %d tables, want %d", c.a, c.b, got, c.tables)
		}
		w.get(h, c.a)
		ok(t, w.set(h, c.a, api.Entry{}), "Set")
		w.get(h, c.b)
		ok(t, w.set(h, c.b, api.Entry{}), "Set")
		if got := len(h.x.Tables()); got != 1 {
			t.Fatalf("%d tables are left", got)
		}
	}
}

// entryOf is an entry for each page, which no page near it has.
func entryOf(page int) api.Entry {
	if page%5 == 0 {
		return api.Entry{Kind: api.Slot, N: page / 5 % 32}
	}
	return api.Entry{Kind: api.Frame, N: page * 7 % 1024, Write: page/1024%2 == 1}
}

// P12.1, Words: all pages at once: each has its own entry; tables are as many as there
// may be; when all are taken away again, the root alone is left.
func TestAllPages(t *testing.T) {
	w := newWorld(t)
	for s := 4; s < 24; s++ {
		w.online(s, api.Normal)
	}
	h := w.newTree()
	for i := range api.MaxPages {
		page := i * 2731 % api.MaxPages
		ok(t, h.x.Set(page, entryOf(page)), "Set")
		h.entries[page] = entryOf(page)
	}
	if got := len(h.x.Tables()); got != 1+8+64+512 {
		t.Fatalf("%d tables", got)
	}
	for page := range api.MaxPages {
		if got, e := h.x.Get(page); got != entryOf(page) || e != api.OK {
			t.Fatalf("Get(%d): %+v %d", page, got, e)
		}
	}
	for i := range api.MaxPages {
		page := i * 1365 % api.MaxPages
		ok(t, h.x.Set(page, api.Entry{}), "Set")
		if got, e := h.x.Get(page); got != (api.Entry{}) || e != api.OK {
			t.Fatalf("Get(%d): %+v %d", page, got, e)
		}
	}
	h.entries = map[int]api.Entry{}
	w.same("all taken away")
	w.numbersAre(h.frames[key{}], nil)
}

// P12.1: each kind of entry, at the ends of its N, with Write and without; and each
// one set over each other one.
func TestKinds(t *testing.T) {
	w := newWorld(t, 0)
	h := w.newTree()
	for e, v := range rightEntries() {
		for then, v2 := range rightEntries() {
			for _, c := range []struct {
				e api.Entry
				v uint64
			}{{e, v}, {then, v2}, {then, v2}} {
				ok(t, w.set(h, 77, c.e), "Set")
				if got, no := w.get(h, 77); got != c.e || no != api.OK {
					t.Fatalf("Get: %+v %d, want %+v", got, no, c.e)
				}
				if c.v != 0 {
					w.numbersAre(h.frames[keys(77)[3]], map[int]uint64{77 % 8: c.v})
				} else if len(h.x.Tables()) != 1 {
					t.Fatal("tables are left")
				}
			}
		}
	}
}

// P12.1: Set: Encode's error of each entry that may not be, and nothing is changed:
// where there is an entry, where there is none, and where there is no table.
func TestWrongEntries(t *testing.T) {
	w := newWorld(t, 0)
	h := w.newTree()
	ok(t, w.set(h, 77, frame(3)), "Set")
	for _, e := range wrongEntries() {
		for _, page := range []int{77, 78, 0, 4095} {
			if no := w.set(h, page, e); no != api.ErrForm {
				t.Fatalf("Set(%d, %+v): %d", page, e, no)
			}
		}
	}
	w.get(h, 77)
}

// P12.1, R2: which error comes first: of a page, an entry, a table, the room.
func TestWhichError(t *testing.T) {
	w := newWorld(t, 0)
	h := w.newTree()
	ok(t, w.set(h, 0, frame(3)), "Set")
	w.leave(0)
	if no := w.set(h, 64, frame(1)); no != api.ErrFull {
		t.Fatalf("Set: %d", no)
	}
	if no := w.set(h, 64, api.Entry{Kind: 9}); no != api.ErrForm {
		t.Fatalf("Set: %d", no)
	}
	if no := w.set(h, 4096, frame(1)); no != api.ErrArg {
		t.Fatalf("Set: %d", no)
	}
	w.poison(h.frames[keys(0)[1]], false)
	if no := w.set(h, 64, frame(1)); no != api.ErrPoison {
		t.Fatalf("Set: %d", no)
	}
	if no := w.set(h, 64, api.Entry{Kind: api.Slot, N: 32}); no != api.ErrForm {
		t.Fatalf("Set: %d", no)
	}
	if no := w.set(h, -1, api.Entry{Kind: api.Slot, N: 32}); no != api.ErrArg {
		t.Fatalf("Set: %d", no)
	}
	if _, no := w.get(h, 64); no != api.ErrPoison {
		t.Fatalf("Get: %d", no)
	}
	if _, no := w.get(h, 4096); no != api.ErrArg {
		t.Fatalf("Get: %d", no)
	}
	if no := w.set(h, 512, frame(1)); no != api.ErrFull { // the root alone is on the way
		t.Fatalf("Set: %d", no)
	}
}

// P12.1: to set Nothing makes no table, wherever on the way there is none, and wants
// no frame either.
func TestNothingWhereThereIsNone(t *testing.T) {
	for _, left := range []int{-1, 0} {
		w := newWorld(t, 0)
		h := w.newTree()
		ok(t, w.set(h, 0o1234, frame(3)), "Set")
		if left == 0 {
			w.leave(0)
		}
		for _, page := range []int{0o1235, 0o1244, 0o1334, 0o2234, 0, 4095} {
			ok(t, w.set(h, page, api.Entry{}), "Set")
			if len(h.x.Tables()) != 4 {
				t.Fatalf("Tables: %v", h.x.Tables())
			}
		}
		ok(t, w.set(h, 0o1234, api.Entry{}), "Set")
		ok(t, w.set(h, 0o1234, api.Entry{}), "Set")
		if len(h.x.Tables()) != 1 {
			t.Fatalf("Tables: %v", h.x.Tables())
		}
		ok(t, w.set(h, 0, api.Entry{}), "Set")
	}
}

// P12.1: behind a Set each table that has nothing is Free, and each one above it that
// then has nothing, but for the root, and no other one.
func TestTablesThatHaveNothing(t *testing.T) {
	w := newWorld(t, 0, 1)
	h := w.newTree()
	for _, page := range []int{0o0000, 0o0001, 0o0010, 0o0100, 0o1000, 0o7777} {
		ok(t, w.set(h, page, frame(page%1024)), "Set")
	}
	for _, c := range []struct{ page, tables int }{
		{0o0001, 13}, {0o0000, 12}, {0o0010, 10}, {0o0100, 7}, {0o7777, 4}, {0o1000, 1},
	} {
		ok(t, w.set(h, c.page, api.Entry{}), "Set")
		if got := len(h.x.Tables()); got != c.tables {
			t.Fatalf("behind %o: %d tables, want %d", c.page, got, c.tables)
		}
	}
	w.numbersAre(h.frames[key{}], nil)
	ok(t, w.set(h, 9, frame(9)), "Set")
}

// P12.1: Tables are rising, also where lower frames were free later than higher ones,
// and the root is no less than others; what a caller does to them changes nothing (R4).
func TestTablesRise(t *testing.T) {
	w := newWorld(t, 0, 4)
	taken := w.take(20)
	h := w.newTree()
	ok(t, w.set(h, 0, frame(1)), "Set")
	w.give(taken[1], taken[7], taken[0])
	ok(t, w.set(h, 512, frame(2)), "Set")
	if got := h.x.Tables(); !slices.Equal(got, []int{0, 1, 7, 20, 21, 22, 23}) {
		t.Fatalf("Tables: %v", got)
	}
	w.give(taken[3])
	ok(t, w.set(h, 8, frame(2)), "Set")
	list, other := h.x.Tables(), h.x.Tables()
	if !slices.Equal(list, []int{0, 1, 3, 7, 20, 21, 22, 23}) {
		t.Fatalf("Tables: %v", list)
	}
	for i := range list {
		list[i] = -1
	}
	list = append(list[:1], 999)
	if !slices.Equal(other, []int{0, 1, 3, 7, 20, 21, 22, 23}) || list[1] != 999 {
		t.Fatalf("Tables: %v", other)
	}
	w.same("Tables")
}

// P12.1, Words: a frame that was used before, as a table or for something else, has 0s
// as a table.
func TestZeroedFirst(t *testing.T) {
	w := newWorld(t, 0)
	h := w.newTree()
	for page := range 8 {
		ok(t, w.set(h, 8*page, frame(page+1)), "Set")
	}
	for page := range 8 {
		ok(t, w.set(h, 8*page, api.Entry{}), "Set")
	}
	w.dirty2(h)
	for _, page := range []int{4095, 0, 2048, 77} {
		ok(t, w.set(h, page, api.Entry{Kind: api.Lost}), "Set")
		for p := page / 8 * 8; p < page/8*8+8; p++ {
			w.get(h, p)
		}
	}
	w.end(h)
	w.dirty2(h)
	h = w.newTree()
	w.numbersAre(h.frames[key{}], nil)
}

// dirty2 writes bytes that are not 0 into each frame that is no table of h.
func (w *world) dirty2(h *held) {
	for f := range most {
		if !h.x.Owns(f) {
			w.m.Write(f, 0, slices.Repeat([]byte{0xa5}, api.PageSize))
		}
	}
}

// P12.1: Set: Alloc's error, and nothing is changed: with 0, 1, 2 Free frames where it
// wants three tables, two, one; with as many as it wants it is done.
func TestNoRoom(t *testing.T) {
	for _, c := range []struct{ page, wants int }{{0o4321, 3}, {0o1321, 2}, {0o1221, 1}, {0o1230, 0}} {
		for left := range 4 {
			w := newWorld(t, 0, 3)
			w.online(1, api.Movable)
			h := w.newTree()
			ok(t, w.set(h, 0o1234, frame(9)), "Set")
			ok(t, w.set(h, 0o7777, api.Entry{Kind: api.Slot, N: 9}), "Set")
			taken := w.leave(left)
			for range 2 {
				got, want := w.set(h, c.page, frame(7)), api.ErrFull
				if left >= c.wants {
					want = api.OK
				}
				if got != want {
					t.Fatalf("%d wanted, %d left: %d", c.wants, left, got)
				}
			}
			w.get(h, 0o1234)
			w.get(h, 0o7777)
			w.get(h, c.page)
			if w.uses[taken[0]] != api.Anon {
				t.Fatal("a frame of others is taken")
			}
			w.give(taken...)
			ok(t, w.set(h, c.page, frame(8)), "Set")
		}
	}
}

// P12.1: the same where a section that has room is isolated.
func TestNoRoomInIsolated(t *testing.T) {
	w := newWorld(t, 0, 1)
	h := w.newTree()
	w.leave(perSect + 2)
	if n := len(w.left()); n != perSect+2 {
		t.Fatalf("%d are left", n)
	}
	w.p.Isolate(1, true)
	w.open[1] = false
	if no := w.set(h, 5, frame(1)); len(w.left()) != 2 || no != api.ErrFull {
		t.Fatalf("%v are left: %d", w.left(), no)
	}
	w.p.Isolate(1, false)
	w.open[1] = true
	ok(t, w.set(h, 4095, frame(1)), "Set")
}

// P12.1: Get and Set: ErrPoison, if a table on the way is poisoned: the root, each one
// on the way, the last one; other pages are as ever, and so is all that is there.
func TestPoison(t *testing.T) {
	pages := []int{0o1234, 0o1235, 0o1244, 0o1334, 0o2234, 0o7777}
	probes := append(slices.Clone(pages), 0o1230, 0o1254, 0o1434, 0o3234, 0, 4095, 0o1200, 0o1277)
	for level := range 4 {
		for _, spoil := range []bool{false, true} {
			w := newWorld(t, 0, 1)
			h := w.newTree()
			for i, page := range pages {
				ok(t, w.set(h, page, frame(100+i)), "Set")
			}
			w.poison(h.frames[keys(0o1234)[level]], spoil)
			w.same("Poison")
			for _, page := range probes {
				below := keys(page)[level] == keys(0o1234)[level]
				if _, no := w.get(h, page); below != (no == api.ErrPoison) {
					t.Fatalf("level %d: Get(%o): %d", level, page, no)
				}
			}
			for _, page := range probes {
				below := keys(page)[level] == keys(0o1234)[level]
				for _, e := range []api.Entry{{Kind: api.Slot, N: 5}, {}, frame(8)} {
					if no := w.set(h, page, e); below != (no == api.ErrPoison) {
						t.Fatalf("level %d: Set(%o): %d", level, page, no)
					}
				}
			}
		}
	}
}

// P12.1: a table that is poisoned is something that the one above it has: this one
// stays when all else of it is taken away.
func TestPoisonBesideNothing(t *testing.T) {
	for level := 1; level < 4; level++ {
		w := newWorld(t, 0, 1)
		h := w.newTree()
		ok(t, w.set(h, 0o1234, frame(1)), "Set")
		for _, page := range []int{0o1244, 0o1334, 0o2234} {
			ok(t, w.set(h, page, frame(2)), "Set")
		}
		w.poison(h.frames[keys(0o1234)[level]], true)
		for _, page := range []int{0o1244, 0o1334, 0o2234} {
			w.set(h, page, api.Entry{})
		}
		for _, k := range keys(0o1234) {
			if !h.x.Owns(h.frames[k]) {
				t.Fatalf("level %d: table %v is gone", level, k)
			}
		}
	}
}

// P12.1: a table that is Bad in the pool, and not poisoned, is read as ever; when it
// has nothing any more it is no table, and stays Bad.
func TestBadButNotPoisoned(t *testing.T) {
	for level := 1; level < 4; level++ {
		w := newWorld(t, 0)
		h := w.newTree()
		ok(t, w.set(h, 0o1234, frame(1)), "Set")
		f := h.frames[keys(0o1234)[level]]
		w.spoil(f)
		w.get(h, 0o1234)
		ok(t, w.set(h, 0o1235, frame(2)), "Set")
		ok(t, w.set(h, 0o1235, api.Entry{}), "Set")
		ok(t, w.set(h, 0o1234, api.Entry{}), "Set")
		if w.p.Use(f) != api.Bad || h.x.Owns(f) || len(h.x.Tables()) != 1 {
			t.Fatalf("level %d: %d %v", level, w.p.Use(f), h.x.Tables())
		}
		ok(t, w.set(h, 0o1234, frame(3)), "Set")
		if h.x.Owns(f) {
			t.Fatal("a Bad frame is a table")
		}
	}
}

// P12.1: Close: all tables are Free, those below a poisoned one too; those that are Bad
// stay so.
func TestClose(t *testing.T) {
	for level := -1; level < 4; level++ {
		for _, spoil := range []bool{false, true} {
			w := newWorld(t, 0, 2)
			taken := w.take(2)
			h := w.newTree()
			for _, page := range []int{0o1234, 0o1244, 0o1334, 0o2234} {
				ok(t, w.set(h, page, frame(1)), "Set")
			}
			bad := -1
			if level >= 0 {
				bad = h.frames[keys(0o1234)[level]]
				w.poison(bad, spoil)
			}
			list := h.x.Tables()
			if len(list) != 10 {
				t.Fatalf("Tables: %v", list)
			}
			w.end(h)
			for _, f := range list {
				want := api.Free
				if f == bad && spoil {
					want = api.Bad
				}
				if got := w.p.Use(f); got != want {
					t.Fatalf("Use(%d): %d, want %d", f, got, want)
				}
			}
			for _, f := range taken {
				if w.p.Use(f) != api.Anon {
					t.Fatal("a frame of others is Free")
				}
			}
		}
	}
}

// P12.1: behind a Close Get and Set answer ErrNone, to right pages and wrong ones, and
// Tables are none; a second Close does nothing to what others have by then.
func TestBehindClose(t *testing.T) {
	w := newWorld(t, 0)
	h := w.newTree()
	ok(t, w.set(h, 5, frame(1)), "Set")
	list := h.x.Tables()
	w.end(h)
	taken := w.take(5)
	other := w.newTree()
	ok(t, w.set(other, 5, frame(2)), "Set")
	for range 2 {
		for _, page := range append(wrongPages(), 0, 5, 6, 4095) {
			if e, no := h.x.Get(page); e != (api.Entry{}) || no != api.ErrNone {
				t.Fatalf("Get(%d): %+v %d", page, e, no)
			}
			for _, e := range append(wrongEntries(), api.Entry{}, frame(1)) {
				if no := h.x.Set(page, e); no != api.ErrNone {
					t.Fatalf("Set(%d, %+v): %d", page, e, no)
				}
			}
		}
		if len(h.x.Tables()) != 0 {
			t.Fatalf("Tables: %v", h.x.Tables())
		}
		for _, f := range append(append(list, taken...), other.x.Tables()...) {
			if h.x.Owns(f) {
				t.Fatalf("Owns(%d)", f)
			}
		}
		w.same("Close")
		h.x.Close()
		w.same("Close twice")
	}
	w.end(other)
	w.give(taken...)
	if n := w.p.Count(0, api.Free); n != perSect {
		t.Fatalf("%d are Free", n)
	}
}

// P12.1: Owns: its tables alone: no other frame of use Table, none of another tree,
// none that was one, and no number that is no frame.
func TestOwns(t *testing.T) {
	w := newWorld(t, 0, 31)
	a := w.newTree()
	b := w.newTree()
	ok(t, w.set(a, 0, frame(1)), "Set")
	ok(t, w.set(b, 4095, frame(1)), "Set")
	f, e := w.p.Alloc(api.Table, 0, false)
	ok(t, e, "Alloc")
	w.uses[f] = api.Table
	w.same("Alloc")
	for _, h := range w.trees {
		for _, f := range []int{f, -1, -2, math.MinInt, most, most + 1, math.MaxInt, 1 << 32, 1 << 62, perSect, 992, 1023} {
			if h.x.Owns(f) {
				t.Fatalf("Owns(%d)", f)
			}
		}
		for _, f := range h.tables() {
			if !h.x.Owns(f) {
				t.Fatalf("Owns(%d): false", f)
			}
		}
	}
	was := a.tables()
	ok(t, w.set(a, 0, api.Entry{}), "Set")
	for _, f := range was[1:] {
		if a.x.Owns(f) {
			t.Fatalf("Owns(%d)", f)
		}
	}
	if !a.x.Owns(was[0]) {
		t.Fatal("the root is no table")
	}
}

// P12.1: the last frames that there are may be tables as well.
func TestHighestFrames(t *testing.T) {
	w := newWorld(t, 31)
	w.take(28)
	h := w.newTree()
	ok(t, w.set(h, 4095, frame(1023)), "Set")
	if got := h.x.Tables(); !slices.Equal(got, []int{1020, 1021, 1022, 1023}) {
		t.Fatalf("Tables: %v", got)
	}
	if got, _ := w.get(h, 4095); got != frame(1023) {
		t.Fatalf("Get: %+v", got)
	}
	if no := w.set(h, 0, frame(1)); no != api.ErrFull {
		t.Fatalf("Set: %d", no)
	}
	ok(t, w.set(h, 4095, api.Entry{}), "Set")
	ok(t, w.set(h, 0, frame(1)), "Set")
}

// P12.1: two trees over one memory and one pool: nothing that is done to one is seen
// in the other, but that there is less room.
func TestTwoTrees(t *testing.T) {
	w := newWorld(t, 0)
	a, b := w.newTree(), w.newTree()
	for i, page := range []int{0, 77, 4095, 0, 78} {
		ok(t, w.set(a, page, frame(i)), "Set")
		ok(t, w.set(b, page, api.Entry{Kind: api.Slot, N: i}), "Set")
		for _, page := range []int{0, 77, 4095, 78, 79} {
			w.get(a, page)
			w.get(b, page)
		}
	}
	ok(t, w.set(a, 77, api.Entry{}), "Set")
	w.get(b, 77)
	w.poison(a.frames[key{}], true)
	w.get(a, 0)
	w.get(b, 0)
	ok(t, w.set(b, 5, frame(5)), "Set")
	w.end(a)
	w.get(b, 0)
	ok(t, w.set(b, 512, frame(5)), "Set")
	c := w.newTree()
	ok(t, w.set(c, 77, frame(6)), "Set")
	w.get(b, 77)
	w.end(b)
	w.get(c, 77)
}

// P12.1: a frame that Alloc gives, and that can not be Zeroed, is no table: it is not
// in the memory, or poisoned there. Nothing is changed, and none is left.
func TestFramesThatCanNotBeTables(t *testing.T) {
	w := newWorld(t, 0)
	w.m = ram.New(2)
	for _, want := range []api.Errno{api.OK, api.OK, api.ErrArg} {
		x, e := New(w.m, w.p)
		if e != want || (x == nil) != (want != api.OK) {
			t.Fatalf("New: %v %d, want %d", x, e, want)
		}
	}
	if n := w.p.Count(0, api.Free); n != perSect-2 {
		t.Fatalf("%d are Free", n)
	}

	w = newWorld(t, 0)
	w.m.Poison(0)
	if x, e := New(w.m, w.p); x != nil || e != api.ErrPoison {
		t.Fatalf("New: %v %d", x, e)
	}
	w.same("New")

	for bad := 1; bad < 4; bad++ {
		for _, small := range []bool{false, true} {
			w := newWorld(t, 0)
			want := api.ErrPoison
			if small {
				w.m, want = ram.New(bad), api.ErrArg
			}
			h := w.newTree()
			w.m.Poison(bad)
			if no := h.x.Set(0, frame(1)); no != want {
				t.Fatalf("Set: %d, want %d", no, want)
			}
			w.same("Set")
			if e, no := h.x.Get(0); e != (api.Entry{}) || no != api.OK {
				t.Fatalf("Get: %+v %d", e, no)
			}
			ok(t, h.x.Set(0, api.Entry{}), "Set")
			w.same("Set")
		}
	}
}

// P12.1, R1: whatever bytes others write into tables, each call answers, and beside an
// error nothing.
func TestAnyBytes(t *testing.T) {
	r := rand.New(rand.NewSource(12))
	for range 400 {
		w := newWorld(t, 0)
		h := w.newTree()
		ok(t, w.set(h, 0o1234, frame(1)), "Set")
		for _, f := range h.x.Tables() {
			for i := range 8 {
				v := []uint64{r.Uint64(), uint64(r.Intn(40)), 0, math.MaxUint64, 1 << 63, 1025, 1<<32 + 1}[r.Intn(7)]
				w.m.Write(f, 8*i, binary.LittleEndian.AppendUint64(nil, v))
			}
		}
		for range 40 {
			page := r.Intn(api.MaxPages)
			if e, no := h.x.Get(page); no != api.OK && e != (api.Entry{}) {
				t.Fatalf("Get(%d): %+v %d", page, e, no)
			}
			h.x.Set(page, frame(r.Intn(20)))
			h.x.Set(page, api.Entry{})
		}
		h.x.Tables()
		h.x.Close()
	}
}

// P12.1, R1: a nil Tree: ErrArg, whatever the page; none; false.
func TestNil(t *testing.T) {
	var x *Tree
	for _, page := range append(wrongPages(), 0, 7, 4095) {
		if e, no := x.Get(page); e != (api.Entry{}) || no != api.ErrArg {
			t.Fatalf("Get(%d): %+v %d", page, e, no)
		}
		for _, e := range append(wrongEntries(), api.Entry{}, frame(1)) {
			if no := x.Set(page, e); no != api.ErrArg {
				t.Fatalf("Set(%d, %+v): %d", page, e, no)
			}
		}
		if x.Owns(page) {
			t.Fatalf("Owns(%d)", page)
		}
	}
	x.Close()
	if len(x.Tables()) != 0 || x.Owns(0) {
		t.Fatal("it has tables")
	}
}

// P12.1, R1: a Tree that New did not make is as one that is closed.
func TestNotMadeByNew(t *testing.T) {
	x := new(Tree)
	for range 2 {
		for _, page := range append(wrongPages(), 0, 7, 4095) {
			if e, no := x.Get(page); e != (api.Entry{}) || no != api.ErrNone {
				t.Fatalf("Get(%d): %+v %d", page, e, no)
			}
			if no := x.Set(page, frame(1)); no != api.ErrNone {
				t.Fatalf("Set(%d): %d", page, no)
			}
		}
		if len(x.Tables()) != 0 || x.Owns(0) {
			t.Fatal("it has tables")
		}
		x.Close()
	}
}

// P12.1: many calls in a row, of several trees, held against the words alone: pages
// near each other and far apart, wrong ones, poison, frames that others take and give.
func TestManyCalls(t *testing.T) {
	for seed := range int64(12) {
		r := rand.New(rand.NewSource(seed))
		w := newWorld(t, 0, 1)
		w.online(2, api.Movable)
		var taken []int
		w.newTree()
		for range 500 {
			h := w.trees[r.Intn(len(w.trees))]
			page := somePage(r)
			switch r.Intn(16) {
			case 0:
				taken = append(taken, w.take(r.Intn(min(4, len(w.left())+1)))...)
			case 1:
				if len(taken) > 0 {
					i := r.Intn(len(taken))
					w.give(taken[i])
					taken = slices.Delete(taken, i, i+1)
				}
			case 2:
				if r.Intn(4) == 0 && len(h.frames) > 0 {
					f := h.tables()[r.Intn(len(h.frames))]
					if !w.m.Bad(f) {
						w.poison(f, true)
					}
				}
			case 3:
				if r.Intn(8) == 0 && !h.closed {
					w.end(h)
				}
			case 4:
				if len(w.trees) < 6 && len(w.left()) > 0 {
					w.newTree()
				}
			case 5, 6, 7, 8:
				w.set(h, page, api.Entry{})
			case 9, 10:
				w.get(h, page)
			default:
				w.set(h, page, someEntry(r))
			}
		}
		for _, h := range w.trees {
			for page := range api.MaxPages {
				w.get(h, page)
			}
			w.end(h)
		}
	}
}

// somePage is a page, often one of few.
func somePage(r *rand.Rand) int {
	switch r.Intn(10) {
	case 0:
		return wrongPages()[r.Intn(len(wrongPages()))]
	case 1:
		return r.Intn(api.MaxPages)
	}
	page := 0
	for range 4 {
		page = 8*page + []int{0, 7}[r.Intn(2)]
	}
	return page
}

// someEntry is an entry, now and then one that may not be.
func someEntry(r *rand.Rand) api.Entry {
	switch r.Intn(8) {
	case 0:
		return wrongEntries()[r.Intn(len(wrongEntries()))]
	case 1:
		return api.Entry{Kind: api.Lost}
	case 2, 3:
		return api.Entry{Kind: api.Slot, N: r.Intn(32)}
	}
	return api.Entry{Kind: api.Frame, N: r.Intn(1024), Write: r.Intn(2) == 0}
}
