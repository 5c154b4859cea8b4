package cache

import (
	"headland/api"
	"math"
	"slices"
	"strconv"
	"testing"
)

// standing tells that a page stands in a frame, and how.
type standing struct {
	k     Key
	f     int
	dirty bool
}

// model is what a Cache must be, done by the words alone: what stands where, in the
// order in which it came, and gone through one after the other.
type model struct {
	list []standing
}

// at answers which one in the list k is, or -1.
func (m *model) at(k Key) int {
	return slices.IndexFunc(m.list, func(s standing) bool { return s.k == k })
}

func (m *model) Put(k Key, f int) bool {
	for _, s := range m.list {
		if s.k == k || s.f == f {
			return false
		}
	}
	m.list = append(m.list, standing{k: k, f: f})
	return true
}

func (m *model) Frame(k Key) (int, bool) {
	if i := m.at(k); i >= 0 {
		return m.list[i].f, true
	}
	return 0, false
}

func (m *model) Of(f int) (Key, bool) {
	for _, s := range m.list {
		if s.f == f {
			return s.k, true
		}
	}
	return Key{}, false
}

func (m *model) Mark(k Key, dirty bool) bool {
	i := m.at(k)
	if i >= 0 {
		m.list[i].dirty = dirty
	}
	return i >= 0
}

func (m *model) Dirty(k Key) bool {
	i := m.at(k)
	return i >= 0 && m.list[i].dirty
}

func (m *model) Drop(k Key) bool {
	i := m.at(k)
	if i >= 0 {
		m.list = slices.Delete(m.list, i, i+1)
	}
	return i >= 0
}

func (m *model) Keys(file int) []Key {
	var list []Key
	for _, s := range m.list {
		if file < 0 || s.k.File == file {
			i := 0
			for i < len(list) && (list[i].File < s.k.File || list[i].File == s.k.File && list[i].Page < s.k.Page) {
				i++
			}
			list = slices.Insert(list, i, s.k)
		}
	}
	return list
}

// key is a page of a file.
func key(file, page int) Key {
	return Key{File: file, Page: page}
}

// ends are numbers at the edges that there are, beyond these, below 0, and at the ends
// of int; some are another one in their lowest bits alone.
func ends() []int {
	return []int{math.MinInt, math.MinInt + 1, -1 << 32, -1<<32 + 1, math.MinInt32, -api.MaxFrames, -16, -4, -2, -1,
		0, 1, 2, api.MaxFiles - 1, api.MaxFiles, api.FilePages - 1, api.FilePages, 17, 31, 32, 255, 256, 1022, 1023,
		api.MaxFrames, 1 << 16, 1<<31 - 1, 1 << 31, 1<<32 - 1, 1 << 32, 1<<32 + 1, 1<<32 + 3, 1 << 62, math.MaxInt - 1, math.MaxInt}
}

// edgeKeys are pages at such numbers: one of both alone, then both.
func edgeKeys() []Key {
	var list []Key
	for i, n := range ends() {
		for _, k := range []Key{key(n, 3), key(3, n), key(n, n), key(n, ends()[len(ends())-1-i])} {
			if !slices.Contains(list, k) {
				list = append(list, k)
			}
		}
	}
	return list
}

// pair is a Cache, and the model that it is held against: each call is done to both,
// and fails if they answer differently, or are not the same behind it.
type pair struct {
	t      *testing.T
	c      *Cache
	m      model
	keys   []Key
	frames []int
	files  []int
}

// newPair answers a pair that asks for those pages, frames and files behind each call,
// beside those of each call itself.
func newPair(t *testing.T, c *Cache, keys []Key, frames, files []int) *pair {
	x := &pair{t: t, c: c, keys: slices.Clip(keys), frames: slices.Clip(frames), files: slices.Clip(files)}
	x.same("new")
	return x
}

// edgePair answers one that asks for all edges.
func edgePair(t *testing.T) *pair {
	return newPair(t, New(), edgeKeys(), ends(), ends())
}

// same fails if the Cache is not as the model is.
func (x *pair) same(what string) {
	x.t.Helper()
	for _, k := range x.keys {
		f, stands := x.c.Frame(k)
		if want, wantStands := x.m.Frame(k); f != want || stands != wantStands {
			x.t.Fatalf("%s: Frame(%v): %d, %v, want %d, %v", what, k, f, stands, want, wantStands)
		}
		if got, want := x.c.Dirty(k), x.m.Dirty(k); got != want {
			x.t.Fatalf("%s: Dirty(%v): %v, want %v", what, k, got, want)
		}
	}
	for _, f := range x.frames {
		k, taken := x.c.Of(f)
		if want, wantTaken := x.m.Of(f); k != want || taken != wantTaken {
			x.t.Fatalf("%s: Of(%d): %v, %v, want %v, %v", what, f, k, taken, want, wantTaken)
		}
	}
	for _, file := range x.files {
		if got, want := x.c.Keys(file), x.m.Keys(file); !slices.Equal(got, want) {
			x.t.Fatalf("%s: Keys(%d): %v, want %v", what, file, got, want)
		}
	}
}

// asks makes the pair ask for a page, and for its file, from now on.
func (x *pair) asks(k Key) {
	if !slices.Contains(x.keys, k) {
		x.keys = append(x.keys, k)
	}
	if !slices.Contains(x.files, k.File) {
		x.files = append(x.files, k.File)
	}
}

// did fails if the two answered differently, or are not the same.
func (x *pair) did(got, want bool, what string) {
	x.t.Helper()
	is(x.t, got, want, what)
	x.same(what)
}

func (x *pair) put(k Key, f int) {
	x.t.Helper()
	x.asks(k)
	if !slices.Contains(x.frames, f) {
		x.frames = append(x.frames, f)
	}
	x.did(x.c.Put(k, f), x.m.Put(k, f), told("Put", k.File, k.Page, f))
}

func (x *pair) mark(k Key, dirty bool) {
	x.t.Helper()
	x.asks(k)
	x.did(x.c.Mark(k, dirty), x.m.Mark(k, dirty), told("Mark "+strconv.FormatBool(dirty), k.File, k.Page))
}

func (x *pair) drop(k Key) {
	x.t.Helper()
	x.asks(k)
	x.did(x.c.Drop(k), x.m.Drop(k), told("Drop", k.File, k.Page))
}

// told is a call as text.
func told(call string, numbers ...int) string {
	for _, n := range numbers {
		call += " " + strconv.Itoa(n)
	}
	return call
}

// is fails if a call did not answer what is wanted.
func is(t *testing.T, got, want bool, what string) {
	t.Helper()
	if got != want {
		t.Fatalf("%s: %v, want %v", what, got, want)
	}
}

// stands fails if k does not stand in f, or is dirty and should not be, or the other
// way round: written out, so that the model alone is not believed.
func stands(t *testing.T, c *Cache, k Key, f int, dirty bool) {
	t.Helper()
	if got, ok := c.Frame(k); got != f || !ok {
		t.Fatalf("Frame(%v): %d, %v, want %d, true", k, got, ok, f)
	}
	if got, ok := c.Of(f); got != k || !ok {
		t.Fatalf("Of(%d): %v, %v, want %v, true", f, got, ok, k)
	}
	if got := c.Dirty(k); got != dirty {
		t.Fatalf("Dirty(%v): %v, want %v", k, got, dirty)
	}
	if !slices.Contains(c.Keys(-1), k) || k.File >= 0 && !slices.Contains(c.Keys(k.File), k) {
		t.Fatalf("Keys: %v is not there", k)
	}
}

// nowhere fails if k stands somewhere, or is dirty.
func nowhere(t *testing.T, c *Cache, list ...Key) {
	t.Helper()
	for _, k := range list {
		if f, ok := c.Frame(k); f != 0 || ok {
			t.Fatalf("Frame(%v): %d, %v, want 0, false", k, f, ok)
		}
		is(t, c.Dirty(k), false, told("Dirty", k.File, k.Page))
		if slices.Contains(c.Keys(-1), k) || slices.Contains(c.Keys(k.File), k) {
			t.Fatalf("Keys: %v is there", k)
		}
	}
}

// empty fails if any page stands in one of the frames.
func empty(t *testing.T, c *Cache, frames ...int) {
	t.Helper()
	for _, f := range frames {
		if k, ok := c.Of(f); k != (Key{}) || ok {
			t.Fatalf("Of(%d): %v, %v, want {0 0}, false", f, k, ok)
		}
	}
}

// keys fails if others than these pages of the file stand somewhere, or in another order.
func keys(t *testing.T, c *Cache, file int, want ...Key) {
	t.Helper()
	if got := c.Keys(file); !slices.Equal(got, want) {
		t.Fatalf("Keys(%d): %v, want %v", file, got, want)
	}
}

// none fails if any page stands anywhere.
func none(t *testing.T, c *Cache) {
	t.Helper()
	nowhere(t, c, edgeKeys()...)
	empty(t, c, ends()...)
	for _, file := range ends() {
		keys(t, c, file)
	}
}

// orders calls done with the numbers below n in each order that there is.
func orders(n int, done func(order []int)) {
	var next func(order []int)
	next = func(order []int) {
		if len(order) == n {
			done(order)
			return
		}
		for i := range n {
			if !slices.Contains(order, i) {
				next(append(slices.Clip(order), i))
			}
		}
	}
	next(nil)
}

// numbers are numbers below n that look like random ones, the same ones for the same
// seed.
func numbers(seed uint64) func(n int) int {
	return func(n int) int {
		seed = seed*6364136223846793005 + 1442695040888963407
		return int((seed >> 33) % uint64(n))
	}
}

// P15.1: the chapter's example.
func TestExample(t *testing.T) {
	c, k := New(), key(1, 2)
	is(t, c.Put(k, 5), true, "Put")
	stands(t, c, k, 5, false)
	is(t, c.Mark(k, true), true, "Mark")
	stands(t, c, k, 5, true)
	is(t, c.Drop(k), true, "Drop")
	none(t, c)
	is(t, c.Put(k, 5), true, "Put again")
	stands(t, c, k, 5, false)
}

// P15.1: in a new one nothing stands anywhere.
func TestNew(t *testing.T) {
	c := New()
	if c == nil {
		t.Fatal("New: nil")
	}
	none(t, c)
	for _, k := range edgeKeys() {
		is(t, c.Mark(k, true), false, "Mark true")
		is(t, c.Mark(k, false), false, "Mark false")
		is(t, c.Drop(k), false, "Drop")
	}
	none(t, c)
}

// P15.1: Put of a page that stands nowhere, into a frame that has none.
func TestPut(t *testing.T) {
	c := New()
	var want []Key
	for file := range api.MaxFiles {
		for page := range api.FilePages {
			k, f := key(file, page), 1000-16*file-page
			nowhere(t, c, k)
			empty(t, c, f)
			is(t, c.Put(k, f), true, told("Put", file, page, f))
			stands(t, c, k, f, false)
			want = append(want, k)
			keys(t, c, -1, want...)
			keys(t, c, file, want[16*file:]...)
		}
	}
	for i, k := range want {
		stands(t, c, k, 1000-i, false)
	}
	empty(t, c, 936, 937-1, 1001, 0, -1000)
}

// P15.1: Put with false, and nothing: of a page that stands in that frame, of one that
// stands in another, into a frame that has another page, and both at once; dirty or
// clean, whatever was there is as it was.
func TestRefusedPut(t *testing.T) {
	for _, dirty := range []bool{false, true} {
		x := edgePair(t)
		k, l, other := key(1, 2), key(2, 1), key(1, 1)
		x.put(k, 7)
		x.put(l, 8)
		x.mark(k, dirty)
		x.mark(l, !dirty)
		for range 2 {
			for _, p := range []standing{
				{k: k, f: 7}, {k: l, f: 8}, // in that frame
				{k: k, f: 9}, {k: l, f: 0}, {k: k, f: -7}, {k: k, f: 7 + 1<<32}, // in another one
				{k: other, f: 7}, {k: key(2, 2), f: 8}, {k: key(-1, 2), f: 7}, {k: Key{}, f: 8}, // that has another page
				{k: k, f: 8}, {k: l, f: 7}, // both at once
			} {
				is(t, x.c.Put(p.k, p.f), false, told("Put", p.k.File, p.k.Page, p.f))
				x.same(told("Put", p.k.File, p.k.Page, p.f))
				stands(t, x.c, k, 7, dirty)
				stands(t, x.c, l, 8, !dirty)
				keys(t, x.c, -1, k, l)
			}
		}
		nowhere(t, x.c, other, key(2, 2), key(-1, 2), Key{})
		empty(t, x.c, 9, 0, -7, 7+1<<32)
		x.put(other, 9)
		x.drop(k)
		x.put(k, 7)
		stands(t, x.c, k, 7, false)
		stands(t, x.c, other, 9, false)
	}
}

// P15.1: a Put that was refused leaves nothing behind: neither its page nor its frame
// is there when what it met is gone.
func TestBehindARefusedPut(t *testing.T) {
	c, k, l := New(), key(3, 0), key(3, 1)
	is(t, c.Put(k, 4), true, "Put")
	is(t, c.Put(l, 4), false, "Put into a frame that has one")
	is(t, c.Put(k, 5), false, "Put of what stands")
	is(t, c.Drop(l), false, "Drop of what was refused")
	is(t, c.Mark(l, true), false, "Mark of what was refused")
	stands(t, c, k, 4, false)
	is(t, c.Drop(k), true, "Drop")
	none(t, c)
	empty(t, c, 4, 5)
	is(t, c.Put(l, 5), true, "Put into the other frame")
	is(t, c.Put(k, 4), true, "Put")
	stands(t, c, l, 5, false)
	stands(t, c, k, 4, false)
}

// P15.1: the page and the frame of zero values are as any other: they are held against
// what there is not.
func TestZeros(t *testing.T) {
	c := New()
	is(t, c.Put(Key{}, 9), true, "Put of the zero Key")
	empty(t, c, 0, 8)
	nowhere(t, c, key(0, 1), key(1, 0))
	is(t, c.Put(key(0, 1), 0), true, "Put into frame 0")
	stands(t, c, Key{}, 9, false)
	stands(t, c, key(0, 1), 0, false)
	is(t, c.Put(key(1, 0), 0), false, "Put into frame 0 again")
	is(t, c.Put(Key{}, 1), false, "Put of the zero Key again")
	keys(t, c, 0, Key{}, key(0, 1))
	is(t, c.Drop(key(1, 0)), false, "Drop of what stands nowhere")
	stands(t, c, key(0, 1), 0, false)
	is(t, c.Drop(Key{}), true, "Drop of the zero Key")
	stands(t, c, key(0, 1), 0, false)
	is(t, c.Put(Key{}, 1), true, "Put of the zero Key")
	is(t, c.Drop(key(0, 1)), true, "Drop")
	stands(t, c, Key{}, 1, false)
	empty(t, c, 0, 9)
}

// P15.1: pages that stood and were marked and dropped are clean when they are put again,
// into that frame or another one; so is another page in that frame.
func TestPutAgainIsClean(t *testing.T) {
	for _, f := range []int{7, 8, 0, -1, math.MaxInt} {
		x := edgePair(t)
		k, l, beside := key(2, 15), key(2, 14), key(0, 0)
		x.put(k, 7)
		x.put(beside, 70)
		x.mark(beside, true)
		for range 3 {
			x.mark(k, true)
			x.drop(k)
			x.mark(k, true)
			x.put(k, f)
			stands(t, x.c, k, f, false)
			x.mark(k, true)
			x.drop(k)
			x.put(l, f)
			stands(t, x.c, l, f, false)
			x.drop(l)
			x.put(k, 7)
			stands(t, x.c, k, 7, false)
		}
		stands(t, x.c, beside, 70, true)
	}
}

// P15.1: Frame and Of: of what stands, of what stands nowhere, of what was dropped, of
// what was put elsewhere.
func TestFrameAndOf(t *testing.T) {
	c, k, l := New(), key(1, 10), key(2, 10)
	is(t, c.Put(k, 30), true, "Put")
	stands(t, c, k, 30, false)
	nowhere(t, c, l, key(10, 1), key(1, 11), key(1, 9), key(0, 10), key(-1, 10), key(1, -10), key(1+1<<32, 10), key(1, 10+1<<32))
	empty(t, c, 29, 31, -30, 0, 30+1<<32)
	is(t, c.Drop(k), true, "Drop")
	nowhere(t, c, k)
	empty(t, c, 30)
	is(t, c.Put(k, 31), true, "Put elsewhere")
	stands(t, c, k, 31, false)
	empty(t, c, 30)
	is(t, c.Put(l, 30), true, "Put of another one")
	stands(t, c, l, 30, false)
	stands(t, c, k, 31, false)
	is(t, c.Drop(k), true, "Drop")
	is(t, c.Drop(l), true, "Drop")
	is(t, c.Put(k, 30), true, "Put, the other way round")
	is(t, c.Put(l, 31), true, "Put, the other way round")
	stands(t, c, k, 30, false)
	stands(t, c, l, 31, false)
}

// P15.1: pages that differ in File alone, in Page alone, in both, or of which one's File
// is the other one's Page, are different ones.
func TestDifferentKeys(t *testing.T) {
	list := []Key{key(1, 1), key(1, 2), key(2, 1), key(2, 2)}
	x := edgePair(t)
	for i, k := range list {
		x.put(k, i)
		x.mark(k, i%2 == 0)
	}
	for i, k := range list {
		stands(t, x.c, k, i, i%2 == 0)
	}
	for i, k := range list {
		x.mark(k, i%2 == 1)
		x.drop(k)
		nowhere(t, x.c, list[:i+1]...)
		keys(t, x.c, -1, list[i+1:]...)
	}
	for i, k := range list {
		x.put(k, 50)
		for j, l := range list {
			is(t, x.c.Drop(l), i == j, "Drop of one beside another")
		}
		x.m.Drop(k)
	}
	none(t, x.c)
}

// P15.1: pages and frames at 0, at their last and beyond, below 0, and at the ends of
// int: each one is as any other, and none is taken for another one.
func TestEdges(t *testing.T) {
	x, n := edgePair(t), len(ends())
	for i, k := range edgeKeys() {
		x.put(k, ends()[i%n])
		x.mark(k, i%3 != 0)
		x.put(k, i)
	}
	for i, k := range slices.Backward(edgeKeys()) {
		x.mark(k, i%2 == 0)
		x.drop(k)
		x.drop(k)
	}
	none(t, x.c)
}

// P15.1: one page alone, in each frame of the edges, and in no other one.
func TestEdgeFrames(t *testing.T) {
	k, l := key(2, 2), key(2, 3)
	for _, f := range ends() {
		c := New()
		is(t, c.Put(k, f), true, told("Put into", f))
		for _, g := range ends() {
			if g != f {
				empty(t, c, g)
			}
			is(t, c.Put(k, g), false, told("Put again into", g))
			is(t, c.Put(l, g), g != f, told("Put of another one into", g))
			is(t, c.Drop(l), g != f, told("Drop of it from", g))
		}
		stands(t, c, k, f, false)
		is(t, c.Drop(k), true, told("Drop from", f))
		none(t, c)
	}
}

// P15.1: each page of the edges alone, and no other one.
func TestEdgeKeys(t *testing.T) {
	for _, k := range edgeKeys() {
		c := New()
		is(t, c.Put(k, 5), true, told("Put", k.File, k.Page))
		for _, l := range edgeKeys() {
			if l != k {
				nowhere(t, c, l)
				is(t, c.Mark(l, true), false, told("Mark of another", l.File, l.Page))
				is(t, c.Drop(l), false, told("Drop of another", l.File, l.Page))
			}
		}
		stands(t, c, k, 5, false)
		for _, file := range ends() {
			if file < 0 || file == k.File {
				keys(t, c, file, k)
			} else {
				keys(t, c, file)
			}
		}
		is(t, c.Mark(k, true), true, "Mark")
		stands(t, c, k, 5, true)
		is(t, c.Drop(k), true, "Drop")
		none(t, c)
	}
}

// P15.1: Mark: dirty, clean, the same again; it is the last one that holds.
func TestMark(t *testing.T) {
	for marks := range 1 << 6 {
		c, k := New(), key(3, 15)
		is(t, c.Put(k, 1023), true, "Put")
		stands(t, c, k, 1023, false)
		for i := range 6 {
			dirty := marks>>i&1 == 1
			is(t, c.Mark(k, dirty), true, "Mark")
			stands(t, c, k, 1023, dirty)
			keys(t, c, 3, k)
		}
	}
}

// P15.1: Mark of what stands nowhere: false, and nothing; it is not remembered either.
func TestMarkOfNothing(t *testing.T) {
	for _, dirty := range []bool{true, false} {
		x := edgePair(t)
		k, there := key(1, 4), key(1, 5)
		is(t, x.c.Mark(k, dirty), false, "Mark")
		x.same("Mark")
		x.put(there, 6)
		x.mark(there, !dirty)
		is(t, x.c.Mark(k, dirty), false, "Mark beside another one")
		x.same("Mark")
		x.put(k, 7)
		stands(t, x.c, k, 7, false)
		stands(t, x.c, there, 6, !dirty)
		x.drop(there)
		is(t, x.c.Mark(there, dirty), false, "Mark of what was dropped")
		nowhere(t, x.c, there)
		empty(t, x.c, 6)
		x.put(there, 6)
		stands(t, x.c, there, 6, false)
	}
}

// P15.1: a Mark of one page changes no other one.
func TestMarkBesideOthers(t *testing.T) {
	x := edgePair(t)
	list := []Key{key(0, 0), key(0, 1), key(1, 0), key(1, 1), key(-1, 0), key(0, -1)}
	for i, k := range list {
		x.put(k, 10*i)
	}
	for dirty := range 1 << len(list) {
		for i, k := range list {
			x.mark(k, dirty>>i&1 == 1)
		}
		for i, k := range list {
			stands(t, x.c, k, 10*i, dirty>>i&1 == 1)
		}
	}
	for i, k := range list {
		for j, l := range list {
			x.mark(l, j != i)
		}
		for j, l := range list {
			stands(t, x.c, l, 10*j, l != k)
		}
	}
}

// P15.1: Drop once, and again; the others are as they were, dirty or clean.
func TestDrop(t *testing.T) {
	list := []Key{key(0, 1), key(0, 2), key(1, 1), key(3, 0)}
	orders(len(list), func(order []int) {
		c := New()
		for i, k := range list {
			is(t, c.Put(k, 100+i), true, "Put")
			is(t, c.Mark(k, i%2 == 0), true, "Mark")
		}
		left := slices.Clone(list)
		for _, i := range order {
			is(t, c.Drop(list[i]), true, "Drop")
			is(t, c.Drop(list[i]), false, "Drop again")
			nowhere(t, c, list[i])
			empty(t, c, 100+i)
			left = slices.DeleteFunc(left, func(k Key) bool { return k == list[i] })
			keys(t, c, -1, left...)
			for _, k := range left {
				j := slices.Index(list, k)
				stands(t, c, k, 100+j, j%2 == 0)
			}
		}
		none(t, c)
	})
}

// P15.1: Drop of what stands nowhere changes nothing, also where its frame has another
// page now.
func TestDropOfNothing(t *testing.T) {
	x := edgePair(t)
	k, l := key(2, 6), key(2, 7)
	x.put(k, 3)
	x.drop(k)
	x.put(l, 3)
	x.mark(l, true)
	for range 2 {
		is(t, x.c.Drop(k), false, "Drop of what another one came behind")
		is(t, x.c.Mark(k, false), false, "Mark of it")
		x.same("Drop")
		stands(t, x.c, l, 3, true)
		nowhere(t, x.c, k)
	}
	for _, other := range edgeKeys() {
		is(t, x.c.Drop(other), false, told("Drop", other.File, other.Page))
	}
	stands(t, x.c, l, 3, true)
}

// R5: of pages that stand nowhere nothing is kept, however many there were.
func TestNothingIsKept(t *testing.T) {
	c := New()
	for n := range 100 {
		k := key(n, -n)
		c.Mark(k, true)
		c.Put(k, n)
		c.Put(key(n, n+1), n)
		c.Put(k, n+1)
		c.Mark(k, true)
		c.Drop(k)
		c.Mark(k, true)
		c.Drop(k)
		if len(c.pages) > 0 || len(c.keys) > 0 {
			t.Fatalf("%d pages and %d frames are kept behind the last Drop of %v", len(c.pages), len(c.keys), k)
		}
	}
}

// P15.1: Keys of one file, of one that has none, and of one below 0: all.
func TestKeys(t *testing.T) {
	c := New()
	low, one, three, high := key(-1, 4), key(1, 9), key(3, 9), key(1<<32+1, 0)
	for i, k := range []Key{three, key(1, 2), high, one, low, key(3, 0), key(-9, 9)} {
		is(t, c.Put(k, i), true, "Put")
	}
	all := []Key{key(-9, 9), low, key(1, 2), one, key(3, 0), three, high}
	keys(t, c, 1, key(1, 2), one)
	keys(t, c, 3, key(3, 0), three)
	keys(t, c, 1<<32+1, high)
	for _, file := range []int{0, 2, 4, 9, 1 << 32, 1<<32 + 3, math.MaxInt} {
		keys(t, c, file)
	}
	for _, file := range []int{-1, -2, -9, math.MinInt32, -1 << 32, math.MinInt} {
		keys(t, c, file, all...)
	}
	c.Drop(one)
	c.Drop(high)
	keys(t, c, 1, key(1, 2))
	keys(t, c, 1<<32+1)
	keys(t, c, -1, key(-9, 9), low, key(1, 2), key(3, 0), three)
}

// P15.1: by File and then by Page, those below 0 too, in whatever order they came, and
// in whatever frames they are.
func TestOrderOfKeys(t *testing.T) {
	rising := []Key{key(-2, 9), key(-1, -1), key(-1, 8), key(0, -7), key(0, 0), key(3, -9), key(3, 1)}
	orders(len(rising), func(order []int) {
		c := New()
		for i, j := range order {
			c.Put(rising[j], 2*i-j)
			c.Put(rising[j], 1000-i)
		}
		keys(t, c, -1, rising...)
		keys(t, c, 0, rising[3], rising[4])
		keys(t, c, 3, rising[5], rising[6])
	})
}

// P15.1: at the ends of int, where a difference of two would wrap round.
func TestOrderAtTheEnds(t *testing.T) {
	low, high := math.MinInt, math.MaxInt
	rising := []Key{key(low, low), key(low, high), key(-1, high), key(0, low), key(0, 0), key(0, high), key(high, low), key(high, high)}
	for first := range rising {
		c := New()
		for i := range rising {
			n := (first + 3*i) % len(rising)
			is(t, c.Put(rising[n], high-n), true, "Put")
		}
		keys(t, c, low, rising...)
		keys(t, c, -1, rising...)
		keys(t, c, 0, rising[3:6]...)
		keys(t, c, high, rising[6:]...)
	}
}

// P15.1: in whatever order they were put, marked, dropped and put elsewhere.
func TestOrderBehindAll(t *testing.T) {
	rising := []Key{key(-1, 5), key(0, 5), key(0, 6), key(1, -4), key(1, 4)}
	orders(len(rising), func(order []int) {
		c, gone := New(), key(0, 4)
		for i, j := range order {
			c.Put(rising[j], i)
			c.Put(gone, 30+i)
			c.Mark(rising[j], i%2 == 0)
		}
		c.Drop(gone)
		c.Drop(rising[order[0]])
		c.Drop(rising[order[3]])
		c.Put(rising[order[0]], 3)
		c.Put(rising[order[3]], 0)
		keys(t, c, -1, rising...)
		keys(t, c, 0, rising[1], rising[2])
		keys(t, c, 1, rising[3], rising[4])
		stands(t, c, rising[order[0]], 3, false)
		stands(t, c, rising[order[3]], 0, false)
		stands(t, c, rising[order[2]], 2, true)
	})
}

// P15.1: many pages, in as many frames as there are and more.
func TestManyPages(t *testing.T) {
	c, next := New(), numbers(4)
	var rising []Key
	for file := range 32 {
		for page := range 64 {
			rising = append(rising, key(file, page))
		}
	}
	mixed := make([]int, len(rising))
	for i := range mixed {
		j := next(i + 1)
		mixed[i], mixed[j] = mixed[j], i
	}
	for f, i := range mixed {
		is(t, c.Put(rising[i], f), true, "Put")
		c.Mark(rising[i], i%3 == 0)
	}
	keys(t, c, -1, rising...)
	for f, i := range mixed {
		k, ok := c.Of(f)
		is(t, ok && k == rising[i] && c.Dirty(k) == (i%3 == 0), true, told("Of", f))
	}
	for file := range 32 {
		keys(t, c, file, rising[64*file:64*file+64]...)
	}
	for i, k := range rising {
		is(t, c.Drop(k), true, "Drop")
		if i%64 == 63 {
			keys(t, c, -1, rising[i+1:]...)
		}
	}
	none(t, c)
}

// R4: what a caller does to what was answered changes nothing, its spare room included;
// no answer shares memory with another one.
func TestAnswersAreNew(t *testing.T) {
	c := New()
	rising := []Key{key(-1, 3), key(1, 1), key(1, 2), key(2, 1), key(2, 4), key(3, 0)}
	for f, k := range rising {
		c.Put(k, f)
	}
	for range 3 {
		for _, file := range []int{-1, 0, 1, 2, 3, 4} {
			l, kept, all := c.Keys(file), c.Keys(file), c.Keys(-1)
			was := slices.Clone(kept)
			l = l[:cap(l)]
			for i := range l {
				l[i] = key(9, 9)
			}
			if !slices.Equal(kept, was) || !slices.Equal(all, rising) || !slices.Equal(c.Keys(file), was) {
				t.Fatalf("other answers are %v, %v, %v", kept, all, c.Keys(file))
			}
			keys(t, c, -1, rising...)
			keys(t, c, 9)
		}
		for f, k := range rising {
			stands(t, c, k, f, false)
		}
	}
}

// R4: later calls change nothing of what was answered before.
func TestAnswersStay(t *testing.T) {
	c, next := New(), numbers(8)
	var list, was [][]Key
	for range 400 {
		anyCall(c, next)
		for _, file := range []int{-1, next(3)} {
			answer := c.Keys(file)
			list, was = append(list, answer), append(was, slices.Clone(answer))
		}
	}
	for i := range list {
		if !slices.Equal(list[i], was[i]) {
			t.Fatalf("%v was %v", list[i], was[i])
		}
	}
}

// caller is a Cache, or the model.
type caller interface {
	Put(k Key, f int) bool
	Mark(k Key, dirty bool) bool
	Drop(k Key) bool
}

// anyCall does one call that changes, with few pages and frames, and tells what it
// answered.
func anyCall(c caller, next func(int) int) bool {
	k, f := key(next(4)-1, next(4)), next(9)
	switch next(8) {
	case 0, 1, 2, 3:
		return c.Put(k, f)
	case 4:
		return c.Mark(k, false)
	case 5, 6:
		return c.Mark(k, true)
	default:
		return c.Drop(k)
	}
}

// R4: nothing of what is handed in is kept: a Key that is changed later is another one.
func TestKeysAreValues(t *testing.T) {
	c, k := New(), key(1, 1)
	c.Put(k, 7)
	k.Page = 2
	stands(t, c, key(1, 1), 7, false)
	nowhere(t, c, k)
}

// R5: two Caches have nothing in common, those among them that New did not make.
func TestSeveral(t *testing.T) {
	for _, two := range [][2]*Cache{{New(), New()}, {{}, {}}, {New(), {}}, {{}, New()}} {
		k, l := key(1, 1), key(2, 2)
		x := newPair(t, two[0], []Key{k, l}, []int{7, 8}, []int{-1, 1, 2})
		y := newPair(t, two[1], []Key{k, l}, []int{7, 8}, []int{-1, 1, 2})
		both := func(what string) {
			x.same(what)
			y.same(what)
		}
		x.put(k, 7)
		both("a Put")
		y.put(l, 7)
		both("a Put of another one into that frame")
		y.put(k, 8)
		both("a Put of that one into another frame")
		x.mark(k, true)
		both("a Mark")
		y.mark(k, false)
		both("a Mark of that one")
		y.drop(k)
		both("a Drop")
		x.drop(l)
		both("a Drop of what stands in the other one")
		x.drop(k)
		both("a Drop")
		stands(t, y.c, l, 7, false)
		none(t, x.c)
	}
}

// P15.1: a nil Cache: nothing, false; each call, at any arguments.
func TestNil(t *testing.T) {
	var c *Cache
	for range 2 {
		for _, k := range edgeKeys() {
			for _, f := range ends() {
				is(t, c.Put(k, f), false, "Put")
			}
			is(t, c.Mark(k, true), false, "Mark true")
			is(t, c.Mark(k, false), false, "Mark false")
			is(t, c.Drop(k), false, "Drop")
		}
		none(t, c)
	}
}

// R1: one that New did not make is as a new one, whichever call is the first.
func TestNotMadeByNew(t *testing.T) {
	k := key(1, 2)
	for _, first := range []func(c *Cache){
		func(c *Cache) {},
		func(c *Cache) { nowhere(t, c, k) },
		func(c *Cache) { empty(t, c, 7, 0) },
		func(c *Cache) { is(t, c.Mark(k, true), false, "Mark") },
		func(c *Cache) { is(t, c.Mark(k, false), false, "Mark") },
		func(c *Cache) { is(t, c.Dirty(k), false, "Dirty") },
		func(c *Cache) { is(t, c.Drop(k), false, "Drop") },
		func(c *Cache) { keys(t, c, -1) },
		func(c *Cache) { keys(t, c, 1) },
	} {
		c := new(Cache)
		first(c)
		none(t, c)
		is(t, c.Put(k, 7), true, "Put")
		is(t, c.Put(k, 8), false, "Put again")
		stands(t, c, k, 7, false)
		is(t, c.Mark(k, true), true, "Mark")
		stands(t, c, k, 7, true)
		is(t, c.Drop(k), true, "Drop")
		none(t, c)
	}
	x := newPair(t, &Cache{}, edgeKeys(), ends(), ends())
	for i, f := range ends() {
		x.put(edgeKeys()[i], f)
		x.mark(edgeKeys()[i], true)
	}
}

// P15.1: many calls in a row, held against a list that is gone through one after the
// other.
func TestManyCalls(t *testing.T) {
	var all []Key
	for file := -2; file < 4; file++ {
		for page := -1; page < 5; page++ {
			all = append(all, key(file, page))
		}
	}
	for seed := range uint64(20) {
		x := newPair(t, New(), all, []int{-1, 0, 1, 2, 3, 4, 5, 6, 7, 8, 9}, []int{-2, -1, 0, 1, 2, 3})
		next, again := numbers(seed), numbers(seed)
		for i := range 1000 {
			x.did(anyCall(x.c, next), anyCall(&x.m, again), told("seed, call", int(seed), i))
		}
	}
}

// P15.1: many calls in a row at numbers of all kinds.
func TestManyCallsAtTheEdges(t *testing.T) {
	x, next, list := edgePair(t), numbers(99), ends()
	some := func() int { return list[next(len(list))] }
	for range 1500 {
		k, f := key(some(), some()), some()
		if n := len(x.m.list); n > 0 && next(3) == 0 {
			k = x.m.list[next(n)].k
		}
		switch next(6) {
		case 0, 1, 2:
			x.put(k, f)
		case 3:
			x.mark(k, true)
		case 4:
			x.mark(k, false)
		default:
			x.drop(k)
		}
	}
}

// R5: the same calls, done again from the beginning, have the same answers.
func TestTheSameAgain(t *testing.T) {
	row := func() ([]Key, []int, []bool) {
		c, next := New(), numbers(5)
		var list []Key
		var frames []int
		var done []bool
		for range 500 {
			done = append(done, anyCall(c, next))
			k, taken := c.Of(next(9))
			f, stands := c.Frame(key(next(4)-1, next(4)))
			done = append(done, taken, stands, c.Dirty(k))
			frames = append(frames, f)
			list = append(append(list, k), c.Keys(next(4)-1)...)
		}
		return list, frames, done
	}
	list, frames, done := row()
	for range 5 {
		l, f, d := row()
		if !slices.Equal(l, list) || !slices.Equal(f, frames) || !slices.Equal(d, done) {
			t.Fatal("the same calls have other answers")
		}
	}
}
