package ram

import (
	"bytes"
	"headland/api"
	"math"
	"testing"
)

const (
	size = api.PageSize
	most = api.MaxFrames
)

// marked answers n bytes, of which those that stand near each other differ, and
// which are other ones for another mark.
func marked(n int, mark byte) []byte {
	b := make([]byte, n)
	for i := range b {
		b[i] = mark + byte(i)
	}
	return b
}

// filled answers so many frames, each one with bytes of its own that are not 0.
func filled(t *testing.T, frames int) *Ram {
	t.Helper()
	m := New(frames)
	for f := range frames {
		if e := m.Write(f, 0, marks(f)); e != api.OK {
			t.Fatalf("Write(%d, 0, a page): %d", f, e)
		}
	}
	return m
}

// marks are the bytes of frame f of filled.
func marks(f int) []byte {
	return marked(size, byte(f*67+1))
}

// page answers all bytes of a frame that is not poisoned.
func page(t *testing.T, m *Ram, f int) []byte {
	t.Helper()
	b, e := m.Read(f, 0, size)
	if e != api.OK {
		t.Fatalf("Read(%d, 0, %d): %d", f, size, e)
	}
	return b
}

// asFilled fails if one of m's frames, but for those that are poisoned, is not
// as filled left it.
func asFilled(t *testing.T, m *Ram, what string) {
	t.Helper()
	for f := range m.Frames() {
		if !m.Bad(f) && !bytes.Equal(page(t, m, f), marks(f)) {
			t.Errorf("%s changed frame %d: % x", what, f, page(t, m, f))
		}
	}
}

// notThere are numbers that no frame of so many has.
func notThere(frames int) []int {
	return []int{-1, frames, frames + 1, -frames - 1, most, most + 1, -most, 1 << 32, -1 << 32,
		math.MinInt, math.MinInt + 1, math.MaxInt, math.MaxInt - 1}
}

// wrongPlaces are places and counts that are not all in a frame.
func wrongPlaces() []struct{ at, n int } {
	return []struct{ at, n int }{
		{-1, 0}, {-1, 1}, {-1, 2}, {-1, size}, {-1, size + 1}, {-size, size}, {-size, 2 * size},
		{size + 1, 0}, {size, 1}, {size - 1, 2}, {1, size}, {0, size + 1}, {size, size}, {2 * size, 1},
		{0, -1}, {1, -1}, {size, -1}, {size + 1, -1}, {size, -size}, {2 * size, -size}, {-1, -1},
		{math.MinInt, 0}, {math.MinInt, 1}, {math.MinInt, size}, {math.MinInt + 1, 0},
		{math.MaxInt, 0}, {math.MaxInt, 1}, {math.MaxInt, size}, {math.MaxInt - size + 1, size}, {math.MaxInt - size, size},
		{0, math.MinInt}, {0, math.MaxInt}, {1, math.MaxInt}, {size, math.MinInt}, {size, math.MaxInt},
		{math.MaxInt, math.MinInt}, {math.MinInt, math.MaxInt}, {math.MaxInt, -math.MaxInt}, {math.MaxInt, math.MaxInt},
		{math.MinInt, math.MinInt}, {-1, math.MaxInt}, {-1, math.MinInt}, {size + 1, math.MinInt}, {math.MinInt, -1},
	}
}

// refusedRead fails if Read does not answer that error, and nothing beside it.
func refusedRead(t *testing.T, m *Ram, f, at, n int, want api.Errno) {
	t.Helper()
	if b, e := m.Read(f, at, n); e != want || len(b) != 0 {
		t.Errorf("Read(%d, %d, %d): % x %d, want none and %d", f, at, n, b, e, want)
	}
}

// refusedWrite fails if Write of n bytes does not answer that error.
func refusedWrite(t *testing.T, m *Ram, f, at, n int, want api.Errno) {
	t.Helper()
	if e := m.Write(f, at, make([]byte, n)); e != want {
		t.Errorf("Write(%d, %d, %d bytes): %d, want %d", f, at, n, e, want)
	}
}

// P2.1: so many frames, from 0 to MaxFrames; beyond, the ends.
func TestNewHasSoMany(t *testing.T) {
	for _, c := range []struct{ frames, want int }{
		{0, 0}, {1, 1}, {2, 2}, {api.SectFrames, api.SectFrames}, {1000, 1000}, {most - 1, most - 1}, {most, most},
		{-1, 0}, {-most, 0}, {math.MinInt, 0}, {math.MinInt + 1, 0},
		{most + 1, most}, {1 << 20, most}, {1 << 40, most}, {math.MaxInt, most},
	} {
		m := New(c.frames)
		if m == nil || m.Frames() != c.want {
			t.Fatalf("New(%d).Frames(): %d, want %d", c.frames, m.Frames(), c.want)
		}
		if c.want > 0 && m.Write(c.want-1, 0, []byte{1}) != api.OK {
			t.Errorf("New(%d): no frame %d", c.frames, c.want-1)
		}
		if e := m.Zero(c.want); e != api.ErrArg {
			t.Errorf("New(%d): Zero(%d): %d", c.frames, c.want, e)
		}
	}
}

// P2.1: all bytes are 0 at first, and none is poisoned.
func TestNewIsZeroAndGood(t *testing.T) {
	for _, frames := range []int{1, 3, most, most + 1} {
		m := New(frames)
		for f := range m.Frames() {
			if !bytes.Equal(page(t, m, f), make([]byte, size)) || m.Bad(f) {
				t.Fatalf("New(%d): frame %d: % x, bad %v", frames, f, page(t, m, f), m.Bad(f))
			}
		}
	}
}

// P2.1: each New is another memory.
func TestNewIsAnother(t *testing.T) {
	m, other := New(2), New(2)
	m.Write(0, 0, []byte("abc"))
	m.Poison(1)
	if other.Bad(1) || !bytes.Equal(page(t, other, 0), make([]byte, size)) || !bytes.Equal(page(t, other, 1), make([]byte, size)) {
		t.Error("what is done to one is seen in the other one")
	}
	if again := New(2); again.Bad(1) || !bytes.Equal(page(t, again, 0), make([]byte, size)) {
		t.Error("what is done to one is seen in a later one")
	}
}

// P2.1: without frames every call has none.
func TestNoFrames(t *testing.T) {
	for _, frames := range []int{0, -1, math.MinInt} {
		none(t, New(frames))
	}
}

// P2.1: a nil *Ram has 0 frames, in every call.
func TestNilRam(t *testing.T) {
	none(t, nil)
	none(t, new(Ram))
}

// none fails if m has a frame in one of its calls.
func none(t *testing.T, m *Ram) {
	t.Helper()
	if m.Frames() != 0 {
		t.Errorf("Frames: %d", m.Frames())
	}
	for _, f := range append(notThere(0), 0, 1) {
		for _, w := range append(wrongPlaces(), []struct{ at, n int }{{0, 0}, {0, 1}, {0, size}, {size, 0}}...) {
			refusedRead(t, m, f, w.at, w.n, api.ErrArg)
		}
		if m.Write(f, 0, nil) != api.ErrArg || m.Write(f, 0, []byte{1}) != api.ErrArg || m.Write(f, -1, nil) != api.ErrArg {
			t.Errorf("Write(%d, ..)", f)
		}
		if m.Copy(f, f) != api.ErrArg || m.Copy(0, f) != api.ErrArg || m.Copy(f, 0) != api.ErrArg || m.Zero(f) != api.ErrArg {
			t.Errorf("Copy or Zero of %d", f)
		}
		if m.Bad(f) || m.Poison(f) || m.Poison(f) || m.Bad(f) {
			t.Errorf("Bad or Poison of %d", f)
		}
	}
	if m.Frames() != 0 {
		t.Errorf("Frames behind the calls: %d", m.Frames())
	}
}

// P2.1: the bytes at each place, of each count; the frame stays as it is.
func TestReadAtEachPlace(t *testing.T) {
	m := filled(t, 3)
	for n := 0; n <= size; n++ {
		for at := 0; at <= size-n; at++ {
			b, e := m.Read(1, at, n)
			if e != api.OK || !bytes.Equal(b, marks(1)[at:at+n]) {
				t.Fatalf("Read(1, %d, %d): % x %d", at, n, b, e)
			}
		}
	}
	asFilled(t, m, "Read")
}

// P2.1: what was written is there, at each place, of each count; all other
// bytes, of that frame and of its neighbours, are as they were.
func TestWriteAtEachPlace(t *testing.T) {
	for n := 0; n <= size; n++ {
		for at := 0; at <= size-n; at++ {
			m := filled(t, 3)
			b, want := marked(n, 0x33), marks(1)
			copy(want[at:], b)
			if e := m.Write(1, at, b); e != api.OK || !bytes.Equal(page(t, m, 1), want) {
				t.Fatalf("Write(1, %d, %d bytes): %d, % x, want % x", at, n, e, page(t, m, 1), want)
			}
			if !bytes.Equal(page(t, m, 0), marks(0)) || !bytes.Equal(page(t, m, 2), marks(2)) {
				t.Fatalf("Write(1, %d, %d bytes) changed another frame", at, n)
			}
		}
	}
}

// P2.1: each frame, the first and the last of MaxFrames too, has bytes of its
// own.
func TestEachFrameItsOwn(t *testing.T) {
	m := New(most)
	for f := range most {
		if e := m.Write(f, 3, []byte{byte(f), byte(f >> 8), 0xee}); e != api.OK {
			t.Fatalf("Write(%d, ..): %d", f, e)
		}
	}
	for f := range most {
		want := make([]byte, size)
		copy(want[3:], []byte{byte(f), byte(f >> 8), 0xee})
		if !bytes.Equal(page(t, m, f), want) {
			t.Fatalf("frame %d: % x", f, page(t, m, f))
		}
	}
}

// P2.1: of no bytes: at from 0 to PageSize; nil and empty ones are the same.
func TestNoBytes(t *testing.T) {
	m := filled(t, 3)
	for at := 0; at <= size; at++ {
		if b, e := m.Read(1, at, 0); e != api.OK || len(b) != 0 {
			t.Errorf("Read(1, %d, 0): % x %d", at, b, e)
		}
		for _, b := range [][]byte{nil, {}, make([]byte, 0, 9)} {
			if e := m.Write(1, at, b); e != api.OK {
				t.Errorf("Write(1, %d, none): %d", at, e)
			}
		}
	}
	for _, at := range []int{-1, -size, size + 1, 2 * size, math.MinInt, math.MaxInt} {
		refusedRead(t, m, 1, at, 0, api.ErrArg)
		for _, b := range [][]byte{nil, {}, make([]byte, 0, 9)} {
			if e := m.Write(1, at, b); e != api.ErrArg {
				t.Errorf("Write(1, %d, none): %d", at, e)
			}
		}
	}
	asFilled(t, m, "no bytes")
}

// P2.1: ErrArg, if the bytes are not all in the frame, in the middle one of
// three, so that a neighbour's bytes would be within reach.
func TestBytesNotAllThere(t *testing.T) {
	m := filled(t, 3)
	for _, w := range wrongPlaces() {
		for f := range 3 {
			refusedRead(t, m, f, w.at, w.n, api.ErrArg)
			if w.n >= 0 && w.n <= 4*size {
				refusedWrite(t, m, f, w.at, w.n, api.ErrArg)
			}
		}
	}
	for n := 0; n <= 3*size; n++ {
		for at := -2; at <= 3*size; at++ {
			if at < 0 || at+n > size {
				refusedRead(t, m, 1, at, n, api.ErrArg)
				refusedWrite(t, m, 1, at, n, api.ErrArg)
			}
		}
	}
	refusedWrite(t, m, 1, 0, 1<<20, api.ErrArg)
	asFilled(t, m, "a refused call")
}

// P2.1: ErrArg, if there is no such frame: of each call, and nothing is changed.
func TestNoSuchFrame(t *testing.T) {
	for _, frames := range []int{1, 3, most} {
		m := filled(t, frames)
		for _, f := range notThere(frames) {
			if f >= 0 && f < frames {
				continue
			}
			for _, n := range []int{0, 1, size} {
				refusedRead(t, m, f, 0, n, api.ErrArg)
				refusedWrite(t, m, f, 0, n, api.ErrArg)
			}
			if m.Copy(f, 0) != api.ErrArg || m.Copy(0, f) != api.ErrArg || m.Copy(f, f) != api.ErrArg || m.Zero(f) != api.ErrArg {
				t.Errorf("%d frames: Copy or Zero of %d", frames, f)
			}
			if m.Bad(f) || m.Poison(f) || m.Poison(f) || m.Bad(f) {
				t.Errorf("%d frames: Bad or Poison of %d", frames, f)
			}
		}
		if m.Frames() != frames {
			t.Errorf("%d frames: %d behind the calls", frames, m.Frames())
		}
		for f := range frames {
			if m.Bad(f) {
				t.Errorf("%d frames: %d is bad", frames, f)
			}
		}
		asFilled(t, m, "a call of no frame")
	}
}

// P2.1: all bytes of one frame are in the other one, and later writes to one of
// them are not seen in the other one.
func TestCopy(t *testing.T) {
	for from := range 3 {
		for to := range 3 {
			m := filled(t, 3)
			if e := m.Copy(from, to); e != api.OK {
				t.Fatalf("Copy(%d, %d): %d", from, to, e)
			}
			for f := range 3 {
				want := marks(f)
				if f == to {
					want = marks(from)
				}
				if !bytes.Equal(page(t, m, f), want) {
					t.Errorf("Copy(%d, %d): frame %d: % x", from, to, f, page(t, m, f))
				}
			}
			if from == to {
				continue
			}
			m.Write(from, 5, []byte{0})
			m.Write(to, 6, []byte{0})
			if page(t, m, to)[5] == 0 || page(t, m, from)[6] == 0 {
				t.Errorf("Copy(%d, %d): they share their bytes", from, to)
			}
		}
	}
}

// P2.1: all bytes are 0, of that frame alone; it can be written again.
func TestZero(t *testing.T) {
	m := filled(t, 3)
	if e := m.Zero(1); e != api.OK || !bytes.Equal(page(t, m, 1), make([]byte, size)) {
		t.Errorf("Zero: %d, % x", e, page(t, m, 1))
	}
	if !bytes.Equal(page(t, m, 0), marks(0)) || !bytes.Equal(page(t, m, 2), marks(2)) {
		t.Error("Zero changed another frame")
	}
	if e := m.Zero(1); e != api.OK || !bytes.Equal(page(t, m, 1), make([]byte, size)) {
		t.Errorf("Zero again: %d, % x", e, page(t, m, 1))
	}
	if e := m.Write(1, 0, marks(1)); e != api.OK {
		t.Errorf("Write behind Zero: %d", e)
	}
	asFilled(t, m, "Zero, and a Write")
}

// P2.1: a frame is poisoned from now on: it was not, once; it alone is bad.
func TestPoison(t *testing.T) {
	for _, frames := range []int{1, 3, most} {
		for _, f := range []int{0, frames / 2, frames - 1} {
			m := filled(t, frames)
			if m.Bad(f) || !m.Poison(f) || m.Poison(f) || m.Poison(f) {
				t.Fatalf("%d frames: Poison(%d)", frames, f)
			}
			for g := range frames {
				if m.Bad(g) != (g == f) {
					t.Errorf("%d frames: Poison(%d): Bad(%d) is %v", frames, f, g, m.Bad(g))
				}
			}
			asFilled(t, m, "Poison")
		}
	}
}

// P2.1: the chapter's example.
func TestPoisonReadExample(t *testing.T) {
	m := New(1)
	m.Poison(0)
	refusedRead(t, m, 0, 0, 1, api.ErrPoison)
}

// P2.1: a poisoned frame behind each call: ErrPoison, of no bytes too, and
// nothing.
func TestPoisonBehindEachCall(t *testing.T) {
	m := filled(t, 3)
	m.Poison(1)
	for n := 0; n <= size; n++ {
		for at := 0; at <= size-n; at++ {
			refusedRead(t, m, 1, at, n, api.ErrPoison)
			refusedWrite(t, m, 1, at, n, api.ErrPoison)
		}
	}
	if e := m.Write(1, size, nil); e != api.ErrPoison {
		t.Errorf("Write of nil: %d", e)
	}
	if m.Copy(1, 0) != api.ErrPoison || m.Copy(0, 1) != api.ErrPoison || m.Copy(1, 1) != api.ErrPoison || m.Zero(1) != api.ErrPoison {
		t.Error("Copy or Zero")
	}
	if m.Frames() != 3 {
		t.Errorf("Frames: %d", m.Frames())
	}
	asFilled(t, m, "a call of a poisoned frame")
}

// P2.1: it is poisoned from now on: no call heals it.
func TestPoisonStays(t *testing.T) {
	m := filled(t, 3)
	m.Poison(1)
	calls := []func(){
		func() { m.Zero(1) }, func() { m.Write(1, 0, marks(1)) }, func() { m.Write(1, 0, nil) },
		func() { m.Copy(0, 1) }, func() { m.Copy(1, 0) }, func() { m.Copy(1, 1) }, func() { m.Copy(0, 2) },
		func() { m.Read(1, 0, size) }, func() { m.Poison(1) }, func() { m.Poison(2) }, func() { m.Zero(0) },
	}
	for i, call := range calls {
		call()
		if !m.Bad(1) || m.Bad(0) {
			t.Errorf("behind call %d: bad %v %v", i, m.Bad(0), m.Bad(1))
		}
		refusedRead(t, m, 1, 0, size, api.ErrPoison)
	}
	if !m.Bad(2) || m.Poison(2) {
		t.Error("Poison of another one")
	}
}

// P2.1, R2: ErrArg comes ahead of ErrPoison: of a poisoned frame whose bytes are
// not all there, and of Copy whose other frame is not there.
func TestArgAheadOfPoison(t *testing.T) {
	m := filled(t, 3)
	m.Poison(0)
	m.Poison(2)
	for _, w := range wrongPlaces() {
		refusedRead(t, m, 0, w.at, w.n, api.ErrArg)
		if w.n >= 0 && w.n <= 4*size {
			refusedWrite(t, m, 2, w.at, w.n, api.ErrArg)
		}
	}
	for _, f := range notThere(3) {
		for _, g := range []int{0, 2} {
			if m.Copy(f, g) != api.ErrArg || m.Copy(g, f) != api.ErrArg {
				t.Errorf("Copy of %d and %d, which is poisoned", f, g)
			}
		}
	}
	if m.Copy(0, 2) != api.ErrPoison || m.Copy(2, 0) != api.ErrPoison {
		t.Error("Copy of two that are poisoned")
	}
	asFilled(t, m, "a refused call")
}

// R4: what is handed in is not kept, and not changed, its spare room neither.
func TestWriteKeepsNothing(t *testing.T) {
	for _, n := range []int{1, 5, size} {
		m := New(2)
		whole := marked(2*size, 0x55)
		b := whole[:n]
		if e := m.Write(1, 0, b); e != api.OK || !bytes.Equal(whole, marked(2*size, 0x55)) {
			t.Fatalf("Write of %d bytes: %d, % x", n, e, whole)
		}
		clear(whole)
		if got, _ := m.Read(1, 0, n); !bytes.Equal(got, marked(n, 0x55)) {
			t.Errorf("Write of %d bytes kept them: % x", n, got)
		}
		copy(whole, marked(2*size, 0x55))
		if m.Zero(1); !bytes.Equal(whole, marked(2*size, 0x55)) {
			t.Errorf("Zero changed %d bytes that were handed in: % x", n, whole)
		}
	}
}

// R4: a refused Write changes neither the bytes that are handed in nor those
// that are there.
func TestRefusedWriteChangesNothing(t *testing.T) {
	m := filled(t, 3)
	m.Poison(2)
	b := marked(size, 0x55)
	m.Write(1, 1, b)
	m.Write(1, -1, b)
	m.Write(2, 0, b)
	m.Write(3, 0, b)
	if !bytes.Equal(b, marked(size, 0x55)) {
		t.Errorf("% x", b)
	}
	asFilled(t, m, "a refused Write")
}

// R4: what is answered is memory of its own: it may be changed, and may grow,
// without being seen in the frame, in its neighbours or in another answer.
func TestReadIsItsOwn(t *testing.T) {
	m := filled(t, 3)
	for _, w := range []struct{ at, n int }{{0, 0}, {0, 1}, {3, 5}, {size - 2, 2}, {0, size}, {size, 0}} {
		one, _ := m.Read(1, w.at, w.n)
		two, _ := m.Read(1, w.at, w.n)
		clear(one)
		clear(one[:cap(one)])
		if !bytes.Equal(two, marks(1)[w.at:w.at+w.n]) {
			t.Errorf("two answers of Read(1, %d, %d) share memory", w.at, w.n)
		}
		_ = append(two, make([]byte, 2*size)...)
		asFilled(t, m, "a change of what is answered")
	}
}

// R4: what is answered is not changed by later calls.
func TestReadStays(t *testing.T) {
	m := filled(t, 2)
	b := page(t, m, 1)
	m.Write(1, 0, []byte("abc"))
	m.Copy(0, 1)
	m.Zero(1)
	m.Poison(1)
	if !bytes.Equal(b, marks(1)) {
		t.Errorf("% x", b)
	}
}

// P2.1, R4: the bytes that a call takes of a frame have no room behind them, so
// that nothing which is appended to them comes into the frame.
func TestPieceCanNotGrow(t *testing.T) {
	m := filled(t, 2)
	for n := 0; n <= size; n++ {
		for at := 0; at <= size-n; at++ {
			p, e := m.piece(1, at, n)
			if e != api.OK || len(p) != n || cap(p) != n {
				t.Fatalf("piece(1, %d, %d): %d bytes, room for %d, %d", at, n, len(p), cap(p), e)
			}
			_ = append(p, 0)
		}
	}
	asFilled(t, m, "an append")
}

// model is the memory as the chapter tells it, by other means: a map of bytes
// that are not 0, and one of frames that are bad.
type model struct {
	frames int
	held   map[[2]int]byte
	bad    map[int]bool
}

func (o *model) refuses(f, at, n int) api.Errno {
	switch {
	case f < 0 || f >= o.frames || at < 0 || n < 0 || at > size || n > size-at:
		return api.ErrArg
	case o.bad[f]:
		return api.ErrPoison
	}
	return api.OK
}

func (o *model) read(f, at, n int) ([]byte, api.Errno) {
	if e := o.refuses(f, at, n); e != api.OK {
		return nil, e
	}
	b := make([]byte, n)
	for i := range b {
		b[i] = o.held[[2]int{f, at + i}]
	}
	return b, api.OK
}

func (o *model) write(f, at int, b []byte) api.Errno {
	e := o.refuses(f, at, len(b))
	for i := 0; e == api.OK && i < len(b); i++ {
		o.held[[2]int{f, at + i}] = b[i]
	}
	return e
}

func (o *model) copy(from, to int) api.Errno {
	one, two := o.refuses(from, 0, 0), o.refuses(to, 0, 0)
	if one == api.ErrArg || two == api.ErrArg {
		return api.ErrArg
	}
	if one != api.OK || two != api.OK {
		return api.ErrPoison
	}
	b, _ := o.read(from, 0, size)
	return o.write(to, 0, b)
}

// P2.1: many calls in a row, right and wrong ones, held against the model.
func TestManyCalls(t *testing.T) {
	seed := uint64(1)
	next := func(n int) int {
		seed = seed*6364136223846793005 + 1442695040888963407
		return int((seed >> 33) % uint64(n))
	}
	for range 20 {
		frames := next(9)
		m, o := New(frames), &model{frames: frames, held: map[[2]int]byte{}, bad: map[int]bool{}}
		for step := range 2000 {
			f, g, at, n := next(frames+2)-1, next(frames+2)-1, next(size+3)-1, next(size/2)
			var got, want api.Errno
			switch kind := next(40); {
			case kind < 16:
				b := marked(n, byte(step))
				got, want = m.Write(f, at, b), o.write(f, at, b)
			case kind < 24:
				got, want = m.Copy(f, g), o.copy(f, g)
			case kind < 28:
				got, want = m.Zero(f), o.write(f, 0, make([]byte, size))
			case kind < 29 && step%5 == 0:
				fresh := f >= 0 && f < frames && !o.bad[f]
				if m.Poison(f) != fresh {
					t.Fatalf("step %d: Poison(%d), want %v", step, f, fresh)
				}
				if fresh {
					o.bad[f] = true
				}
			}
			if got != want {
				t.Fatalf("step %d: %d, want %d", step, got, want)
			}
			b, e := m.Read(f, at, n)
			if w, we := o.read(f, at, n); e != we || !bytes.Equal(b, w) || m.Bad(f) != o.bad[f] {
				t.Fatalf("step %d: Read(%d, %d, %d): % x %d, want % x %d", step, f, at, n, b, e, w, we)
			}
		}
		for f := range frames {
			b, e := m.Read(f, 0, size)
			if w, we := o.read(f, 0, size); e != we || !bytes.Equal(b, w) {
				t.Fatalf("at the end: frame %d: % x %d, want % x %d", f, b, e, w, we)
			}
		}
	}
}
