package registry

import (
	"bytes"
	"headland/api"
	"headland/disk"
	"headland/journal"
	"math"
	"slices"
	"strconv"
	"testing"
)

const (
	size = api.PageSize
	all  = math.MaxUint64 // keeps each loose sector that can be kept
)

// known is what is known of the memory.
type known struct {
	bad    []int // rising
	states [api.MaxSects]int
}

// same tells whether both are the same.
func (k known) same(o known) bool {
	return k.states == o.states && slices.Equal(k.bad, o.bad)
}

// call is an AddBad of frames, or, if there is a state, a SetState.
type call struct {
	frames []int
	state  *[2]int
}

// bad is an AddBad.
func bad(frames ...int) call { return call{frames: frames} }

// state is a SetState.
func state(sect, state int) call { return call{state: &[2]int{sect, state}} }

// name is the call as text.
func (c call) name() string {
	if c.state != nil {
		return "SetState(" + strconv.Itoa(c.state[0]) + ", " + strconv.Itoa(c.state[1]) + ")"
	}
	s := "AddBad("
	for _, f := range c.frames {
		s += strconv.Itoa(f) + " "
	}
	return s + ")"
}

// on does the call.
func (c call) on(r *Registry) api.Errno {
	if c.state != nil {
		return r.SetState(c.state[0], c.state[1])
	}
	return r.AddBad(c.frames...)
}

// mayBe tells whether it is none that answers ErrArg.
func (c call) mayBe() bool {
	if c.state != nil {
		return c.state[0] >= 0 && c.state[0] <= 31 && c.state[1] >= 0 && c.state[1] <= 3
	}
	if len(c.frames) > 20 {
		return false
	}
	for _, f := range c.frames {
		if f < 0 || f > 1023 {
			return false
		}
	}
	return true
}

// done is what is known behind the call, if it is OK.
func (c call) done(k known) known {
	if c.state != nil {
		k.states[c.state[0]] = c.state[1]
		return k
	}
	k.bad = append(slices.Clone(k.bad), c.frames...)
	slices.Sort(k.bad)
	k.bad = slices.Compact(k.bad)
	return k
}

// marks are n bytes none of which is 0; they are other ones for each mark.
func marks(n, mark int) []byte {
	b := make([]byte, n)
	for i := range b {
		b[i] = byte(1 + (i*7+mark*31)%255)
	}
	return b
}

// span are the frames from one on, so many, each step of them.
func span(from, count, step int) []int {
	var list []int
	for i := range count {
		list = append(list, from+i*step)
	}
	return list
}

// fresh is a disk on which nothing was saved, whose sectors have other bytes than
// 0, all of them sure.
func fresh(t *testing.T, sectors int) *disk.Disk {
	t.Helper()
	d := disk.New(sectors)
	for n := range sectors {
		written(t, d, n, append(marks(size-1, n+3), byte(n)))
	}
	if e := d.Flush(); e != api.OK {
		t.Fatalf("Flush: %d", e)
	}
	return d
}

// written writes b to sector n, or fails.
func written(t *testing.T, d *disk.Disk, n int, b []byte) {
	t.Helper()
	if e := d.Write(n, b); e != api.OK {
		t.Fatalf("Write(%d, ..): %d", n, e)
	}
}

// image is all sectors of d, one behind the other.
func image(t *testing.T, d *disk.Disk) []byte {
	t.Helper()
	var b []byte
	for n := range d.Sectors() {
		s, e := d.Read(n)
		if e != api.OK {
			t.Fatalf("Read(%d): %d", n, e)
		}
		b = append(b, s...)
	}
	return b
}

// opened is what lasted on d, or fails.
func opened(t *testing.T, d *disk.Disk) *Registry {
	t.Helper()
	r, e := Open(d)
	if e != api.OK || r == nil {
		t.Fatalf("Open: %v, %d", r != nil, e)
	}
	return r
}

// told is what r tells.
func told(r *Registry) known {
	k := known{bad: r.Bad()}
	for sect := range k.states {
		k.states[sect] = r.State(sect)
	}
	return k
}

// knows fails if r does not tell just that.
func knows(t *testing.T, r *Registry, want known, what string) {
	t.Helper()
	if k := told(r); !k.same(want) {
		t.Fatalf("%s: %v, want %v", what, k, want)
	}
	for _, sect := range []int{math.MinInt, -33, -32, -1, 32, 33, 255, 256, 1 << 32, math.MaxInt} {
		if s := r.State(sect); s != api.Absent {
			t.Fatalf("%s: State(%d): %d", what, sect, s)
		}
	}
}

// opens fails if Open of d does not find just that.
func opens(t *testing.T, d *disk.Disk, want known, what string) {
	t.Helper()
	knows(t, opened(t, d), want, what)
}

// openError fails if Open does not answer that error, and nothing beside it.
func openError(t *testing.T, d *disk.Disk, want api.Errno, what string) {
	t.Helper()
	if r, e := Open(d); e != want || r != nil {
		t.Errorf("%s: Open: %v, %d, want %d", what, r != nil, e, want)
	}
}

// answers fails if the call does not answer that.
func answers(t *testing.T, r *Registry, c call, want api.Errno, what string) {
	t.Helper()
	if e := c.on(r); e != want {
		t.Fatalf("%s: %s: %d, want %d", what, c.name(), e, want)
	}
}

// isLoose fails if other sectors than these are loose.
func isLoose(t *testing.T, d *disk.Disk, what string, want ...int) {
	t.Helper()
	if l := d.Loose(); !slices.Equal(l, want) {
		t.Errorf("%s: loose %v, want %v", what, l, want)
	}
}

// noWork fails if what is done changes something on d, or is a work: the first one
// behind it would not be the one that fails.
func noWork(t *testing.T, d *disk.Disk, what string, do func()) {
	t.Helper()
	loose, was := d.Loose(), image(t, d)
	d.Fail(0, 1)
	do()
	if _, e := d.Read(0); e != api.ErrIO {
		t.Errorf("%s: the first work behind what is none: %d", what, e)
	}
	isLoose(t, d, what, loose...)
	if !bytes.Equal(image(t, d), was) {
		t.Errorf("%s: something on the disk is changed", what)
	}
}

// started is a registry on a fresh disk, behind so many changes that its journal
// has as many records, if they are no more than it holds; some frames are bad, and
// some sections are not Absent.
func started(t *testing.T, changes int) (*disk.Disk, *Registry, known) {
	t.Helper()
	d := fresh(t, api.DiskSectors)
	r, k := opened(t, d), known{}
	for n := range changes {
		c := state(n%7, 1+n/7%3)
		if n%3 == 0 {
			c = bad(500+n, 3*n, 500+n)
		}
		answers(t, r, c, api.OK, "started")
		k = c.done(k)
	}
	return d, r, k
}

// counts are numbers of changes ahead of which, and behind which, there is a
// rebase, or none.
func counts() []int { return []int{0, 1, 2, 40, 62, 63, 64, 65, 127, 128, 129} }

// P7.1: the chapter's example: AddBad(7), Crash, Open: 7.
func TestAddBadCrashOpen(t *testing.T) {
	d := disk.New(api.DiskSectors)
	answers(t, opened(t, d), bad(7), api.OK, "AddBad")
	d.Crash(0, 0)
	opens(t, d, known{bad: []int{7}}, "AddBad, Crash")
}

// P7.1: Open of a disk on which nothing was saved: no frame is bad, all sections
// are Absent, whatever stands there; nothing is written by it.
func TestOpenOfNothing(t *testing.T) {
	same := disk.New(api.DiskSectors)
	for n := range api.DiskSectors {
		written(t, same, n, bytes.Repeat([]byte{0xff}, size))
	}
	same.Flush()
	for _, d := range []*disk.Disk{disk.New(api.DiskSectors), fresh(t, api.DiskSectors), same, disk.New(96), disk.New(4096)} {
		was := image(t, d)
		for range 2 {
			opens(t, d, known{}, "nothing")
		}
		isLoose(t, d, "nothing")
		if !bytes.Equal(image(t, d), was) {
			t.Error("Open changed something")
		}
	}
}

// P7.1: Open flushes nothing, if what it reads is sure: what was loose is so still.
func TestOpenLeavesOthers(t *testing.T) {
	d, _, k := started(t, 70)
	written(t, d, api.SwapAt, marks(size, 1))
	opens(t, d, k, "loose")
	isLoose(t, d, "loose", api.SwapAt)
}

// P7.1: Open's error is the journal's: at each of the works, and of none behind
// them.
func TestOpenFails(t *testing.T) {
	for _, changes := range counts() {
		d, _, k := started(t, changes)
		for works := 0; ; works++ {
			d.Fail(works, 1)
			_, _, _, want := journal.Open(d)
			if want == api.OK {
				break
			}
			d.Fail(works, 1)
			openError(t, d, want, "a work that fails")
			opens(t, d, k, "behind one that failed")
			d.Fuse(works)
			openError(t, d, api.ErrDown, "the power goes")
			openError(t, d, api.ErrDown, "the power is gone")
			d.Crash(all, size)
			opens(t, d, k, "behind a Crash")
		}
		d.Fail(0, 0)
		opens(t, d, k, "no work that fails")
	}
}

// P7.1: Open of a disk that is too small, and of none: the journal's ErrArg.
func TestOpenOfFewSectors(t *testing.T) {
	openError(t, nil, api.ErrArg, "none")
	for _, d := range []*disk.Disk{new(disk.Disk), disk.New(-1)} {
		openError(t, d, api.ErrArg, "no sectors")
	}
	for sectors := range api.DiskSectors {
		d := fresh(t, sectors)
		if sectors <= 80 {
			openError(t, d, api.ErrArg, "no head")
		} else {
			opens(t, d, known{}, "nothing but two heads")
		}
	}
}

// P7.1: on a disk that has no room for a base the journal's ErrArg comes, when it
// is to be rebased; nothing is changed then.
func TestNoRoomForABase(t *testing.T) {
	d := fresh(t, 81)
	r, k := opened(t, d), known{}
	for n := range api.LogLen {
		answers(t, r, bad(n), api.OK, "few sectors")
		k = bad(n).done(k)
	}
	for range 3 {
		answers(t, r, bad(1000), api.ErrArg, "full")
		answers(t, r, state(5, api.Off), api.ErrArg, "full")
		answers(t, r, bad(5, 6, 7), api.OK, "full, nothing more")
		knows(t, r, k, "full")
	}
	d.Crash(all, size)
	opens(t, d, k, "full, Crash")
}

// P7.1: AddBad of one frame, each of them: it is bad, it is sure, and no other one
// is.
func TestAddBadOne(t *testing.T) {
	d := fresh(t, api.DiskSectors)
	r, k := opened(t, d), known{}
	for n := range api.MaxFrames {
		c := bad(n * 5 % api.MaxFrames)
		answers(t, r, c, api.OK, "one")
		k = c.done(k)
		knows(t, r, k, "one")
		isLoose(t, d, "one")
		d.Crash(0, 0)
		opens(t, d, k, "one, Crash")
	}
	if len(k.bad) != 1024 {
		t.Errorf("%d frames are bad", len(k.bad))
	}
	for sect := range api.MaxSects {
		answers(t, r, state(sect, api.Movable), api.OK, "all are bad")
		answers(t, r, bad(sect), api.OK, "all are bad")
		k = state(sect, api.Movable).done(k)
	}
	for n := range 200 {
		c := state(n%api.MaxSects, n/50%4)
		answers(t, r, c, api.OK, "all are bad")
		k = c.done(k)
		knows(t, r, k, "all are bad")
		opens(t, d, k, "all are bad")
	}
}

// rightFrames are lists of frames that may become bad in one call.
func rightFrames() [][]int {
	return [][]int{
		nil, {}, {0}, {1023}, {0, 1023}, {1023, 0}, {7, 7}, {5, 1000, 5}, {9, 8, 7, 8, 9},
		{254, 255, 256, 257}, {511, 512, 767, 768, 1022},
		slices.Repeat([]int{3}, 20), slices.Repeat([]int{0, 1023}, 10),
		span(0, 19, 1), span(0, 20, 1), span(1004, 20, 1), span(1023, 20, -53),
	}
}

// wrongFrames are lists of frames that may not.
func wrongFrames() [][]int {
	lists := [][]int{
		span(0, 21, 1), span(0, 22, 1), span(0, 40, 1), span(0, 256, 1), span(0, 257, 1), span(0, 276, 1), span(0, 1024, 1),
		slices.Repeat([]int{3}, 21), slices.Repeat([]int{3}, 1<<16), slices.Repeat([]int{3}, 1<<16+1), slices.Repeat([]int{-1}, 21),
	}
	for _, f := range []int{-1, -2, -1023, -1024, 1024, 1025, 2047, 2048, 1 << 16, 1<<16 + 5, 1 << 32, 1<<32 + 5, math.MinInt, math.MaxInt} {
		lists = append(lists, []int{f}, []int{f, f}, []int{5, f}, []int{f, 5}, []int{5, f, 6}, append(span(0, 19, 1), f), append([]int{f}, span(0, 20, 1)...))
	}
	return lists
}

// P7.1: AddBad of any number of frames up to twenty, with the same one more than
// once, at the ends of what may be: all are bad, at once, and that is sure.
func TestAddBadRight(t *testing.T) {
	for _, changes := range counts() {
		d, r, k := started(t, changes)
		for _, list := range rightFrames() {
			answers(t, r, bad(list...), api.OK, "right")
			k = bad(list...).done(k)
			knows(t, r, k, "right")
			isLoose(t, d, "right")
			d.Crash(0, 0)
			opens(t, d, k, "right, Crash")
		}
	}
}

// P7.1: each number of frames up to twenty that are not bad yet.
func TestAddBadEachCount(t *testing.T) {
	d := fresh(t, api.DiskSectors)
	r, k := opened(t, d), known{}
	next := 1023
	for count := range 21 {
		for range 2 {
			c := bad(span(next, count, -1)...)
			next -= count
			answers(t, r, c, api.OK, "each count")
			k = c.done(k)
			knows(t, r, k, "each count")
			opens(t, d, k, "each count")
		}
	}
}

// P7.1: ErrArg of a frame that may not be, and of more than twenty: nothing is
// changed, and no work is done, whatever the journal has.
func TestAddBadWrong(t *testing.T) {
	for _, changes := range counts() {
		d, r, k := started(t, changes)
		written(t, d, api.SwapAt, marks(size, 1))
		noWork(t, d, "wrong frames", func() {
			for _, list := range wrongFrames() {
				answers(t, r, bad(list...), api.ErrArg, "wrong frames")
			}
		})
		knows(t, r, k, "wrong frames")
		opens(t, d, k, "wrong frames")
		answers(t, r, bad(1, 2), api.OK, "behind wrong frames")
		opens(t, d, bad(1, 2).done(k), "behind wrong frames")
	}
}

// P7.1: nothing more of no frames, or if all are bad already: OK, and no work, not
// even if the power is gone, or there is to be a rebase.
func TestAllBadAlready(t *testing.T) {
	for _, changes := range counts() {
		d, r, k := started(t, changes)
		written(t, d, api.SwapAt, marks(size, 1))
		nothing := func() {
			answers(t, r, bad(), api.OK, "no frames")
			answers(t, r, bad([]int{}...), api.OK, "no frames")
			for _, f := range k.bad {
				answers(t, r, bad(f), api.OK, "bad already")
				answers(t, r, bad(f, f), api.OK, "bad already")
				answers(t, r, bad(slices.Repeat([]int{f}, 20)...), api.OK, "bad already")
				answers(t, r, bad(f, -1), api.ErrArg, "bad already, and a wrong one")
				answers(t, r, bad(slices.Repeat([]int{f}, 21)...), api.ErrArg, "bad already, too many")
			}
			answers(t, r, bad(k.bad[:min(20, len(k.bad))]...), api.OK, "bad already")
			knows(t, r, k, "bad already")
		}
		noWork(t, d, "nothing more", nothing)
		d.Fuse(0)
		d.Flush()
		nothing()
		d.Crash(0, 0)
		opens(t, d, k, "nothing more")
	}
}

// P7.1: frames of which some are bad already: the others are bad too, and all of
// them for ever.
func TestSomeBadAlready(t *testing.T) {
	for _, changes := range counts() {
		d, r, k := started(t, changes)
		for n := range 150 {
			c := bad(n, 1023-n, n/2, n+1, n)
			if n%10 == 9 {
				c = bad(span(n, 20, 1)...)
			}
			answers(t, r, c, api.OK, "some")
			k = c.done(k)
			knows(t, r, k, "some")
			opens(t, d, k, "some")
		}
	}
}

// P7.1: SetState of each section, from each state to each: it is so, it is sure,
// and no other section is changed.
func TestSetState(t *testing.T) {
	d := fresh(t, api.DiskSectors)
	r, k := opened(t, d), known{}
	for from := range 4 {
		for to := range 4 {
			for sect := range api.MaxSects {
				for _, s := range []int{from, to} {
					c := state(sect, s)
					answers(t, r, c, api.OK, "each state")
					k = c.done(k)
					knows(t, r, k, "each state")
					isLoose(t, d, "each state")
					d.Crash(0, 0)
				}
				opens(t, d, k, "each state")
			}
		}
	}
}

// P7.1: ErrArg of a section or a state that is none: nothing is changed, and no
// work is done.
func TestSetStateWrong(t *testing.T) {
	wrong := []int{-1, -2, -32, 32, 33, 63, 64, 255, 256, 257, 1 << 16, 1 << 32, 1<<32 + 1, math.MinInt, math.MaxInt}
	for _, changes := range counts() {
		d, r, k := started(t, changes)
		written(t, d, api.SwapAt, marks(size, 1))
		noWork(t, d, "wrong", func() {
			for _, sect := range wrong {
				for s := range 4 {
					answers(t, r, state(sect, s), api.ErrArg, "wrong section")
				}
				for sect := range api.MaxSects {
					answers(t, r, state(sect, wrong[0]), api.ErrArg, "wrong state")
					answers(t, r, state(sect, 4), api.ErrArg, "wrong state")
					answers(t, r, state(sect, 5), api.ErrArg, "wrong state")
				}
			}
			for _, s := range wrong {
				answers(t, r, state(0, s), api.ErrArg, "wrong state")
				answers(t, r, state(31, s), api.ErrArg, "wrong state")
				answers(t, r, state(s, s), api.ErrArg, "both wrong")
			}
		})
		knows(t, r, k, "wrong")
		opens(t, d, k, "wrong")
		answers(t, r, state(31, 3), api.OK, "behind wrong ones")
		opens(t, d, state(31, 3).done(k), "behind wrong ones")
	}
}

// P7.1: a state that is so already: OK, and no work, not even if the power is
// gone, or there is to be a rebase.
func TestStateAlready(t *testing.T) {
	for _, changes := range counts() {
		d, r, k := started(t, changes)
		written(t, d, api.SwapAt, marks(size, 1))
		nothing := func() {
			for sect, s := range k.states {
				answers(t, r, state(sect, s), api.OK, "so already")
			}
			knows(t, r, k, "so already")
		}
		noWork(t, d, "so already", nothing)
		d.Fuse(0)
		d.Flush()
		nothing()
		d.Crash(0, 0)
		opens(t, d, k, "so already")
	}
}

// P7.1: more changes than a journal holds, by AddBad, by SetState, and by both,
// with an Open now and then: all of them are sure.
func TestManyChanges(t *testing.T) {
	kinds := []func(n int) call{
		func(n int) call { return bad(n) },
		func(n int) call { return bad(n, 1023-n, 2*n) },
		func(n int) call { return state(4, 1+n%2) },
		func(n int) call { return state(n%32, 1+n/32%3) },
		func(n int) call { return []call{bad(n), state(n%32, n%4), bad(n + 500)}[n%3] },
	}
	for i, kind := range kinds {
		for _, every := range []int{1, 7, 64, 65, 1000} {
			d := fresh(t, api.DiskSectors)
			r, k := opened(t, d), known{}
			for n := range 300 {
				what := "kind " + strconv.Itoa(i) + ", change " + strconv.Itoa(n)
				answers(t, r, kind(n), api.OK, what)
				k = kind(n).done(k)
				knows(t, r, k, what)
				isLoose(t, d, what)
				if n%every == every-1 {
					d.Crash(0, 0)
					r = opened(t, d)
					knows(t, r, k, what+", Open")
				}
			}
			opens(t, d, k, "all changes")
		}
	}
}

// P7.1: the journal's sectors alone are written.
func TestOtherSectors(t *testing.T) {
	d, r, _ := started(t, 0)
	was := image(t, d)
	for n := range 500 {
		answers(t, r, bad(n), api.OK, "other sectors")
		answers(t, r, state(n%32, 1+n/32%3), api.OK, "other sectors")
	}
	if is := image(t, d); !bytes.Equal(is[api.FileAt*size:], was[api.FileAt*size:]) {
		t.Error("sectors behind the journal's are changed")
	}
}

// changed are calls that change something, whatever started did.
func changed() []call {
	return []call{bad(1000), bad(span(900, 20, 1)...), bad(1000, 500, 1000), state(31, 3), state(20, 1)}
}

// P7.1: a call that fails at each of the works, with and without a rebase ahead of
// it, as often as it says: the disk's error, never ErrFull, and nothing is changed;
// the next one is OK, and sure.
func TestCallFails(t *testing.T) {
	for _, changes := range counts() {
		for i, c := range changed() {
			for _, times := range []int{1, 2, 5} {
				for works := 0; ; works++ {
					d, r, k := started(t, changes)
					failed := 0
					for range times {
						d.Fail(works, 1)
						e := c.on(r)
						if e == api.OK {
							k = c.done(k)
							break
						}
						if e != api.ErrIO {
							t.Fatalf("%s behind %d works: %d", c.name(), works, e)
						}
						failed++
						knows(t, r, k, "a call that failed")
						answers(t, r, bad(k.bad[:min(len(k.bad), 3)]...), api.OK, "nothing more behind one that failed")
						answers(t, r, bad(-1), api.ErrArg, "a wrong one behind one that failed")
					}
					d.Fail(0, 0)
					for _, next := range []call{changed()[(i+1)%len(changed())], c} {
						answers(t, r, next, api.OK, "behind one that failed")
						k = next.done(k)
						knows(t, r, k, "behind one that failed")
						isLoose(t, d, "behind one that failed")
					}
					d.Crash(0, 0)
					opens(t, d, k, "behind one that failed, Crash")
					if failed == 0 {
						break
					}
				}
			}
		}
	}
}

// P7.1: the journal is rebased if it is full, and only then; the call's own record
// is the first one behind that.
func TestRebaseIsFirst(t *testing.T) {
	for _, changes := range []int{63, 64, 65, 127, 128, 129} {
		for _, c := range changed() {
			d, r, _ := started(t, changes)
			_, wasBase, wasRecords, _ := journal.Open(d)
			answers(t, r, c, api.OK, "rebase")
			_, base, records, e := journal.Open(d)
			if e != api.OK {
				t.Fatalf("Open: %d", e)
			}
			if len(wasRecords) < api.LogLen {
				if !bytes.Equal(base, wasBase) || len(records) != len(wasRecords)+1 {
					t.Errorf("%d changes: %d records behind %d", changes, len(records), len(wasRecords))
				}
			} else if bytes.Equal(base, wasBase) || len(records) != 1 {
				t.Errorf("%d changes: %d records behind a rebase", changes, len(records))
			}
		}
	}
}

// P7.1: the power goes at each of the works of a call: ErrDown, of this one and of
// those behind it that are to change something; nothing is changed.
func TestPowerGoesInACall(t *testing.T) {
	for _, changes := range counts() {
		for _, c := range changed() {
			for works := 0; ; works++ {
				d, r, k := started(t, changes)
				d.Fuse(works)
				if e := c.on(r); e == api.OK {
					break
				} else if e != api.ErrDown {
					t.Fatalf("%s behind %d works: %d", c.name(), works, e)
				}
				for _, next := range changed() {
					answers(t, r, next, api.ErrDown, "the power is gone")
				}
				answers(t, r, bad(), api.OK, "the power is gone")
				answers(t, r, bad(1024), api.ErrArg, "the power is gone")
				answers(t, r, state(0, 4), api.ErrArg, "the power is gone")
				answers(t, r, state(0, k.states[0]), api.OK, "the power is gone")
				knows(t, r, k, "the power is gone")
				openError(t, d, api.ErrDown, "the power is gone")
				d.Crash(0, 0)
				opens(t, d, k, "the power was gone")
			}
		}
	}
}

// foreign is a disk whose journal has that base, if there is one, and these
// records.
func foreign(t *testing.T, base []byte, records ...[]byte) *disk.Disk {
	t.Helper()
	d := fresh(t, api.DiskSectors)
	j, _, _, e := journal.Open(d)
	if base != nil && e == api.OK {
		e = j.Rebase(base)
	}
	for _, record := range records {
		if e == api.OK {
			e = j.Append(record)
		}
	}
	if e != api.OK {
		t.Fatalf("journal: %d", e)
	}
	return d
}

// sample is a base as this writes it, and what it says.
func sample(t *testing.T) ([]byte, known) {
	t.Helper()
	d, _, k := started(t, 65)
	_, base, records, e := journal.Open(d)
	if e != api.OK || len(base) == 0 || len(records) != 1 {
		t.Fatalf("journal.Open: %d bytes, %d records, %d", len(base), len(records), e)
	}
	_, _, k = started(t, 64)
	return base, k
}

// P7.1: a base that was not written by this: ErrForm, whatever records are there.
func TestForeignBase(t *testing.T) {
	right, k := sample(t)
	opens(t, foreign(t, right), k, "a right base")
	var wrong [][]byte
	for n := 1; n <= 960; n++ {
		if n != len(right) {
			wrong = append(wrong, make([]byte, n), marks(n, n), append(slices.Clone(right), marks(800, 1)...)[:n])
		}
	}
	wrong = append(wrong, []byte("base"), []byte("so far"), make([]byte, len(right)), bytes.Repeat([]byte{255}, len(right)), marks(len(right), 1))
	for _, kind := range []byte{0, badKind, stateKind, 4, 128, 255} {
		b := slices.Clone(right)
		b[0] = kind
		wrong = append(wrong, b)
	}
	for sect := range api.MaxSects {
		for _, s := range []byte{4, 5, 64, 128, 255} {
			b := slices.Clone(right)
			b[statesAt+sect] = s
			wrong = append(wrong, b)
		}
	}
	for _, b := range wrong {
		openError(t, foreign(t, b), api.ErrForm, "base of "+strconv.Itoa(len(b))+" bytes")
	}
	openError(t, foreign(t, []byte("base"), []byte{badKind, 7, 0}), api.ErrForm, "a wrong base, a right record")
}

// wrongRecords are records that this never writes.
func wrongRecords() [][]byte {
	list := [][]byte{
		nil, {}, []byte("r"), []byte("one"), make([]byte, 50), bytes.Repeat([]byte{255}, 50),
		{badKind}, {badKind, 7}, {badKind, 7, 0, 8}, {badKind, 0, 4}, {badKind, 7, 0, 0, 4}, {badKind, 0, 4, 7, 0}, {badKind, 255, 255}, {badKind, 0, 128},
		append([]byte{badKind}, make([]byte, 42)...), append([]byte{badKind}, make([]byte, 48)...), append([]byte{badKind}, make([]byte, 39)...),
		{stateKind}, {stateKind, 3}, {stateKind, 3, 1, 0}, {stateKind, 3, 1, 1, 1}, {stateKind, 32, 1}, {stateKind, 255, 1}, {stateKind, 3, 4}, {stateKind, 3, 255}, {stateKind, 128, 128},
	}
	for kind := range 256 {
		if kind == badKind || kind == stateKind {
			continue
		}
		list = append(list, []byte{byte(kind)}, []byte{byte(kind), 7, 0}, []byte{byte(kind), 3, 1})
	}
	return list
}

// P7.1: a record that was not written by this, ahead of right ones or behind them:
// ErrForm.
func TestForeignRecords(t *testing.T) {
	base, k := sample(t)
	right := [][]byte{{badKind, 7, 0}, {stateKind, 3, 1}, {badKind, 255, 3, 8, 0}}
	k = bad(7, 1023, 8).done(state(3, 1).done(k))
	opens(t, foreign(t, base, right...), k, "right records")
	opens(t, foreign(t, nil, right...), known{bad: []int{7, 8, 1023}, states: [api.MaxSects]int{3: 1}}, "right records, no base")
	for i, record := range wrongRecords() {
		what := "record " + strconv.Itoa(i)
		openError(t, foreign(t, nil, record), api.ErrForm, what)
		openError(t, foreign(t, base, record), api.ErrForm, what+", a base")
		openError(t, foreign(t, base, append(slices.Clone(right), record)...), api.ErrForm, what+", behind right ones")
		openError(t, foreign(t, base, append([][]byte{record}, right...)...), api.ErrForm, what+", ahead of right ones")
	}
}

// R1: Open answers whatever bytes a base and records have, and never another error
// than ErrForm; what it takes, it tells as ever.
func TestAnyBytes(t *testing.T) {
	next := numbers(7)
	for range 1000 {
		base, record := marks(next(961), next(255)), marks(next(51), next(255))
		if next(2) == 0 {
			base, _ = sample(t)
			base[next(len(base))] ^= 1 << next(8)
		}
		if len(record) > 0 && next(2) == 0 {
			record[0] = byte(next(5))
			for i := range record[1:] {
				record[1+i] = byte(next(5))
			}
		}
		d := foreign(t, base, record)
		r, e := Open(d)
		if e != api.OK && (e != api.ErrForm || r != nil) {
			t.Fatalf("Open: %v, %d", r != nil, e)
		}
		if e == api.OK {
			k := told(r)
			answers(t, r, bad(3), api.OK, "any bytes")
			opens(t, d, bad(3).done(k), "any bytes")
		}
	}
}

// P7.1: a nil Registry: ErrArg, nothing. One that Open did not make has no journal.
func TestNilRegistry(t *testing.T) {
	for _, r := range []*Registry{nil, new(Registry)} {
		for range 2 {
			for _, list := range append(wrongFrames(), []int{0}, []int{5, 1000}, span(0, 20, 1)) {
				answers(t, r, bad(list...), api.ErrArg, "no registry")
			}
			for sect := -1; sect <= 32; sect++ {
				for s := 1; s <= 4; s++ {
					answers(t, r, state(sect, s), api.ErrArg, "no registry")
				}
			}
			knows(t, r, known{}, "no registry")
		}
	}
	var r *Registry
	answers(t, r, bad(), api.ErrArg, "no registry, no frames")
	answers(t, r, state(0, api.Absent), api.ErrArg, "no registry, no change")
}

// R4: what is handed in is not changed, its spare room neither, and not kept.
func TestNothingHandedInIsKept(t *testing.T) {
	for _, changes := range counts() {
		d, r, k := started(t, changes)
		whole := []int{1001, 1000, 500, 1001, 1000, 500, 1002, 1003, 77}
		was := slices.Clone(whole)
		for _, n := range []int{0, 1, 4, 7} {
			d.Fail(1, 1)
			r.AddBad(whole[:n]...)
			d.Fail(0, 0)
			answers(t, r, bad(whole[:n]...), api.OK, "spare room")
			k = bad(was[:n]...).done(k)
		}
		r.AddBad(append(whole[:8], -1)...)
		whole[8] = 77
		if !slices.Equal(whole, was) {
			t.Errorf("what was handed in is changed: %v", whole)
		}
		clear(whole)
		knows(t, r, k, "what was handed in is changed")
		opens(t, d, k, "what was handed in is changed")
	}
}

// R4: what Bad answers is memory of its own: it may be changed, and may grow, and
// none of that is seen anywhere else.
func TestAnswersAreTheirOwn(t *testing.T) {
	d, r, k := started(t, 70)
	one, two := r.Bad(), r.Bad()
	_ = append(one, 1, 2, 3)
	clear(one[:cap(one)])
	if !slices.Equal(two, k.bad) {
		t.Errorf("two answers share memory: %v", two)
	}
	knows(t, r, k, "a change of what is answered")
	answers(t, r, bad(1, 1021), api.OK, "later")
	if !slices.Equal(two, k.bad) {
		t.Errorf("an answer is changed later: %v", two)
	}
	opens(t, d, bad(1, 1021).done(k), "later")
}

// R5: two registries on two disks have nothing of each other.
func TestTwoRegistries(t *testing.T) {
	d, r, k := started(t, 3)
	o, s, l := started(t, 64)
	o.Fail(4, 1)
	answers(t, s, bad(900), api.ErrIO, "the other one")
	answers(t, r, bad(901), api.OK, "one")
	answers(t, r, state(9, 1), api.OK, "one")
	answers(t, s, state(10, 2), api.OK, "the other one")
	knows(t, r, state(9, 1).done(bad(901).done(k)), "one")
	knows(t, s, state(10, 2).done(l), "the other one")
	opens(t, d, state(9, 1).done(bad(901).done(k)), "one")
	opens(t, o, state(10, 2).done(l), "the other one")
}

// model is what is known of a registry by what its calls answered.
type model struct {
	has   known   // what it tells
	maybe []known // what there may be in its place behind a Crash
}

// refused is the error that is due whatever the disk does; else OK.
func refused(c call) api.Errno {
	if !c.mayBe() {
		return api.ErrArg
	}
	return api.OK
}

// idle tells whether the call has nothing to write.
func (m *model) idle(c call) bool {
	return !c.mayBe() || c.done(m.has).same(m.has)
}

// does does the call, fails if it answers what it may not, and takes the answer.
func (m *model) does(t *testing.T, r *Registry, c call, what string) api.Errno {
	t.Helper()
	e := c.on(r)
	switch {
	case m.idle(c):
		if e != refused(c) {
			t.Fatalf("%s: %s: %d, want %d", what, c.name(), e, refused(c))
		}
	case e == api.OK:
		*m = model{has: c.done(m.has)}
	case e == api.ErrIO || e == api.ErrDown:
		m.maybe = append(m.maybe, c.done(m.has))
	default:
		t.Fatalf("%s: %s: %d", what, c.name(), e)
	}
	knows(t, r, m.has, what)
	return e
}

// opened opens d, fails if there is something that the promise does not allow, and
// takes what is there. Behind an Open without a Crash it may be that this is not
// sure, if the disk fails: then it may still be as it was, till something is
// written. The error is the disk's; else nothing is taken.
func (m *model) opened(t *testing.T, d *disk.Disk, what string) (*Registry, api.Errno) {
	t.Helper()
	r, e := Open(d)
	if e == api.ErrIO || e == api.ErrDown {
		return nil, e
	}
	if e != api.OK {
		t.Fatalf("%s: Open: %d", what, e)
	}
	found := told(r)
	if !m.has.same(found) && !slices.ContainsFunc(m.maybe, found.same) {
		t.Fatalf("%s: %v, want %v, or one of %v", what, found, m.has, m.maybe)
	}
	if len(d.Loose()) == 0 {
		m.maybe = nil
	} else {
		m.maybe = append(m.maybe, m.has)
	}
	m.has = found
	return r, api.OK
}

// crashed opens d behind a Crash.
func (m *model) crashed(t *testing.T, d *disk.Disk, what string) *Registry {
	t.Helper()
	r, e := m.opened(t, d, what)
	if e != api.OK {
		t.Fatalf("%s: Open: %d", what, e)
	}
	return r
}

// scenes are calls behind each other, with each kind behind each kind.
func scenes() [][]call {
	return [][]call{
		{bad(1000), bad(1001, 1002), bad(1003)},
		{bad(span(900, 20, 1)...), bad(950), bad(span(900, 20, 3)...)},
		{state(30, 1), state(30, 2), state(31, 3), state(30, 0)},
		{bad(1000), state(31, 1), bad(1000, 1001), state(31, 1), state(31, 2)},
		{state(31, 1), bad(1000, 1001, 1002, 1000), bad(), bad(-1), state(9, 9), bad(1003)},
	}
}

// keeps are which loose sectors a Crash keeps: each choice of them, if they are
// few, else of the first and of the last ones.
func keeps(loose int) []uint64 {
	const few = 4
	var list []uint64
	for keep := range uint64(1) << min(loose, few) {
		list = append(list, keep)
		if loose > few {
			list = append(list, ^keep, keep<<(loose-few))
		}
	}
	return list
}

// tears are how many bytes of the last sector are new.
func tears() []int { return []int{0, 4, 9, 30, 60, 64} }

// scene is a registry behind so many changes, on which the calls are done of which
// the first ones come ahead of the trouble that begins behind so many works: so
// many failures, or the power's end, if failed is 0; also whether that began at
// all.
func scene(t *testing.T, calls []call, changes, works, failed int) (*disk.Disk, model, bool) {
	t.Helper()
	d, r, k := started(t, changes)
	m := model{has: k}
	if failed > 0 {
		d.Fail(works, failed)
	} else {
		d.Fuse(works)
	}
	trouble := false
	for _, c := range calls {
		switch m.does(t, r, c, "scene") {
		case api.ErrDown:
			return d, m, true
		case api.ErrIO:
			trouble = true
		}
	}
	return d, m, trouble
}

// each goes through each Crash behind each work of each scene at which the trouble
// begins.
func each(t *testing.T, failed int) {
	t.Helper()
	for i, calls := range scenes() {
		for _, changes := range []int{0, 62, 63, 64, 127} {
			for works := 0; ; works++ {
				d, _, trouble := scene(t, calls, changes, works, failed)
				if !trouble {
					break
				}
				for _, keep := range keeps(len(d.Loose())) {
					for _, torn := range tears() {
						d, m, _ := scene(t, calls, changes, works, failed)
						d.Crash(keep, torn)
						goesOn(t, d, m, "scene "+strconv.Itoa(i)+", "+strconv.Itoa(changes)+" changes, "+strconv.Itoa(works)+" works, keep "+strconv.FormatUint(keep, 2)+", torn "+strconv.Itoa(torn))
					}
				}
			}
		}
	}
}

// goesOn fails if what is there behind a Crash may not be, if it is not there any
// more behind a further one, or if it is not there with what is called then.
func goesOn(t *testing.T, d *disk.Disk, m model, what string) {
	t.Helper()
	m.crashed(t, d, what)
	d.Crash(all, size)
	r := m.crashed(t, d, what+", Crash")
	for _, c := range []call{bad(3, 1023), state(29, 3), bad(2)} {
		if e := m.does(t, r, c, what+", and more"); e != api.OK {
			t.Fatalf("%s, then %s: %d", what, c.name(), e)
		}
		d.Crash(0, 0)
		m.crashed(t, d, what+", and more")
	}
}

// P7.2: the power goes at each of the works, whatever the Crash keeps: all that was
// sure is there, with what the call asked that the power went in, or without.
func TestPowerGoes(t *testing.T) { each(t, 0) }

// P7.2: each of the works fails, and some behind it, the calls behind these go on,
// and then there is a Crash: with what one of those asked that failed since one was
// written, or without.
func TestFailsThenCrash(t *testing.T) {
	for _, failed := range []int{1, 3} {
		each(t, failed)
	}
}

// P7.2: both come: with what the call asked that the power went in, and without;
// of frames that became bad in one call all, or none.
func TestWithAndWithout(t *testing.T) {
	for _, changes := range counts() {
		for _, c := range changed() {
			with := 0
			for works := 0; ; works++ {
				d, r, k := started(t, changes)
				d.Fuse(works)
				if c.on(r) == api.OK {
					break
				}
				d.Crash(1, size)
				found := told(opened(t, d))
				if found.same(c.done(k)) {
					with++
				} else if !found.same(k) {
					t.Errorf("%s: %v, want %v with it or without", c.name(), found, k)
				}
			}
			if with != 1 {
				t.Errorf("%s behind %d changes: it is there behind %d of the works", c.name(), changes, with)
			}
		}
	}
}

// P7.2: a rebase that was cut off is done again, and is cut off again, at each of
// the works of both; then there is a Crash.
func TestCutOffTwice(t *testing.T) {
	for one := range 8 {
		for two := range 8 {
			for keep := range uint64(16) {
				for _, torn := range []int{5, size} {
					d, r, k := started(t, api.LogLen)
					m := model{has: k}
					d.Fail(one, 1)
					m.does(t, r, bad(1000, 1001), "cut off")
					d.Fuse(two)
					m.does(t, r, state(31, 1), "cut off twice")
					d.Crash(keep, torn)
					goesOn(t, d, m, "cut off twice")
				}
			}
		}
	}
}

// left is a registry behind so many changes, of which one call failed behind so
// many works, and what is known of it; also whether that call had so many.
func left(t *testing.T, c call, changes, works int) (*disk.Disk, model, bool) {
	t.Helper()
	d, r, k := started(t, changes)
	m := model{has: k}
	d.Fail(works, 1)
	e := m.does(t, r, c, "left")
	d.Fail(0, 0)
	return d, m, e == api.ErrIO
}

// unsettled is what lasted on d, opened without a Crash, on a disk that does each
// of the Open's Reads and nothing more: what was loose is so still.
func unsettled(t *testing.T, d *disk.Disk, m *model) *Registry {
	t.Helper()
	loose := d.Loose()
	for works := range api.DiskSectors {
		d.Fail(works, math.MaxInt)
		r, e := m.opened(t, d, "a disk that fails")
		d.Fail(0, 0)
		if e == api.OK {
			isLoose(t, d, "a disk that fails", loose...)
			return r
		}
	}
	t.Fatal("Open never ends")
	return nil
}

// P7.2: a call fails at each of the works, with and without a rebase, and there is
// an Open without a Crash: what that tells is sure, whatever a Crash keeps.
func TestOpenMakesSure(t *testing.T) {
	for _, changes := range counts() {
		for _, c := range changed() {
			for works := 0; ; works++ {
				_, _, failed := left(t, c, changes, works)
				if !failed {
					break
				}
				for _, keep := range []uint64{0, 1, 2, all} {
					d, m, _ := left(t, c, changes, works)
					m.crashed(t, d, "without a Crash")
					isLoose(t, d, "Open")
					d.Crash(keep, 30)
					goesOn(t, d, m, "Open, Crash")
				}
			}
		}
	}
}

// P7.2: a call fails, there is an Open without a Crash, whose findings are sure or
// not, a second call fails, or the power goes in it, at each of the works, and then
// there is a Crash, whatever it keeps.
func TestOpenBetweenFailures(t *testing.T) {
	for _, changes := range []int{0, 62, 63, 64, 65} {
		for one := 0; ; one++ {
			_, _, failed := left(t, bad(1000, 1001), changes, one)
			if !failed {
				break
			}
			for i, c := range slices.Repeat([]call{bad(1002), state(31, 1)}, 4) {
				settled, power := i/2%2 == 0, i/4 == 0
				try := func(two int) (*disk.Disk, model, api.Errno) {
					d, m, _ := left(t, bad(1000, 1001), changes, one)
					r := (*Registry)(nil)
					if settled {
						r = m.crashed(t, d, "without a Crash")
					} else {
						r = unsettled(t, d, &m)
					}
					if power {
						d.Fuse(two)
					} else {
						d.Fail(two, 1)
					}
					return d, m, m.does(t, r, c, "behind an Open")
				}
				for two := 0; ; two++ {
					d, _, e := try(two)
					for keep := range uint64(1) << min(len(d.Loose()), 3) {
						d, m, _ := try(two)
						d.Crash(keep, size)
						goesOn(t, d, m, "behind two that failed")
					}
					if e == api.OK {
						break
					}
				}
			}
		}
	}
}

// numbers answers a function that answers numbers below what it is given, the same
// ones for the same seed.
func numbers(seed uint64) func(n int) int {
	return func(n int) int {
		seed = seed*6364136223846793005 + 1442695040888963407
		return int((seed >> 33) % uint64(n))
	}
}

// someCall is a call, mostly one that may be.
func someCall(next func(n int) int) call {
	if next(2) == 0 {
		return state(next(34)-1, next(21)/4)
	}
	list := make([]int, []int{next(4), next(22)}[next(2)])
	for i := range list {
		list[i] = next(api.MaxFrames)
		if next(80) == 0 {
			list[i] = next(3)*api.MaxFrames - api.MaxFrames - next(2)
		}
	}
	return bad(list...)
}

// P7.1, P7.2: many calls in a row, right and wrong ones, with failures and crashes,
// held against what the calls answered.
func TestManyCalls(t *testing.T) {
	next := numbers(7)
	for range 20 {
		d := fresh(t, api.DiskSectors)
		r, m := opened(t, d), model{}
		for step := range 1500 {
			what := "step " + strconv.Itoa(step)
			switch kind := next(60); {
			case kind < 45:
				m.does(t, r, someCall(next), what)
			case kind < 48:
				if other, e := m.opened(t, d, what); e == api.OK {
					r = other
				}
			case kind < 54:
				d.Fail(next(9), next(4))
			case kind < 56:
				d.Fuse(next(12))
			default:
				d.Crash(uint64(next(64)), next(size+1))
				r = m.crashed(t, d, what)
			}
		}
	}
}
