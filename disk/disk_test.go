package disk

import (
	"bytes"
	"headland/api"
	"math"
	"slices"
	"testing"
)

const (
	size = api.PageSize
	most = 4096
)

// all keeps each loose sector that can be kept.
const all = math.MaxUint64

// marks are PageSize bytes: those that stand near each other differ, none is 0,
// and each one is another for another mark from 0 to 2.
func marks(mark int) []byte {
	b := make([]byte, size)
	for i := range b {
		b[i] = byte(1 + mark*size + i)
	}
	return b
}

// numbered are PageSize bytes that are other ones for each number and mark.
func numbered(n, mark int) []byte {
	b := make([]byte, size)
	for i := range b {
		b[i] = byte(n*(2*i+1) + mark*(i+3) + n>>8*(i+7))
	}
	return b
}

// written writes b to sector n, or fails.
func written(t *testing.T, d *Disk, n int, b []byte) {
	t.Helper()
	if e := d.Write(n, b); e != api.OK {
		t.Fatalf("Write(%d, ..): %d", n, e)
	}
}

// flushed flushes d, or fails.
func flushed(t *testing.T, d *Disk) {
	t.Helper()
	if e := d.Flush(); e != api.OK {
		t.Fatalf("Flush: %d", e)
	}
}

// holds fails if sector n does not answer b.
func holds(t *testing.T, d *Disk, n int, b []byte, what string) {
	t.Helper()
	if got, e := d.Read(n); e != api.OK || !bytes.Equal(got, b) {
		t.Errorf("%s: Read(%d): % x %d, want % x", what, n, got, e, b)
	}
}

// looseAre fails if Loose does not answer these.
func looseAre(t *testing.T, d *Disk, want []int, what string) {
	t.Helper()
	if got := d.Loose(); !slices.Equal(got, want) {
		t.Errorf("%s: Loose: %v, want %v", what, got, want)
	}
}

// filled is a disk whose sector n has the sure bytes numbered(n, 1).
func filled(t *testing.T, sectors int) *Disk {
	t.Helper()
	d := New(sectors)
	for n := range sectors {
		written(t, d, n, numbered(n, 1))
	}
	flushed(t, d)
	return d
}

// asFilled fails if one of d's sectors is not as filled left it.
func asFilled(t *testing.T, d *Disk, what string) {
	t.Helper()
	for n := range d.Sectors() {
		holds(t, d, n, numbered(n, 1), what)
	}
}

// notThere are numbers that no sector of so many has.
func notThere(sectors int) []int {
	return []int{-1, -2, sectors, sectors + 1, -sectors - 1, most, most + 1, -most, 1 << 32, -1 << 32, 1<<32 + 1,
		math.MinInt, math.MinInt + 1, math.MaxInt, math.MaxInt - 1, math.MinInt32, math.MaxInt32}
}

// wrongSizes are lengths that no sector has.
func wrongSizes() []int {
	return []int{0, 1, 2, size/2 - 1, size / 2, size - 2, size - 1, size + 1, size + 2, 2*size - 1, 2 * size, 256 + size, 1 << 16, 1<<16 + size}
}

// works are the kinds of work, of sector 1. A Read that answers bytes beside an
// error answers a number that no error has.
func works() []func(d *Disk) api.Errno {
	return []func(d *Disk) api.Errno{
		func(d *Disk) api.Errno {
			b, e := d.Read(1)
			if e != api.OK && len(b) != 0 {
				return -1
			}
			return e
		},
		func(d *Disk) api.Errno { return d.Write(1, marks(2)) },
		func(d *Disk) api.Errno { return d.Flush() },
	}
}

// answers fails if the next works of d, of one kind or of the kinds in turn (if
// kind is below 0), do not answer these errors.
func answers(t *testing.T, d *Disk, kind int, want []api.Errno, what string) {
	t.Helper()
	for i, w := range want {
		k := kind
		if kind < 0 {
			k = i % len(works())
		}
		if e := works()[k](d); e != w {
			t.Fatalf("%s: work %d, of kind %d: %d, want %d", what, i, k, e, w)
		}
	}
}

// errs are runs of errors: counts of OK, of ErrIO, of OK again.
func errs(counts ...int) []api.Errno {
	var list []api.Errno
	for i, n := range counts {
		e := api.OK
		if i%2 == 1 {
			e = api.ErrIO
		}
		list = append(list, slices.Repeat([]api.Errno{e}, n)...)
	}
	return list
}

// downAt are the errors in which the power goes behind n of them.
func downAt(list []api.Errno, n int) []api.Errno {
	list = slices.Clone(list)
	for i := n; i < len(list); i++ {
		list[i] = api.ErrDown
	}
	return list
}

// P3.1: so many sectors, from 0 to 4096; beyond, the ends.
func TestNewHasSoMany(t *testing.T) {
	for _, c := range []struct{ sectors, want int }{
		{0, 0}, {1, 1}, {2, 2}, {api.DiskSectors, api.DiskSectors}, {1000, 1000}, {most - 1, most - 1}, {most, most},
		{-1, 0}, {-most, 0}, {math.MinInt, 0}, {math.MinInt + 1, 0}, {math.MinInt32, 0}, {-1 << 32, 0},
		{most + 1, most}, {1 << 20, most}, {1 << 32, most}, {1 << 40, most}, {math.MaxInt, most}, {math.MaxInt - 1, most},
	} {
		d := New(c.sectors)
		if d == nil || d.Sectors() != c.want {
			t.Fatalf("New(%d).Sectors(): %d, want %d", c.sectors, d.Sectors(), c.want)
		}
		if c.want > 0 {
			written(t, d, c.want-1, marks(0))
			holds(t, d, c.want-1, marks(0), "the last sector")
		}
		if e := d.Write(c.want, marks(0)); e != api.ErrArg {
			t.Errorf("New(%d): Write(%d, ..): %d", c.sectors, c.want, e)
		}
		if b, e := d.Read(c.want); e != api.ErrArg || len(b) != 0 {
			t.Errorf("New(%d): Read(%d): % x %d", c.sectors, c.want, b, e)
		}
		if d.Sectors() != c.want {
			t.Errorf("New(%d): %d behind the calls", c.sectors, d.Sectors())
		}
	}
}

// P3.1: all bytes are 0 at first, sure ones, and there is no trouble.
func TestNewIsZero(t *testing.T) {
	for _, sectors := range []int{1, 3, api.DiskSectors, most, most + 1} {
		d := New(sectors)
		looseAre(t, d, nil, "New")
		for range 2 {
			for n := range d.Sectors() {
				holds(t, d, n, make([]byte, size), "New")
			}
			d.Crash(all, size)
		}
		flushed(t, d)
	}
}

// P3.1: each New is another disk.
func TestNewIsAnother(t *testing.T) {
	d, other := New(2), New(2)
	written(t, d, 0, marks(0))
	flushed(t, d)
	written(t, d, 1, marks(1))
	d.Fail(0, 9)
	looseAre(t, other, nil, "another disk")
	for _, o := range []*Disk{other, New(2)} {
		holds(t, o, 0, make([]byte, size), "another disk")
		holds(t, o, 1, make([]byte, size), "another disk")
	}
	d.Fuse(0)
	d.Flush()
	flushed(t, other)
	flushed(t, New(2))
}

// P3.1, P3.2: a nil *Disk: ErrArg, nothing, 0, in each call, behind each other.
func TestNilDisk(t *testing.T) {
	var d *Disk
	for range 2 {
		if d.Sectors() != 0 || len(d.Loose()) != 0 || d.Flush() != api.ErrArg {
			t.Errorf("%d %v %d", d.Sectors(), d.Loose(), d.Flush())
		}
		noSector(t, d, append(notThere(0), 0, 1))
		for _, n := range append(notThere(0), 0, 1) {
			d.Fail(n, n)
			d.Fail(0, n)
			d.Fuse(n)
			d.Crash(uint64(n), n)
			d.Crash(all, n)
			if e := d.Flush(); e != api.ErrArg {
				t.Errorf("Flush behind Fail, Fuse, Crash of %d: %d", n, e)
			}
		}
	}
}

// noSector fails if a call finds one of these sectors.
func noSector(t *testing.T, d *Disk, list []int) {
	t.Helper()
	for _, n := range list {
		if b, e := d.Read(n); e != api.ErrArg || len(b) != 0 {
			t.Errorf("Read(%d): % x %d", n, b, e)
		}
		for _, k := range append(wrongSizes(), size) {
			if e := d.Write(n, make([]byte, k)); e != api.ErrArg {
				t.Errorf("Write(%d, %d bytes): %d", n, k, e)
			}
		}
		if e := d.Write(n, nil); e != api.ErrArg {
			t.Errorf("Write(%d, nil): %d", n, e)
		}
	}
}

// P3.1: a disk without sectors has nothing to read, and is flushed all the same.
func TestNoSectors(t *testing.T) {
	for _, d := range []*Disk{New(0), New(-1), New(math.MinInt), new(Disk)} {
		noSector(t, d, append(notThere(0), 0, 1))
		d.Crash(all, size)
		flushed(t, d)
		looseAre(t, d, nil, "no sectors")
		d.Fail(1, 1)
		if d.Flush() != api.OK || d.Flush() != api.ErrIO || d.Flush() != api.OK {
			t.Error("Fail of a disk without sectors")
		}
		d.Fuse(1)
		if d.Flush() != api.OK || d.Flush() != api.ErrDown || d.Sectors() != 0 {
			t.Error("Fuse of a disk without sectors")
		}
		noSector(t, d, append(notThere(0), 0, 1))
	}
}

// P3.1: ErrArg, if there is no such sector: nothing is changed.
func TestNoSuchSector(t *testing.T) {
	for _, sectors := range []int{1, 3, api.DiskSectors, most} {
		d := filled(t, sectors)
		noSector(t, d, slices.DeleteFunc(notThere(sectors), func(n int) bool { return n >= 0 && n < sectors }))
		if d.Sectors() != sectors {
			t.Errorf("%d sectors: %d behind the calls", sectors, d.Sectors())
		}
		looseAre(t, d, nil, "no such sector")
		asFilled(t, d, "no such sector")
	}
}

// P3.1: ErrArg, if b has not PageSize bytes, of whatever sector: nothing is
// changed, sure or loose.
func TestWrongSize(t *testing.T) {
	d := filled(t, 3)
	written(t, d, 2, numbered(2, 1))
	for _, k := range wrongSizes() {
		for n := range 3 {
			if e := d.Write(n, make([]byte, k)); e != api.ErrArg {
				t.Errorf("Write(%d, %d bytes): %d", n, k, e)
			}
		}
	}
	if e := d.Write(1, nil); e != api.ErrArg {
		t.Errorf("Write(1, nil): %d", e)
	}
	if e := d.Write(1, make([]byte, 0, 2*size)); e != api.ErrArg {
		t.Errorf("Write of no bytes with room behind them: %d", e)
	}
	looseAre(t, d, []int{2}, "a wrong size")
	asFilled(t, d, "a wrong size")
	d.Crash(all, size)
	asFilled(t, d, "a wrong size, and a Crash")
}

// P3.1: a sector's bytes as they were written last, loose or sure.
func TestReadIsWrittenLast(t *testing.T) {
	d := New(3)
	for mark := range 3 {
		written(t, d, 1, marks(mark))
		holds(t, d, 1, marks(mark), "loose")
		written(t, d, 1, marks(mark))
		holds(t, d, 1, marks(mark), "loose again")
		if mark != 1 {
			flushed(t, d)
		}
		holds(t, d, 1, marks(mark), "flushed or not")
	}
	holds(t, d, 0, make([]byte, size), "another sector")
	holds(t, d, 2, make([]byte, size), "another sector")
	written(t, d, 1, make([]byte, size))
	holds(t, d, 1, make([]byte, size), "0s that are loose above others that are sure")
}

// P3.1: each sector, the first and the last of 4096 too, has bytes of its own.
func TestEachSectorItsOwn(t *testing.T) {
	d := New(most)
	for n := range most {
		written(t, d, n, numbered(n, 2))
	}
	for range 2 {
		for n := range most {
			holds(t, d, n, numbered(n, 2), "many sectors")
		}
		flushed(t, d)
	}
}

// P3.1, P3.2: loose are those that were written since the last Flush, rising,
// each one once; a Write of the same bytes makes it loose as well.
func TestLoose(t *testing.T) {
	d := filled(t, 9)
	looseAre(t, d, nil, "flushed")
	var want []int
	for _, n := range []int{7, 3, 8, 0, 3, 5, 7, 7, 1} {
		written(t, d, n, numbered(n, 1))
		if !slices.Contains(want, n) {
			want = append(want, n)
		}
		slices.Sort(want)
		looseAre(t, d, want, "written")
	}
	d.Read(2)
	d.Write(9, marks(0))
	d.Write(-1, marks(0))
	d.Write(4, nil)
	looseAre(t, d, want, "reads, and refused writes")
	flushed(t, d)
	looseAre(t, d, nil, "flushed again")
	written(t, d, 6, marks(0))
	looseAre(t, d, []int{6}, "written behind a Flush")
}

// P3.1: all sectors may be loose; they are told rising, however they were
// written.
func TestLooseOfMany(t *testing.T) {
	d := New(most)
	var want []int
	for i := range most {
		written(t, d, i*1237%most, marks(0))
		want = append(want, i)
	}
	looseAre(t, d, want, "all of them")
}

// P3.1: behind a Flush all are sure: a Crash changes none of them, whatever it
// keeps.
func TestFlushIsSure(t *testing.T) {
	for _, keep := range []uint64{0, 1, 5, all} {
		for _, torn := range []int{math.MinInt, 0, 10, size, math.MaxInt} {
			d := New(4)
			for n := range 4 {
				written(t, d, n, marks(0))
				written(t, d, n, numbered(n, 1))
			}
			flushed(t, d)
			d.Crash(keep, torn)
			asFilled(t, d, "Flush, Crash")
			looseAre(t, d, nil, "Flush, Crash")
			d.Crash(keep, torn)
			asFilled(t, d, "Flush, Crash, Crash")
		}
	}
}

// P3.2: the chapter's example: Write, Crash(0, 64): as ahead.
func TestCrashExample(t *testing.T) {
	d := filled(t, 2)
	written(t, d, 1, marks(0))
	d.Crash(0, 64)
	asFilled(t, d, "Write, Crash(0, 64)")
	looseAre(t, d, nil, "Write, Crash(0, 64)")
}

// P3.2: bit i of keep is the i-th loose sector, not sector i; of the last one
// that is kept, and of no other, torn bytes alone are new; the others are as
// they were sure ahead.
func TestCrashKeeps(t *testing.T) {
	sectors := []int{2, 3, 5, 8}
	for keep := range uint64(32) {
		for _, torn := range []int{math.MinInt, -size, -1, 0, 1, 10, size - 1, size, size + 1, 1 << 32, math.MaxInt} {
			d := filled(t, 10)
			for _, i := range []int{2, 0, 3, 1} {
				written(t, d, sectors[i], marks(0))
				written(t, d, sectors[i], marks(1))
			}
			d.Crash(keep, torn)
			looseAre(t, d, nil, "Crash")
			last := -1
			for i, n := range sectors {
				if keep>>i&1 == 1 {
					last = n
				}
			}
			for n := range 10 {
				want, i := numbered(n, 1), slices.Index(sectors, n)
				switch {
				case n == last:
					copy(want, marks(1)[:max(0, min(torn, size))])
				case i >= 0 && keep>>i&1 == 1:
					want = marks(1)
				}
				holds(t, d, n, want, "Crash")
				d.Crash(all, size)
				holds(t, d, n, want, "Crash, Crash")
			}
		}
	}
}

// P3.2: each number of torn bytes: these come from what was written, the others
// are as they were sure ahead, and the sum of both lasts.
func TestCrashTearsAtEachByte(t *testing.T) {
	for torn := -3; torn <= size+3; torn++ {
		d := New(2)
		written(t, d, 0, marks(0))
		flushed(t, d)
		written(t, d, 0, marks(1))
		written(t, d, 0, marks(2))
		written(t, d, 1, marks(2))
		d.Crash(1, torn)
		want := marks(0)
		copy(want, marks(2)[:max(0, min(torn, size))])
		holds(t, d, 0, want, "torn")
		holds(t, d, 1, make([]byte, size), "not kept")
		flushed(t, d)
		d.Crash(all, size)
		holds(t, d, 0, want, "torn, flushed, another Crash")
	}
}

// P3.2: bits of keep beyond the loose sectors name none: the last one that is
// kept is the last that is there.
func TestCrashKeepsBeyondLoose(t *testing.T) {
	d := filled(t, 3)
	written(t, d, 1, marks(0))
	written(t, d, 2, marks(1))
	d.Crash(1|1<<2|1<<63, 7)
	want := numbered(1, 1)
	copy(want, marks(0)[:7])
	holds(t, d, 1, want, "the last one that is kept")
	holds(t, d, 2, numbered(2, 1), "not kept")
	holds(t, d, 0, numbered(0, 1), "not loose")
}

// P3.2: the 64th loose sector is the last one that can be kept: from there on
// they are as they were sure ahead, always.
func TestCrashKeepsBelow64(t *testing.T) {
	for _, c := range []struct {
		loose int
		keep  uint64
		last  int
	}{
		{63, all, 62}, {64, all, 63}, {65, all, 63}, {66, all, 63}, {129, all, 63}, {200, all, 63},
		{200, 1 << 63, 63}, {200, 1, 0}, {200, 1 << 62, 62}, {64, 1<<63 | 1, 63}, {63, 1 << 63, -1}, {200, 0, -1},
	} {
		d := filled(t, 201)
		for i := range c.loose {
			written(t, d, i+1, numbered(i, 2))
		}
		d.Crash(c.keep, 5)
		for i := range 200 {
			want := numbered(i+1, 1)
			switch {
			case i == c.last:
				copy(want, numbered(i, 2)[:5])
			case i < min(c.loose, 64) && c.keep>>i&1 == 1:
				want = numbered(i, 2)
			}
			holds(t, d, i+1, want, "Crash of many")
		}
		holds(t, d, 0, numbered(0, 1), "Crash of many")
		looseAre(t, d, nil, "Crash of many")
	}
}

// P3.2: behind a Crash it goes on as before: what is written then is loose, and
// what is sure ahead of the next Crash is what the first one left.
func TestCrashGoesOn(t *testing.T) {
	d := New(2)
	written(t, d, 0, marks(0))
	d.Crash(1, 10)
	want := make([]byte, size)
	copy(want, marks(0)[:10])
	written(t, d, 0, marks(1))
	looseAre(t, d, []int{0}, "written behind a Crash")
	holds(t, d, 0, marks(1), "written behind a Crash")
	d.Crash(0, size)
	holds(t, d, 0, want, "a second Crash")
	written(t, d, 1, marks(2))
	d.Crash(1, size)
	holds(t, d, 0, want, "a third Crash")
	holds(t, d, 1, marks(2), "a third Crash")
}

// P3.2: behind first more works count ones fail, of each kind, then none.
func TestFail(t *testing.T) {
	for kind := -1; kind < len(works()); kind++ {
		for first := range 5 {
			for count := range 5 {
				d := filled(t, 3)
				d.Fail(first, count)
				answers(t, d, kind, errs(first, count, 9), "Fail")
			}
		}
	}
}

// P3.2: numbers below 0 count as 0, each one by itself.
func TestFailBelowZero(t *testing.T) {
	for _, low := range []int{-1, -2, -size, math.MinInt, math.MinInt + 1, math.MinInt32, -1 << 32} {
		for _, c := range []struct{ first, count, good, failed int }{
			{low, 2, 0, 2}, {2, low, 2, 0}, {low, low, 0, 0}, {0, low, 0, 0}, {low, 0, 0, 0},
		} {
			d := filled(t, 3)
			d.Fail(c.first, c.count)
			answers(t, d, -1, errs(c.good, c.failed, 5), "Fail below 0")
		}
	}
}

// P3.2: numbers at the end of int: as many as that.
func TestFailAtEndOfInt(t *testing.T) {
	for _, high := range []int{math.MaxInt, math.MaxInt - 1, math.MaxInt32, 1 << 32, 1 << 62} {
		for _, c := range []struct{ first, count, good, failed int }{
			{0, high, 0, 500}, {3, high, 3, 500}, {high, 1, 500, 0}, {high, high, 500, 0},
		} {
			d := filled(t, 3)
			d.Fail(c.first, c.count)
			answers(t, d, -1, errs(c.good, c.failed), "Fail of many")
		}
	}
}

// P3.2: a later Fail takes the place of an earlier one, wherever that is.
func TestLaterFail(t *testing.T) {
	for done := range 7 {
		d := filled(t, 3)
		d.Fail(2, 3)
		answers(t, d, -1, errs(2, 3, 2)[:done], "the earlier Fail")
		d.Fail(1, 2)
		answers(t, d, -1, errs(1, 2, 5), "the later Fail")
	}
	for _, none := range [][2]int{{0, 0}, {3, 0}, {-1, -1}, {5, math.MinInt}} {
		d := filled(t, 3)
		d.Fail(0, 9)
		answers(t, d, -1, errs(0, 2), "the earlier Fail")
		d.Fail(none[0], none[1])
		answers(t, d, -1, errs(12), "a later Fail of none")
	}
}

// P3.2: ErrIO, and nothing: what is read and what is loose is as it was, and a
// Write or a Flush that failed is not made up for.
func TestFailedWorkDoesNothing(t *testing.T) {
	d := filled(t, 3)
	written(t, d, 2, marks(0))
	d.Fail(0, 4)
	if d.Write(0, marks(1)) != api.ErrIO || d.Write(2, marks(1)) != api.ErrIO || d.Flush() != api.ErrIO {
		t.Error("Fail")
	}
	looseAre(t, d, []int{2}, "works that failed")
	if b, e := d.Read(2); e != api.ErrIO || len(b) != 0 {
		t.Errorf("Read: % x %d", b, e)
	}
	holds(t, d, 0, numbered(0, 1), "a Write that failed")
	holds(t, d, 2, marks(0), "a Write that failed of a loose sector")
	looseAre(t, d, []int{2}, "works that failed, and are done again")
	d.Crash(0, size)
	asFilled(t, d, "a Flush that failed, and a Crash")
}

// P3.2: work has no ErrArg: what answers that, and what is no work, does not
// count, for a Fail, nor for a Fuse.
func TestWhatIsNoWork(t *testing.T) {
	idle := func(d *Disk) {
		for _, n := range notThere(3) {
			if b, e := d.Read(n); e != api.ErrArg || len(b) != 0 {
				t.Errorf("Read(%d): % x %d", n, b, e)
			}
			if e := d.Write(n, marks(0)); e != api.ErrArg {
				t.Errorf("Write(%d, ..): %d", n, e)
			}
		}
		for _, k := range wrongSizes() {
			if e := d.Write(1, make([]byte, k)); e != api.ErrArg {
				t.Errorf("Write(1, %d bytes): %d", k, e)
			}
		}
		if d.Sectors() != 3 || len(d.Loose()) > 1 {
			t.Errorf("%d sectors, loose %v", d.Sectors(), d.Loose())
		}
	}
	for at := range 8 {
		d := filled(t, 3)
		d.Fail(2, 2)
		d.Fuse(6)
		want := downAt(errs(2, 2, 4), 6)
		answers(t, d, 1, want[:at], "ahead of what is no work")
		idle(d)
		answers(t, d, 1, want[at:], "behind what is no work")
		idle(d)
	}
}

// P3.2: n more works are done, of each kind; then the power is gone, of that one
// and of all behind it.
func TestFuse(t *testing.T) {
	for kind := -1; kind < len(works()); kind++ {
		for n := range 6 {
			d := filled(t, 3)
			d.Fuse(n)
			answers(t, d, kind, downAt(errs(n+9), n), "Fuse")
		}
	}
	for _, low := range []int{-1, -2, math.MinInt, math.MinInt + 1, math.MinInt32, -1 << 32} {
		d := filled(t, 3)
		d.Fuse(low)
		answers(t, d, -1, downAt(errs(5), 0), "Fuse below 0")
	}
	for _, high := range []int{math.MaxInt, math.MaxInt - 1, math.MaxInt32, 1 << 32, 1 << 62} {
		d := filled(t, 3)
		d.Fuse(high)
		answers(t, d, -1, errs(500), "Fuse of many")
	}
}

// P3.2: the power goes at the next work, not ahead of it: till then a later Fuse
// takes the place of an earlier one, of no more works too.
func TestLaterFuse(t *testing.T) {
	for done := range 4 {
		for _, n := range []int{0, 1, 5} {
			d := filled(t, 3)
			d.Fuse(3)
			answers(t, d, -1, errs(done), "the earlier Fuse")
			d.Fuse(n)
			answers(t, d, -1, downAt(errs(n+4), n), "the later Fuse")
		}
	}
	d := filled(t, 3)
	d.Fuse(0)
	d.Read(-1)
	d.Write(0, nil)
	d.Fuse(math.MaxInt)
	answers(t, d, -1, errs(50), "the later Fuse")
}

// P3.2: a Fuse behind the power's end brings nothing back, nor does a Fail, or
// anything but a Crash.
func TestPowerStaysGone(t *testing.T) {
	for kind := range works() {
		d := filled(t, 3)
		d.Fuse(0)
		answers(t, d, kind, downAt(errs(1), 0), "Fuse")
		for _, n := range []int{math.MinInt, -1, 0, 1, 2, math.MaxInt} {
			d.Fuse(n)
			answers(t, d, -1, downAt(errs(4), 0), "a Fuse behind the power's end")
			d.Fail(n, n)
			answers(t, d, -1, downAt(errs(4), 0), "a Fail behind the power's end")
			d.Fail(0, n)
			answers(t, d, -1, downAt(errs(4), 0), "a Fail behind the power's end")
		}
		d.Crash(0, 0)
		answers(t, d, -1, errs(9), "Crash")
	}
}

// P3.2: ErrDown, and nothing: what is loose is so still, is told, and is what a
// Crash asks of.
func TestDownWorkDoesNothing(t *testing.T) {
	d := filled(t, 4)
	d.Fuse(2)
	written(t, d, 3, marks(0))
	written(t, d, 1, marks(1))
	looseAre(t, d, []int{1, 3}, "ahead of the power's end")
	for range 2 {
		if d.Write(0, marks(2)) != api.ErrDown || d.Write(1, marks(2)) != api.ErrDown || d.Flush() != api.ErrDown {
			t.Error("Fuse")
		}
		if b, e := d.Read(1); e != api.ErrDown || len(b) != 0 {
			t.Errorf("Read: % x %d", b, e)
		}
		looseAre(t, d, []int{1, 3}, "behind the power's end")
		if d.Sectors() != 4 {
			t.Errorf("Sectors: %d", d.Sectors())
		}
	}
	d.Crash(3, 6)
	looseAre(t, d, nil, "Crash")
	torn := numbered(3, 1)
	copy(torn, marks(0)[:6])
	for n, want := range [][]byte{numbered(0, 1), marks(1), numbered(2, 1), torn} {
		holds(t, d, n, want, "Crash")
	}
}

// P3.2: a work that answers ErrIO counts for a Fuse; ErrDown comes ahead of
// ErrIO; neither Fail nor Fuse takes the other one's place.
func TestFailAndFuse(t *testing.T) {
	for first := range 4 {
		for count := range 4 {
			for n := range 9 {
				want := downAt(errs(first, count, 9), n)
				d := filled(t, 3)
				d.Fail(first, count)
				d.Fuse(n)
				answers(t, d, -1, want, "Fail, Fuse")
				d = filled(t, 3)
				d.Fuse(n)
				d.Fail(first, count)
				answers(t, d, -1, want, "Fuse, Fail")
			}
		}
	}
}

// R2: ErrArg comes ahead of ErrIO and of ErrDown, which comes ahead of ErrIO.
func TestWhichErrorFirst(t *testing.T) {
	failing, down := filled(t, 3), filled(t, 3)
	failing.Fail(0, math.MaxInt)
	down.Fail(0, math.MaxInt)
	down.Fuse(1)
	answers(t, down, 2, []api.Errno{api.ErrIO}, "ahead of the power's end")
	for _, c := range []struct {
		d    *Disk
		want api.Errno
	}{{failing, api.ErrIO}, {down, api.ErrDown}} {
		answers(t, c.d, -1, []api.Errno{c.want, c.want, c.want}, "trouble")
		noSector(t, c.d, notThere(3))
		for _, k := range wrongSizes() {
			if e := c.d.Write(0, make([]byte, k)); e != api.ErrArg {
				t.Errorf("Write(0, %d bytes): %d", k, e)
			}
		}
		answers(t, c.d, -1, []api.Errno{c.want, c.want, c.want}, "trouble")
		looseAre(t, c.d, nil, "trouble")
	}
}

// P3.2: behind a Crash the power is there, and no Fail and no Fuse, wherever
// these were.
func TestCrashEndsTrouble(t *testing.T) {
	for done := range 8 {
		d := filled(t, 3)
		d.Fail(1, 4)
		d.Fuse(6)
		answers(t, d, 2, downAt(errs(1, 4, 3), 6)[:done], "trouble")
		d.Crash(all, size)
		answers(t, d, -1, errs(20), "Crash behind trouble")
		d.Fuse(1)
		answers(t, d, -1, downAt(errs(3), 1), "a new Fuse")
		d.Crash(0, 0)
		d.Fail(1, 1)
		answers(t, d, -1, errs(1, 1, 9), "a new Fail")
	}
}

// P3.2: a Fail and a Fuse that are asked for while the power is gone are gone
// behind the Crash as well.
func TestCrashEndsLaterTrouble(t *testing.T) {
	d := filled(t, 3)
	d.Fuse(0)
	answers(t, d, 0, downAt(errs(1), 0), "Fuse")
	d.Fail(0, 9)
	d.Fuse(3)
	d.Crash(0, 0)
	answers(t, d, -1, errs(20), "Crash")
	asFilledButOne(t, d)
}

// asFilledButOne fails if a sector beside the one that works writes is not as
// filled left it.
func asFilledButOne(t *testing.T, d *Disk) {
	t.Helper()
	holds(t, d, 0, numbered(0, 1), "works of another sector")
	holds(t, d, 1, marks(2), "works")
	holds(t, d, 2, numbered(2, 1), "works of another sector")
}

// R4: what is handed in is not kept, and not changed, its spare room neither.
func TestWriteKeepsNothing(t *testing.T) {
	d := New(2)
	whole := append(marks(0), marks(1)...)
	written(t, d, 1, whole[:size])
	flushed(t, d)
	written(t, d, 1, whole[:size])
	written(t, d, 0, whole[size:])
	d.Crash(1, 5)
	d.Write(1, whole)
	d.Write(2, whole[:size])
	d.Fail(0, 1)
	d.Write(0, whole[:size])
	if !bytes.Equal(whole, append(marks(0), marks(1)...)) {
		t.Errorf("what was handed in is changed: % x", whole)
	}
	for _, flush := range []bool{false, true} {
		copy(whole, marks(2))
		written(t, d, 1, whole[:size])
		clear(whole)
		holds(t, d, 1, marks(2), "what was handed in is changed, loose")
		if flush {
			flushed(t, d)
		}
		copy(whole, marks(0))
		holds(t, d, 1, marks(2), "what was handed in is changed, loose or sure")
	}
}

// R4: what Read answers is memory of its own: it may be changed, and may grow,
// without being seen in the disk or in another answer, sure or loose.
func TestReadIsItsOwn(t *testing.T) {
	for _, flush := range []bool{false, true} {
		d := New(3)
		for n := range 3 {
			written(t, d, n, marks(n))
		}
		if flush {
			flushed(t, d)
		}
		one, _ := d.Read(1)
		two, _ := d.Read(1)
		clear(one[:cap(one)])
		_ = append(one, make([]byte, 2*size)...)
		if !bytes.Equal(two, marks(1)) {
			t.Errorf("two answers share memory: % x", two)
		}
		for n := range 3 {
			holds(t, d, n, marks(n), "a change of what is answered")
		}
		d.Crash(0, 0)
		written(t, d, 1, marks(2))
		d.Crash(1, 9)
		if !bytes.Equal(two, marks(1)) {
			t.Errorf("an answer is changed later: % x", two)
		}
	}
}

// R4: what Loose answers is memory of its own.
func TestLooseIsItsOwn(t *testing.T) {
	d := New(5)
	for n := range 4 {
		written(t, d, n, marks(0))
	}
	one, two := d.Loose(), d.Loose()
	clear(one[:cap(one)])
	_ = append(one[:1], 7, 7, 7, 7, 7, 7)
	if !slices.Equal(two, []int{0, 1, 2, 3}) {
		t.Errorf("two answers share memory: %v", two)
	}
	looseAre(t, d, []int{0, 1, 2, 3}, "a change of what is answered")
	written(t, d, 4, marks(0))
	flushed(t, d)
	if !slices.Equal(two, []int{0, 1, 2, 3}) {
		t.Errorf("an answer is changed later: %v", two)
	}
}

// R5: the same calls, done again from the beginning, have the same answers.
func TestSameAgain(t *testing.T) {
	run := func() [][]byte {
		d := New(100)
		for i := range 90 {
			d.Write(i*37%100, numbered(i, 2))
		}
		d.Crash(0x5a5a_f00d_1234_8765, 33)
		var list [][]byte
		for n := range 100 {
			b, _ := d.Read(n)
			list = append(list, b)
		}
		return list
	}
	first := run()
	for range 20 {
		if !slices.EqualFunc(first, run(), bytes.Equal) {
			t.Fatal("other answers")
		}
	}
}

// model is the disk as the chapter tells it, by other means: all sectors twice,
// sure and as they were written last; works are counted from the disk's
// beginning on, and Fail and Fuse stand as numbers of works.
type model struct {
	sure, last [][]byte
	loose      []bool
	works      int
	from, to   int // works that fail
	end        int // the work at which the power goes, or -1
	down       bool
}

func newModel(sectors int) *model {
	o := &model{loose: make([]bool, sectors), end: -1}
	for range sectors {
		o.sure = append(o.sure, make([]byte, size))
		o.last = append(o.last, make([]byte, size))
	}
	return o
}

func (o *model) work() api.Errno {
	now := o.works
	o.works++
	if now == o.end {
		o.down = true
	}
	switch {
	case o.down:
		return api.ErrDown
	case now >= o.from && now < o.to:
		return api.ErrIO
	}
	return api.OK
}

func (o *model) read(n int) ([]byte, api.Errno) {
	if n < 0 || n >= len(o.sure) {
		return nil, api.ErrArg
	}
	if e := o.work(); e != api.OK {
		return nil, e
	}
	return o.last[n], api.OK
}

func (o *model) write(n int, b []byte) api.Errno {
	if n < 0 || n >= len(o.sure) || len(b) != size {
		return api.ErrArg
	}
	e := o.work()
	if e == api.OK {
		o.last[n], o.loose[n] = slices.Clone(b), true
	}
	return e
}

func (o *model) flush() api.Errno {
	e := o.work()
	for n := 0; e == api.OK && n < len(o.sure); n++ {
		o.sure[n], o.loose[n] = o.last[n], false
	}
	return e
}

func (o *model) listed() []int {
	var list []int
	for n, l := range o.loose {
		if l {
			list = append(list, n)
		}
	}
	return list
}

// crash gives back what is not kept, and then tears the last one that is.
func (o *model) crash(keep uint64, torn int) {
	last, ahead := -1, []byte(nil)
	for i, n := range o.listed() {
		if i < 64 && keep&(1<<i) != 0 {
			last, ahead = n, o.sure[n]
			o.sure[n] = o.last[n]
		}
		o.loose[n] = false
	}
	if last >= 0 {
		torn = max(0, min(torn, size))
		o.sure[last] = slices.Concat(o.sure[last][:torn], ahead[torn:])
	}
	copy(o.last, o.sure)
	o.from, o.to, o.end, o.down = 0, 0, -1, false
}

// P3.1, P3.2: many calls in a row, right and wrong ones, held against the model.
func TestManyCalls(t *testing.T) {
	seed := uint64(3)
	next := func(n int) int {
		seed = seed*6364136223846793005 + 1442695040888963407
		return int((seed >> 33) % uint64(n))
	}
	for round := range 60 {
		sectors := next(9)
		if round%3 == 0 {
			sectors = 60 + next(30)
		}
		d, o := New(sectors), newModel(sectors)
		for step := range 1500 {
			n := next(sectors+2) - 1
			var got, want api.Errno
			switch kind := next(200); {
			case kind < 120:
				b := numbered(step, round)
				if kind == 0 {
					b = b[1:]
				}
				got, want = d.Write(n, b), o.write(n, b)
			case kind < 180:
				b, e := d.Read(n)
				w, we := o.read(n)
				if !bytes.Equal(b, w) {
					t.Fatalf("step %d: Read(%d): % x, want % x", step, n, b, w)
				}
				got, want = e, we
			case kind < 183:
				got, want = d.Flush(), o.flush()
			case kind < 189:
				first, count := next(12)-2, next(8)-2
				d.Fail(first, count)
				o.from = o.works + max(first, 0)
				o.to = o.from + max(count, 0)
			case kind < 192:
				k := next(30) - 2
				d.Fuse(k)
				o.end = o.works + max(k, 0)
			case kind < 194:
				keep, torn := uint64(next(1<<31))<<33^uint64(next(1<<31)), next(size+9)-4
				d.Crash(keep, torn)
				o.crash(keep, torn)
			}
			if got != want {
				t.Fatalf("step %d: %d, want %d", step, got, want)
			}
			if !slices.Equal(d.Loose(), o.listed()) || d.Sectors() != sectors {
				t.Fatalf("step %d: loose %v, want %v", step, d.Loose(), o.listed())
			}
		}
		d.Crash(all, 20)
		o.crash(all, 20)
		for n := range sectors {
			holds(t, d, n, o.sure[n], "at the end")
		}
	}
}
