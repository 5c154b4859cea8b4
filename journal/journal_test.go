package journal

import (
	"bytes"
	"headland/api"
	"headland/disk"
	"headland/log"
	"headland/slot"
	"math"
	"slices"
	"strconv"
	"testing"
)

const (
	size     = api.PageSize
	mostBase = 960            // bytes that a base has room for
	all      = math.MaxUint64 // keeps each loose sector that can be kept
)

// baseSizes are numbers of bytes around those of a sector, and around the most.
func baseSizes() []int {
	return []int{0, 1, 2, 63, 64, 65, 127, 128, 129, 300, 895, 896, 897, 959, 960}
}

// wrongBases are numbers of bytes that no base has.
func wrongBases() []int {
	return []int{961, 962, 1023, 1024, 1025, 2048, 1 << 16, 1<<16 + 1, 1<<16 + 960}
}

// wrongRecords are numbers of bytes that no record has.
func wrongRecords() []int {
	return []int{51, 52, 55, 59, 60, 63, 64, 65, 255, 256, 257, 256 + 50, 1 << 16, 1<<16 + 1}
}

// marks are n bytes none of which is 0; they are other ones for each mark.
func marks(n, mark int) []byte {
	b := make([]byte, n)
	for i := range b {
		b[i] = byte(1 + (i*7+mark*31)%255)
	}
	return b
}

// record is the n-th of the records that full appends, of all sizes.
func record(n int) []byte { return marks(n%(api.MaxRecord+1), n) }

// listed are the first n of these records.
func listed(n int) [][]byte {
	var list [][]byte
	for i := range n {
		list = append(list, record(i))
	}
	return list
}

// pages is how many sectors b's bytes have.
func pages(b []byte) int { return (len(b) + size - 1) / size }

// worksOf is how many works a Rebase to b is: of an Append they are two.
func worksOf(b []byte) int { return pages(b) + 3 }

// readsOf is how many works an Open is, of so many bytes in either slot, and of
// so many records.
func readsOf(one, two []byte, records int) int {
	return pages(one) + pages(two) + 2 + min(records+1, api.LogLen)
}

// filler is what stands in sector n of a disk ahead of all.
func filler(n int) []byte {
	return append(marks(size-1, n+3), byte(n))
}

// filled is a disk whose sectors have other bytes than 0, all of them sure.
// Nothing was saved on it.
func filled(t *testing.T, sectors int) *disk.Disk {
	t.Helper()
	d := disk.New(sectors)
	for n := range sectors {
		written(t, d, n, filler(n))
	}
	if e := d.Flush(); e != api.OK {
		t.Fatalf("Flush: %d", e)
	}
	return d
}

// written writes b to sector n, or fails.
func written(t *testing.T, d *disk.Disk, n int, b []byte) {
	t.Helper()
	if e := d.Write(n, b); e != api.OK {
		t.Fatalf("Write(%d, ..): %d", n, e)
	}
}

// image is all sectors of d, one behind the other.
func image(t *testing.T, d *disk.Disk) []byte {
	t.Helper()
	var b []byte
	for n := range d.Sectors() {
		s, e := d.Read(n)
		if e != api.OK {
			t.Fatalf("Read(%d): %d", n, e)
		}
		b = append(b, s...)
	}
	return b
}

// opened is d's journal, or fails.
func opened(t *testing.T, d *disk.Disk) *Journal {
	t.Helper()
	j, _, _, e := Open(d)
	if e != api.OK || j == nil {
		t.Fatalf("Open: %d", e)
	}
	return j
}

// opens fails if Open does not answer these, with a journal of so many records.
func opens(t *testing.T, d *disk.Disk, base []byte, records [][]byte, what string) {
	t.Helper()
	j, b, list, e := Open(d)
	if e != api.OK || j == nil || j.Len() != len(list) || !bytes.Equal(b, base) || !slices.EqualFunc(list, records, bytes.Equal) {
		t.Errorf("%s: Open: %v, Len %d, base % x, %d records % x, %d; want base % x, %d records % x", what, j != nil, j.Len(), b, len(list), list, e, base, len(records), records)
	}
}

// openError fails if Open does not answer that error, and nothing beside it.
func openError(t *testing.T, d *disk.Disk, want api.Errno, what string) {
	t.Helper()
	if j, b, list, e := Open(d); e != want || j != nil || len(b)+len(list) != 0 {
		t.Errorf("%s: Open: %v, % x, % x, %d, want %d", what, j != nil, b, list, e, want)
	}
}

// appends fails if Append does not answer that, or if Len is another one then.
func appends(t *testing.T, j *Journal, b []byte, want api.Errno, length int, what string) {
	t.Helper()
	if e := j.Append(b); e != want || j.Len() != length {
		t.Errorf("%s: Append(%d bytes): %d, Len %d; want %d, Len %d", what, len(b), e, j.Len(), want, length)
	}
}

// rebases fails if Rebase does not answer that, or if Len is another one then.
func rebases(t *testing.T, j *Journal, b []byte, want api.Errno, length int, what string) {
	t.Helper()
	if e := j.Rebase(b); e != want || j.Len() != length {
		t.Errorf("%s: Rebase(%d bytes): %d, Len %d; want %d, Len %d", what, len(b), e, j.Len(), want, length)
	}
}

// has fails if there are other bytes in the slot with the greater gen, or if that
// is another one.
func has(t *testing.T, d *disk.Disk, gen uint32, base []byte, what string) {
	t.Helper()
	if g, b, e := slot.Load(d); e != api.OK || g != gen || !bytes.Equal(b, base) {
		t.Errorf("%s: gen %d, % x, %d; want gen %d, % x", what, g, b, e, gen, base)
	}
}

// isLoose fails if other sectors than these are loose.
func isLoose(t *testing.T, d *disk.Disk, what string, want ...int) {
	t.Helper()
	if l := d.Loose(); !slices.Equal(l, want) {
		t.Errorf("%s: loose %v, want %v", what, l, want)
	}
}

// noWork fails if what is done changes something on d, or is a work: the first one
// behind it would not be the one that fails.
func noWork(t *testing.T, d *disk.Disk, what string, do func()) {
	t.Helper()
	loose, was := d.Loose(), image(t, d)
	d.Fail(0, 1)
	do()
	if _, e := d.Read(0); e != api.ErrIO {
		t.Errorf("%s: the first work behind what is none: %d", what, e)
	}
	isLoose(t, d, what, loose...)
	if !bytes.Equal(image(t, d), was) {
		t.Errorf("%s: a refused call changed something", what)
	}
}

// based is a journal on a filled disk, with that base of gen 2, and the first so
// many records.
func based(t *testing.T, base []byte, records int) (*disk.Disk, *Journal) {
	t.Helper()
	d := filled(t, api.DiskSectors)
	j := opened(t, d)
	rebases(t, j, []byte("first"), api.OK, 0, "first")
	rebases(t, j, base, api.OK, 0, "second")
	full(t, j, 0, records)
	return d, j
}

// full appends the records from one on up to another.
func full(t *testing.T, j *Journal, from, to int) {
	t.Helper()
	for n := from; n < to; n++ {
		appends(t, j, record(n), api.OK, n+1, "full")
	}
}

// P6.1: the chapter's example: Append, Crash, Open: one record.
func TestAppendCrashOpen(t *testing.T) {
	d := disk.New(api.DiskSectors)
	appends(t, opened(t, d), []byte("one"), api.OK, 1, "Append")
	d.Crash(0, 0)
	opens(t, d, nil, [][]byte{[]byte("one")}, "Append, Crash")
}

// P6.1: Open of a disk on which nothing was saved: no base, no records, whatever
// stands there; nothing is written by it.
func TestOpenOfNothing(t *testing.T) {
	same := disk.New(api.DiskSectors)
	for n := range api.DiskSectors {
		written(t, same, n, bytes.Repeat([]byte{0xff}, size))
	}
	same.Flush()
	for _, d := range []*disk.Disk{disk.New(api.DiskSectors), filled(t, api.DiskSectors), same, disk.New(96), disk.New(4096)} {
		was := image(t, d)
		for range 2 {
			opens(t, d, nil, nil, "nothing")
		}
		d.Fail(3, 1)
		opens(t, d, nil, nil, "three works")
		if _, e := d.Read(0); e != api.ErrIO {
			t.Errorf("the fourth work: %d", e)
		}
		isLoose(t, d, "nothing")
		if !bytes.Equal(image(t, d), was) {
			t.Error("Open changed something")
		}
		j := opened(t, d)
		appends(t, j, nil, api.OK, 1, "nothing")
		opens(t, d, nil, [][]byte{nil}, "one record, no base")
		rebases(t, j, nil, api.OK, 0, "nothing")
		has(t, d, 1, nil, "the first base has gen 1")
		opens(t, d, nil, nil, "a base of no bytes")
	}
}

// P6.1: Open: the base that was saved last, of whatever gen, and the records of
// that gen alone; what comes then goes on from there.
func TestOpenOfEachGen(t *testing.T) {
	for _, gen := range []uint32{0, 1, 2, 7, 8, 0xff, 0x100, 0xffff, 0x10000, 0x1000000, 0x01020304, math.MaxInt32, 1 << 31, math.MaxUint32 - 2, math.MaxUint32 - 1} {
		d := filled(t, api.DiskSectors)
		slot.Save(d, gen, []byte("base"))
		for n := range 5 {
			log.Append(d, gen+1, n, []byte("no record"))
		}
		opens(t, d, []byte("base"), nil, "records of the next gen")
		for n := range 3 {
			log.Append(d, gen, n, record(n))
		}
		opens(t, d, []byte("base"), listed(3), "records of that gen, and behind them of another")
		j := opened(t, d)
		appends(t, j, record(3), api.OK, 4, "each gen")
		opens(t, d, []byte("base"), listed(4), "one more")
		if list, e := log.Replay(d, gen); e != api.OK || len(list) != 4 {
			t.Errorf("gen %d: %d records, %d", gen, len(list), e)
		}
		rebases(t, j, []byte("new"), api.OK, 0, "each gen")
		has(t, d, gen+1, []byte("new"), "the next gen")
		full(t, j, 0, 1)
		if list, e := log.Replay(d, gen+1); e != api.OK || len(list) != 1 {
			t.Errorf("gen %d: %d records, %d", gen+1, len(list), e)
		}
		opens(t, d, []byte("new"), listed(1), "the next gen")
	}
}

// P6.1: a base of each number of bytes, with records of each number: all of them
// are sure, and are answered as they were handed in.
func TestOpenOfAll(t *testing.T) {
	for i, n := range baseSizes() {
		for _, records := range []int{0, 1, 2, 31, 50, 51, 62, 63, 64} {
			d, j := based(t, marks(n, i), records)
			isLoose(t, d, "all of it")
			if j.Len() != records {
				t.Errorf("Len: %d, want %d", j.Len(), records)
			}
			for _, keep := range []uint64{0, 1, all} {
				opens(t, d, marks(n, i), listed(records), "all of it")
				d.Crash(keep, 20)
				opens(t, d, marks(n, i), listed(records), "all of it, Crash")
			}
			has(t, d, 2, marks(n, i), "all of it")
		}
	}
}

// P6.1: Load's error, then Replay's: at each of the works of an Open, and of none
// behind them.
func TestOpenFails(t *testing.T) {
	for _, n := range []int{0, 1, 64, 65, mostBase} {
		for _, records := range []int{0, 1, 5, 63, 64} {
			base := marks(n, 1)
			d, _ := based(t, base, records)
			reads := readsOf([]byte("first"), base, records)
			for works := range reads {
				d.Fail(works, 1)
				openError(t, d, api.ErrIO, "a work that fails")
				opens(t, d, base, listed(records), "behind one that failed")
				d.Fuse(works)
				openError(t, d, api.ErrDown, "the power goes")
				openError(t, d, api.ErrDown, "the power is gone")
				d.Crash(all, size)
				opens(t, d, base, listed(records), "behind a Crash")
			}
			d.Fail(reads, 1)
			opens(t, d, base, listed(records), "so many works")
			if _, e := d.Read(0); e != api.ErrIO {
				t.Errorf("%d bytes, %d records: the work behind %d: %d", n, records, reads, e)
			}
		}
	}
}

// P6.1: Open of a disk that is too small, and of none: ErrArg; a Read's other
// error comes first, if it comes ahead of the disk's end.
func TestOpenOfFewSectors(t *testing.T) {
	openError(t, nil, api.ErrArg, "none")
	for _, d := range []*disk.Disk{new(disk.Disk), disk.New(-1)} {
		openError(t, d, api.ErrArg, "no sectors")
	}
	for sectors := range api.DiskSectors {
		d := filled(t, sectors)
		if sectors <= 80 {
			openError(t, d, api.ErrArg, "no head")
		} else {
			opens(t, d, nil, nil, "nothing but two heads")
		}
		if sectors > 64 {
			d.Fail(0, 1)
			openError(t, d, api.ErrIO, "a failure ahead of the disk's end")
		}
		if sectors <= 64 {
			d.Fail(0, 1)
			openError(t, d, api.ErrArg, "what is no work does not fail")
		}
	}
}

// P6.1: a disk whose end is in a slot: a Rebase to a base that has no room there
// answers ErrArg, and all goes on; one that has is done.
func TestRebaseOnFewSectors(t *testing.T) {
	for _, sectors := range []int{81, 82, 83, 95} {
		d := filled(t, sectors)
		j := opened(t, d)
		for round := range 3 {
			room := (sectors - 81) * size
			full(t, j, 0, 2)
			rebases(t, j, marks(room+1, 1), api.ErrArg, 2, "behind the disk's end")
			full(t, j, 2, 3)
			rebases(t, j, marks(room, round), api.OK, 0, "up to the disk's end")
			full(t, j, 0, 3)
			rebases(t, j, marks(mostBase, 2), api.OK, 0, "the slot that is whole there")
			opens(t, d, marks(mostBase, 2), nil, "few sectors")
		}
	}
}

// P6.1: a Rebase that was cut off, and another one that the disk is too small for:
// ErrArg, but the first one is cut off still.
func TestCutOffOnFewSectors(t *testing.T) {
	d := filled(t, 82)
	j := opened(t, d)
	full(t, j, 0, 3)
	d.Fail(2, 1)
	rebases(t, j, nil, api.ErrIO, 3, "cut off")
	rebases(t, j, marks(65, 1), api.ErrArg, 3, "behind the disk's end")
	appends(t, j, record(3), api.ErrFull, 3, "cut off still")
	rebases(t, j, marks(64, 1), api.OK, 0, "up to the disk's end")
	full(t, j, 0, 2)
	opens(t, d, marks(64, 1), listed(2), "done")
	has(t, d, 1, marks(64, 1), "done")
}

// P6.1: a record of each number of bytes, at each place: it is one more, it is
// sure, no sector but its own is changed, and an Append is two works.
func TestAppendEachSize(t *testing.T) {
	for shift := range api.MaxRecord + 1 {
		d, j := based(t, []byte("base"), 0)
		var list [][]byte
		for n := range api.LogLen {
			b := marks((n+shift)%(api.MaxRecord+1), n)
			was := image(t, d)
			d.Fail(2, 1)
			appends(t, j, b, api.OK, n+1, "each size")
			if _, e := d.Read(0); e != api.ErrIO {
				t.Errorf("%d bytes: the third work: %d", len(b), e)
			}
			isLoose(t, d, "each size")
			is := image(t, d)
			copy(is[n*size:][:size], was[n*size:])
			if !bytes.Equal(is, was) {
				t.Errorf("record %d is in more sectors than its own", n)
			}
			list = append(list, b)
		}
		d.Crash(0, 0)
		opens(t, d, []byte("base"), list, "each size")
	}
}

// P6.1: ErrArg of more than MaxRecord bytes: nothing is written, nothing is
// flushed, and no work is done.
func TestAppendErrArg(t *testing.T) {
	for _, records := range []int{0, 1, 63, 64} {
		d, j := based(t, []byte("base"), records)
		written(t, d, api.SwapAt, marks(size, 1))
		noWork(t, d, "too many bytes", func() {
			for _, n := range wrongRecords() {
				appends(t, j, marks(n, 1), api.ErrArg, records, "too many bytes")
				appends(t, j, make([]byte, n), api.ErrArg, records, "too many 0s")
			}
		})
		opens(t, d, []byte("base"), listed(records), "refused calls")
		if records < api.LogLen {
			full(t, j, records, records+1)
			opens(t, d, []byte("base"), listed(records+1), "behind refused calls")
		}
	}
}

// P6.1: as many records as LogLen, and one more: ErrFull, of any bytes, and no
// work; so it is behind an Open as well; till a Rebase is done.
func TestAppendErrFull(t *testing.T) {
	for _, again := range []bool{false, true} {
		d, j := based(t, []byte("base"), api.LogLen)
		if again {
			j = opened(t, d)
		}
		noWork(t, d, "one more", func() {
			for n := range api.MaxRecord + 1 {
				appends(t, j, marks(n, 1), api.ErrFull, api.LogLen, "one more")
			}
		})
		opens(t, d, []byte("base"), listed(api.LogLen), "one more")
		rebases(t, j, marks(mostBase+1, 1), api.ErrArg, api.LogLen, "full")
		appends(t, j, nil, api.ErrFull, api.LogLen, "one more behind ErrArg")
		rebases(t, j, []byte("new"), api.OK, 0, "full")
		full(t, j, 0, api.LogLen)
		appends(t, j, nil, api.ErrFull, api.LogLen, "one more, again")
		opens(t, d, []byte("new"), listed(api.LogLen), "full again")
	}
}

// P6.1: an Append that failed at either of its works: its error, and it is none;
// one behind it has its place.
func TestAppendFails(t *testing.T) {
	for _, records := range []int{0, 1, 30, 62, 63} {
		for works := range 2 {
			d, j := based(t, []byte("base"), records)
			for n := range 3 {
				d.Fail(works, 1)
				appends(t, j, marks(20+n, n), api.ErrIO, records, "a work that fails")
			}
			opened := listed(records)
			if works == 1 {
				opened = append(opened, marks(22, 2))
			}
			opens(t, d, []byte("base"), opened, "what is loose")
			full(t, j, records, records+1)
			isLoose(t, d, "behind one that failed")
			d.Crash(0, 0)
			opens(t, d, []byte("base"), listed(records+1), "behind one that failed")
			d.Fuse(works)
			if records < api.LogLen-1 {
				appends(t, j, []byte("gone"), api.ErrDown, records+1, "the power goes")
				appends(t, j, []byte("gone"), api.ErrDown, records+1, "the power is gone")
				appends(t, j, marks(51, 1), api.ErrArg, records+1, "too many bytes, the power is gone")
				rebases(t, j, nil, api.ErrDown, records+1, "the power is gone")
			}
			d.Crash(0, 0)
			opens(t, d, []byte("base"), listed(records+1), "behind a Crash")
		}
	}
}

// P6.1: a base of each number of bytes: there are no records then, a Rebase is
// one gen on, it is sure, and the log's sectors stay as they are.
func TestRebaseEachSize(t *testing.T) {
	d := filled(t, api.DiskSectors)
	j := opened(t, d)
	for n := range mostBase + 1 {
		base := marks(n, n)
		full(t, j, 0, n%3)
		was := image(t, d)
		d.Fail(worksOf(base), 1)
		rebases(t, j, base, api.OK, 0, "each size")
		if _, e := d.Read(0); e != api.ErrIO {
			t.Errorf("%d bytes: the work behind %d: %d", n, worksOf(base), e)
		}
		isLoose(t, d, "each size")
		if is := image(t, d); !bytes.Equal(is[:64*size], was[:64*size]) || !bytes.Equal(is[96*size:], was[96*size:]) {
			t.Errorf("%d bytes: a Rebase changed what is no slot", n)
		}
		d.Crash(0, 0)
		has(t, d, uint32(n+1), base, "each size")
		opens(t, d, base, nil, "each size")
	}
}

// P6.1: records of the old base are none of the new one, however many there were,
// and whatever is appended behind it.
func TestOldRecords(t *testing.T) {
	for _, old := range []int{0, 1, 5, 63, 64} {
		for _, records := range []int{0, 1, 5, 63, 64} {
			d, j := based(t, []byte("base"), old)
			rebases(t, j, []byte("new"), api.OK, 0, "old records")
			opens(t, d, []byte("new"), nil, "old records")
			for n := range records {
				appends(t, j, record(n), api.OK, n+1, "behind old ones")
				opens(t, d, []byte("new"), listed(n+1), "behind old ones")
			}
			rebases(t, j, nil, api.OK, 0, "a base of no bytes")
			opens(t, d, nil, nil, "a base of no bytes")
		}
	}
}

// P6.1: ErrArg of a base that there is no room for: nothing is written, no work
// is done, and all goes on as before.
func TestRebaseErrArg(t *testing.T) {
	for _, records := range []int{0, 1, 63, 64} {
		d, j := based(t, []byte("base"), records)
		written(t, d, api.SwapAt, marks(size, 1))
		noWork(t, d, "too many bytes", func() {
			for _, n := range wrongBases() {
				rebases(t, j, marks(n, 1), api.ErrArg, records, "too many bytes")
				rebases(t, j, make([]byte, n), api.ErrArg, records, "too many 0s")
			}
		})
		if records < api.LogLen {
			full(t, j, records, records+1)
			opens(t, d, []byte("base"), listed(records+1), "behind refused calls")
		}
		rebases(t, j, []byte("new"), api.OK, 0, "behind refused calls")
		has(t, d, 3, []byte("new"), "behind refused calls")
	}
}

// cutOff is a journal whose Rebase to base, of gen 3, was cut off behind so many
// works, as often as it says.
func cutOff(t *testing.T, base []byte, records, works, times int) (*disk.Disk, *Journal) {
	t.Helper()
	d, j := based(t, []byte("base"), records)
	for range times {
		d.Fail(works, 1)
		rebases(t, j, base, api.ErrIO, records, "cut off")
	}
	return d, j
}

// P6.1: an Append behind a Rebase that was cut off, at each of the works: ErrFull,
// and no work, till a Rebase is done; that has the gen that was tried.
func TestAppendBehindCutOff(t *testing.T) {
	for _, n := range []int{0, 1, 64, 65, 300, mostBase} {
		for _, records := range []int{0, 1, 63, 64} {
			base := marks(n, 1)
			for works := range worksOf(base) {
				d, j := cutOff(t, base, records, works, 1+works%3)
				noWork(t, d, "cut off", func() {
					for n := range api.MaxRecord + 1 {
						appends(t, j, marks(n, 1), api.ErrFull, records, "cut off")
					}
					appends(t, j, marks(51, 1), api.ErrArg, records, "cut off, too many bytes")
					rebases(t, j, marks(mostBase+1, 1), api.ErrArg, records, "cut off, too many bytes")
					appends(t, j, nil, api.ErrFull, records, "cut off, behind ErrArg")
				})
				rebases(t, j, []byte("done"), api.OK, 0, "done")
				has(t, d, 3, []byte("done"), "the gen that was tried")
				full(t, j, 0, 2)
				d.Crash(0, 0)
				opens(t, d, []byte("done"), listed(2), "done")
				rebases(t, j, []byte("once more"), api.OK, 0, "done")
				has(t, d, 4, []byte("once more"), "the next gen")
			}
		}
	}
}

// P6.1: the power goes at each of the works of a Rebase: ErrFull comes ahead of
// ErrDown, and stays till a Rebase is done, behind a Crash as well.
func TestCutOffByPower(t *testing.T) {
	for _, n := range []int{0, 1, 65, mostBase} {
		base := marks(n, 1)
		for works := range worksOf(base) {
			d, j := based(t, []byte("base"), 5)
			d.Fuse(works)
			rebases(t, j, base, api.ErrDown, 5, "the power goes")
			appends(t, j, nil, api.ErrFull, 5, "the power is gone")
			appends(t, j, marks(51, 1), api.ErrArg, 5, "the power is gone")
			rebases(t, j, base, api.ErrDown, 5, "the power is gone")
			rebases(t, j, marks(mostBase+1, 1), api.ErrArg, 5, "the power is gone")
			openError(t, d, api.ErrDown, "the power is gone")
			d.Crash(0, 0)
			opens(t, d, []byte("base"), listed(5), "behind a Crash")
			appends(t, j, nil, api.ErrFull, 5, "cut off, and a Crash")
			rebases(t, j, base, api.OK, 0, "done")
			has(t, d, 3, base, "done")
			full(t, j, 0, 1)
			opens(t, d, base, listed(1), "done")
		}
	}
}

// P6.1: a nil Journal: ErrArg, 0. One that Open did not make has no disk.
func TestNilJournal(t *testing.T) {
	for _, j := range []*Journal{nil, new(Journal)} {
		for range 2 {
			for _, n := range append(wrongRecords(), 0, 1, 49, 50) {
				appends(t, j, marks(n, 1), api.ErrArg, 0, "no journal")
			}
			appends(t, j, nil, api.ErrArg, 0, "no journal")
			for _, n := range append(wrongBases(), baseSizes()...) {
				rebases(t, j, marks(n, 1), api.ErrArg, 0, "no journal")
			}
			rebases(t, j, nil, api.ErrArg, 0, "no journal")
		}
	}
}

// R4: what is handed in is not changed, its spare room neither, and not kept.
func TestNothingHandedInIsKept(t *testing.T) {
	for _, n := range []int{0, 1, 25, 50} {
		d, j := based(t, []byte("base"), 0)
		whole, was := marks(3000, 1), marks(3000, 1)
		rebases(t, j, whole[:n*19], api.OK, 0, "spare room")
		appends(t, j, whole[n:][:n], api.OK, 1, "spare room")
		appends(t, j, whole[:n], api.OK, 2, "spare room")
		appends(t, j, whole, api.ErrArg, 2, "spare room")
		rebases(t, j, whole, api.ErrArg, 2, "spare room")
		d.Fail(1, 1)
		appends(t, j, whole[2:][:n], api.ErrIO, 2, "spare room")
		if !bytes.Equal(whole, was) {
			t.Errorf("%d bytes: what was handed in is changed", n)
		}
		clear(whole)
		list := [][]byte{was[n:][:n], was[:n], was[2:][:n]}
		opens(t, d, was[:n*19], list, "what was handed in is changed")
		d.Crash(0, 0)
		opens(t, d, was[:n*19], list, "what was handed in is changed, Crash")
	}
}

// R4: what Open answers is memory of its own: it may be changed, and may grow, and
// none of that is seen anywhere else.
func TestAnswersAreTheirOwn(t *testing.T) {
	want := marks(100, 1)
	d, _ := based(t, want, api.LogLen-1)
	records := listed(api.LogLen - 1)
	_, base, list, _ := Open(d)
	j, other, others, _ := Open(d)
	_ = append(base, marks(100, 9)...)
	clear(base[:cap(base)])
	for i := range list {
		_ = append(list[i], marks(100, 9)...)
		if i+1 < len(list) && !bytes.Equal(list[i+1], records[i+1]) {
			t.Errorf("record %d runs on into the next one", i)
		}
		clear(list[i][:cap(list[i])])
	}
	clear(list[:cap(list)])
	if !bytes.Equal(other, want) || !slices.EqualFunc(others, records, bytes.Equal) {
		t.Error("two answers share memory")
	}
	opens(t, d, want, records, "a change of what is answered")
	appends(t, j, record(api.LogLen-1), api.OK, api.LogLen, "a change of what is answered")
	opens(t, d, want, listed(api.LogLen), "a change of what is answered")
	rebases(t, j, []byte("new"), api.OK, 0, "later")
	full(t, j, 0, 1)
	if !bytes.Equal(other, want) || !slices.EqualFunc(others, records, bytes.Equal) {
		t.Error("an answer is changed later")
	}
}

// R5: two journals on two disks have nothing of each other.
func TestTwoJournals(t *testing.T) {
	d, j := based(t, []byte("one"), 3)
	o, k := based(t, []byte("two"), 60)
	o.Fail(2, 1)
	rebases(t, k, nil, api.ErrIO, 60, "the other one")
	full(t, j, 3, 5)
	rebases(t, k, []byte("three"), api.OK, 0, "the other one")
	full(t, j, 5, 6)
	opens(t, d, []byte("one"), listed(6), "one")
	opens(t, o, []byte("three"), nil, "the other one")
}

// state is what a journal has.
type state struct {
	base    string
	records []string
}

// with is the state with one more record.
func (s state) with(b []byte) state {
	return state{s.base, append(slices.Clone(s.records), string(b))}
}

// same tells whether both are the same.
func (s state) same(o state) bool {
	return s.base == o.base && slices.Equal(s.records, o.records)
}

// call is an Append of its bytes, or a Rebase to them.
type call struct {
	rebase bool
	b      []byte
}

// done is what there is behind the call, if it is OK.
func (c call) done(s state) state {
	if c.rebase {
		return state{base: string(c.b)}
	}
	return s.with(c.b)
}

// on does the call.
func (c call) on(j *Journal) api.Errno {
	if c.rebase {
		return j.Rebase(c.b)
	}
	return j.Append(c.b)
}

// model is what is known of a journal by what its calls answered.
type model struct {
	has   state   // behind the last call that was OK
	maybe []state // what there may be in its place behind a Crash
	cut   bool    // a Rebase was cut off
}

// answered takes what a call answered.
func (m *model) answered(c call, e api.Errno) {
	switch {
	case e == api.OK:
		m.has, m.maybe = c.done(m.has), nil
		m.cut = m.cut && !c.rebase
	case e != api.ErrArg && e != api.ErrFull:
		m.maybe = append(m.maybe, c.done(m.has))
		m.cut = m.cut || c.rebase
	}
}

// refused is the error that is due whatever the disk does, or OK.
func (m *model) refused(c call) api.Errno {
	switch {
	case c.rebase && len(c.b) > mostBase, !c.rebase && len(c.b) > api.MaxRecord:
		return api.ErrArg
	case !c.rebase && (m.cut || len(m.has.records) == api.LogLen):
		return api.ErrFull
	}
	return api.OK
}

// opened opens d, fails if there is something that the promise does not allow, and
// takes what is there. Behind an Open without a Crash it may be that this is not
// sure, if the disk fails: then it may still be as it was, till something is
// written. The error is the disk's; else nothing is taken.
func (m *model) opened(t *testing.T, d *disk.Disk, what string) (*Journal, api.Errno) {
	t.Helper()
	j, base, list, e := Open(d)
	if e == api.ErrIO || e == api.ErrDown {
		return nil, e
	}
	if e != api.OK || j.Len() != len(list) {
		t.Fatalf("%s: Open: %d, Len %d of %d", what, e, j.Len(), len(list))
	}
	found := state{base: string(base)}
	for _, b := range list {
		found = found.with(b)
	}
	if !m.has.same(found) && !slices.ContainsFunc(m.maybe, found.same) {
		t.Fatalf("%s: %q, want %q, or one of %q", what, found, m.has, m.maybe)
	}
	if len(d.Loose()) == 0 {
		m.maybe = nil
	} else {
		m.maybe = append(m.maybe, m.has)
	}
	m.has, m.cut = found, false
	return j, api.OK
}

// crashed opens d behind a Crash.
func (m *model) crashed(t *testing.T, d *disk.Disk, what string) *Journal {
	t.Helper()
	j, e := m.opened(t, d, what)
	if e != api.OK {
		t.Fatalf("%s: Open: %d", what, e)
	}
	return j
}

// scenes are calls behind each other, with each kind behind each kind.
func scenes() [][]call {
	add := func(n, mark int) call { return call{b: marks(n, mark)} }
	base := func(n, mark int) call { return call{rebase: true, b: marks(n, mark)} }
	return [][]call{
		{add(50, 1), add(0, 2), add(3, 3)},
		{base(0, 1), base(0, 2), base(64, 3)},
		{base(100, 1), base(130, 2), base(30, 3), add(9, 4)},
		{base(64, 1), base(64, 1), base(0, 1), base(64, 1)},
		{add(7, 1), base(200, 2), add(7, 3), base(65, 4), add(7, 5)},
		{base(70, 1), add(5, 2), add(6, 3), base(0, 4), add(5, 5), base(1, 6)},
	}
}

// keeps are which loose sectors a Crash keeps: each choice of so many, if they are
// few, else of the first and of the last ones.
func keeps(loose int) []uint64 {
	const few = 4
	var list []uint64
	for keep := range uint64(1) << min(loose, few) {
		list = append(list, keep)
		if loose > few {
			list = append(list, ^keep, keep<<(loose-few))
		}
	}
	return list
}

// tears are how many bytes of the last sector are new: up to the numbers that
// stand in a sector, and into them.
func tears() []int { return []int{0, 4, 7, 9, 12, 60, 63, 64} }

// modelOf is what is known of what based makes, of that base.
func modelOf(records int) model {
	m := model{has: state{base: "base"}}
	for _, b := range listed(records) {
		m.has = m.has.with(b)
	}
	return m
}

// scene is a journal on which the calls are done that come ahead of the trouble
// which begins behind so many works, and those behind it as the trouble lets
// them; also whether that began at all.
func scene(t *testing.T, calls []call, records, works, failed int) (*disk.Disk, *Journal, model, bool) {
	t.Helper()
	d, j := based(t, []byte("base"), records)
	m := modelOf(records)
	if failed > 0 {
		d.Fail(works, failed)
	} else {
		d.Fuse(works)
	}
	trouble := false
	for _, c := range calls {
		want := m.refused(c)
		e := c.on(j)
		if want != api.OK && e != want {
			t.Fatalf("%v behind %d works: %d, want %d", c, works, e, want)
		}
		m.answered(c, e)
		if j.Len() != len(m.has.records) {
			t.Fatalf("%v behind %d works: Len %d, want %d", c, works, j.Len(), len(m.has.records))
		}
		if e == api.ErrDown {
			return d, j, m, true
		}
		trouble = trouble || e == api.ErrIO
	}
	return d, j, m, trouble
}

// each goes through each Crash behind each work of each scene at which the
// trouble begins: so many failures, or the power's end, if failed is 0.
func each(t *testing.T, failed int, see func(d *disk.Disk, m model, what string)) {
	t.Helper()
	for i, calls := range scenes() {
		for _, records := range []int{0, 1, 62} {
			for works := 0; ; works++ {
				d, _, _, trouble := scene(t, calls, records, works, failed)
				if !trouble {
					break
				}
				for _, keep := range keeps(len(d.Loose())) {
					for _, torn := range tears() {
						d, _, m, _ := scene(t, calls, records, works, failed)
						d.Crash(keep, torn)
						see(d, m, "scene "+strconv.Itoa(i)+", "+strconv.Itoa(records)+" records, "+strconv.Itoa(works)+" works, keep "+strconv.FormatUint(keep, 2)+", torn "+strconv.Itoa(torn))
					}
				}
			}
		}
	}
}

// goesOn fails if what is there behind a Crash is not there any more behind
// further ones, or if it is not there with what is called then.
func goesOn(t *testing.T, d *disk.Disk, m model, what string) {
	t.Helper()
	m.crashed(t, d, what)
	d.Crash(all, size)
	j := m.crashed(t, d, what+", Crash")
	for _, c := range []call{{b: []byte("more")}, {rebase: true, b: marks(70, 7)}, {b: []byte("more")}} {
		want := m.refused(c)
		if e := c.on(j); e != want {
			t.Fatalf("%s, then %v: %d, want %d", what, c, e, want)
		}
		m.answered(c, want)
		d.Crash(0, 0)
		m.crashed(t, d, what+", and more")
	}
}

// P6.2: the power goes at each of the works, whatever the Crash keeps: what was
// there behind the last call that was OK, with the one that the power went in, or
// without.
func TestPowerGoes(t *testing.T) {
	each(t, 0, func(d *disk.Disk, m model, what string) {
		if len(m.maybe) != 1 {
			t.Fatalf("%s: %d calls without power", what, len(m.maybe))
		}
		goesOn(t, d, m, what)
	})
}

// P6.2: each of the works fails, and some behind it, the calls behind these go on,
// and then there is a Crash.
func TestFailsThenCrash(t *testing.T) {
	for _, failed := range []int{1, 3} {
		each(t, failed, func(d *disk.Disk, m model, what string) { goesOn(t, d, m, what) })
	}
}

// P6.2: both answers come: with the call that the power went in, and without.
func TestWithAndWithout(t *testing.T) {
	for _, c := range []call{{b: []byte("more")}, {rebase: true, b: marks(70, 7)}, {rebase: true}} {
		for _, torn := range []int{0, size} {
			d, j := based(t, []byte("base"), 1)
			works := 1
			if c.rebase {
				works = worksOf(c.b) - 1
			}
			d.Fuse(works)
			if e := c.on(j); e != api.ErrDown {
				t.Fatalf("the last Flush: %d", e)
			}
			d.Crash(1, torn)
			switch {
			case torn == 0:
				opens(t, d, []byte("base"), listed(1), "without")
			case c.rebase:
				opens(t, d, c.b, nil, "with a Rebase")
			default:
				opens(t, d, []byte("base"), append(listed(1), c.b), "with an Append")
			}
		}
	}
}

// P6.2: a Rebase that was cut off is tried again with other bytes, and cut off
// again, at each of the works of both.
func TestCutOffTwice(t *testing.T) {
	for _, first := range [][]byte{nil, marks(64, 1), marks(130, 2)} {
		for _, second := range [][]byte{nil, marks(64, 3), marks(130, 4), first} {
			for one := range worksOf(first) {
				for two := range worksOf(second) {
					for _, keep := range keeps(4) {
						d, j := cutOff(t, first, 2, one, 1)
						m := modelOf(2)
						m.answered(call{rebase: true, b: first}, api.ErrIO)
						d.Fuse(two)
						rebases(t, j, second, api.ErrDown, 2, "cut off twice")
						m.answered(call{rebase: true, b: second}, api.ErrDown)
						d.Crash(keep, size)
						goesOn(t, d, m, "cut off twice")
					}
				}
			}
		}
	}
}

// failing are calls of each kind.
func failing() []call {
	return []call{{b: marks(9, 5)}, {b: nil}, {rebase: true}, {rebase: true, b: marks(64, 6)}, {rebase: true, b: marks(130, 7)}}
}

// left is a journal of which one call failed behind so many works, and what is
// known of it; also whether that call had so many.
func left(t *testing.T, c call, records, works int) (*disk.Disk, model, bool) {
	t.Helper()
	d, j := based(t, []byte("base"), records)
	m := modelOf(records)
	d.Fail(works, 1)
	e := c.on(j)
	d.Fail(0, 0)
	m.answered(c, e)
	return d, m, e == api.ErrIO
}

// eachLeft goes through each work of each call at which that may fail.
func eachLeft(t *testing.T, see func(d *disk.Disk, m model, again func() (*disk.Disk, model))) {
	t.Helper()
	for _, c := range failing() {
		for _, records := range []int{0, 1, 63} {
			for works := 0; ; works++ {
				d, m, failed := left(t, c, records, works)
				if !failed {
					break
				}
				see(d, m, func() (*disk.Disk, model) {
					d, m, _ := left(t, c, records, works)
					return d, m
				})
			}
		}
	}
}

// unsettled is d's journal, opened without a Crash, on a disk that does each of the
// Open's Reads and nothing more: what was loose is so still.
func unsettled(t *testing.T, d *disk.Disk, m *model) *Journal {
	t.Helper()
	loose := d.Loose()
	for works := range api.DiskSectors {
		d.Fail(works, math.MaxInt)
		j, e := m.opened(t, d, "a disk that fails")
		d.Fail(0, 0)
		if e == api.OK {
			isLoose(t, d, "a disk that fails", loose...)
			return j
		}
	}
	t.Fatal("Open never ends")
	return nil
}

// P6.2: what an Open finds without a Crash is sure behind it, whatever a Crash
// keeps; nothing is loose.
func TestOpenMakesSure(t *testing.T) {
	eachLeft(t, func(_ *disk.Disk, _ model, again func() (*disk.Disk, model)) {
		for _, keep := range []uint64{0, 1, 2, all} {
			d, m := again()
			m.crashed(t, d, "without a Crash")
			isLoose(t, d, "Open")
			d.Crash(keep, 30)
			goesOn(t, d, m, "Open, Crash")
		}
	})
}

// P6.1: an Open whose Reads are done is OK, and finds what it would, also if the
// disk does nothing behind them.
func TestOpenOnAFailingDisk(t *testing.T) {
	eachLeft(t, func(d *disk.Disk, m model, again func() (*disk.Disk, model)) {
		o, n := again()
		m.crashed(t, d, "without trouble")
		if unsettled(t, o, &n); !m.has.same(n.has) {
			t.Fatalf("%q, want %q", n.has, m.has)
		}
	})
}

// P6.2: a call fails, there is an Open without a Crash, whose findings are sure or
// not, a second call fails, or the power goes in it, at each of the works, and then
// there is a Crash, whatever it keeps.
func TestOpenBetweenFailures(t *testing.T) {
	eachLeft(t, func(_ *disk.Disk, _ model, again func() (*disk.Disk, model)) {
		for i, c := range slices.Repeat(failing(), 4) {
			settled, power := i%2 == 0, i/10 == 0
			try := func(works int) (*disk.Disk, model, api.Errno) {
				d, m := again()
				j := (*Journal)(nil)
				if settled {
					j = m.crashed(t, d, "without a Crash")
				} else {
					j = unsettled(t, d, &m)
				}
				if power {
					d.Fuse(works)
				} else {
					d.Fail(works, 1)
				}
				want := m.refused(c)
				e := c.on(j)
				if want != api.OK && e != want {
					t.Fatalf("%v: %d, want %d", c, e, want)
				}
				m.answered(c, e)
				return d, m, e
			}
			for works := 0; ; works++ {
				d, _, e := try(works)
				for keep := range uint64(1) << min(len(d.Loose()), 3) {
					d, m, _ := try(works)
					d.Crash(keep, size)
					m.crashed(t, d, "behind two that failed")
				}
				if e != api.ErrIO && e != api.ErrDown {
					break
				}
			}
		}
	})
}

// P6.2: what the Open found without a Crash, and could not make sure, is so behind
// the next call that is OK.
func TestSureBehindTheNextCall(t *testing.T) {
	eachLeft(t, func(_ *disk.Disk, _ model, again func() (*disk.Disk, model)) {
		for _, c := range failing() {
			d, m := again()
			j := unsettled(t, d, &m)
			want := m.refused(c)
			if e := c.on(j); e != want {
				t.Fatalf("%v: %d, want %d", c, e, want)
			}
			m.answered(c, want)
			if want == api.OK {
				isLoose(t, d, "the next call")
			}
			d.Crash(0, 0)
			goesOn(t, d, m, "the next call")
		}
	})
}

// P6.1: where the Open could not make sure what it found: ErrArg and ErrFull come
// ahead of all work, as ever; else a call answers the disk's error ahead of what it
// writes, and a Rebase that did is cut off.
func TestUnsettledCalls(t *testing.T) {
	d, m, _ := left(t, call{rebase: true, b: []byte("new")}, 3, worksOf([]byte("new"))-1)
	j := unsettled(t, d, &m)
	head := d.Loose()
	refused := func() {
		appends(t, j, marks(51, 1), api.ErrArg, 0, "unsure")
		rebases(t, j, marks(mostBase+1, 1), api.ErrArg, 0, "unsure")
	}
	noWork(t, d, "unsure, ErrArg", refused)
	for range 3 {
		d.Fail(0, 1)
		appends(t, j, []byte("one"), api.ErrIO, 0, "unsure")
		isLoose(t, d, "nothing is written", head...)
	}
	d.Fail(0, 1)
	rebases(t, j, []byte("newer"), api.ErrIO, 0, "unsure")
	isLoose(t, d, "nothing is written", head...)
	noWork(t, d, "unsure, cut off", func() {
		appends(t, j, []byte("one"), api.ErrFull, 0, "unsure, cut off")
		refused()
	})
	rebases(t, j, []byte("newer"), api.OK, 0, "done")
	has(t, d, 4, []byte("newer"), "done")
	appends(t, j, []byte("one"), api.OK, 1, "done")
	d.Fail(2, 1)
	appends(t, j, []byte("two"), api.OK, 2, "two works, as ever")
	d.Crash(0, 0)
	opens(t, d, []byte("newer"), [][]byte{[]byte("one"), []byte("two")}, "done")
}

// P6.1: a full journal whose last record is not sure: ErrFull, and no work.
func TestUnsettledFull(t *testing.T) {
	d, m, _ := left(t, call{b: []byte("last")}, api.LogLen-1, 1)
	j := unsettled(t, d, &m)
	noWork(t, d, "unsure, full", func() {
		appends(t, j, []byte("one"), api.ErrFull, api.LogLen, "unsure, full")
	})
	isLoose(t, d, "unsure, full", api.LogLen-1)
}

// P6.1: Open flushes if one of the log's sectors or the slots' is loose, and only
// then: of others none is sure then, and no work is done for them.
func TestOpenLeavesOthers(t *testing.T) {
	for n := range api.DiskSectors {
		d, _ := based(t, []byte("base"), 1)
		written(t, d, n, image(t, d)[n*size:][:size])
		written(t, d, api.FileAt, marks(size, 2))
		d.Fail(readsOf([]byte("first"), []byte("base"), 1), 1)
		opens(t, d, []byte("base"), listed(1), "loose")
		_, e := d.Read(0)
		if own := n < api.FileAt; own != (e == api.OK) {
			t.Errorf("sector %d is loose: the work behind the Reads: %d", n, e)
		}
		if opens(t, d, []byte("base"), listed(1), "loose"); n < api.FileAt {
			isLoose(t, d, "the journal's")
		} else {
			isLoose(t, d, "another one's", slices.Compact([]int{api.FileAt, n})...)
		}
	}
}

// P6.1, P6.2: many calls in a row, right and wrong ones, with failures and
// crashes, held against what the calls answered.
func TestManyCalls(t *testing.T) {
	seed := uint64(6)
	next := func(n int) int {
		seed = seed*6364136223846793005 + 1442695040888963407
		return int((seed >> 33) % uint64(n))
	}
	for range 40 {
		d := filled(t, api.DiskSectors)
		j, m := opened(t, d), model{}
		for step := range 2000 {
			what := "step " + strconv.Itoa(step)
			switch kind := next(60); {
			case kind < 45:
				c := call{kind < 5, marks(next(52), step)}
				if c.rebase {
					c.b = marks([]int{next(200), next(1000)}[next(2)], step)
				}
				want := m.refused(c)
				e := c.on(j)
				if want != api.OK && e != want || want == api.OK && (e == api.ErrArg || e == api.ErrFull) {
					t.Fatalf("%s: %v: %d, want %d", what, c, e, want)
				}
				if m.answered(c, e); j.Len() != len(m.has.records) {
					t.Fatalf("%s: %v: Len %d, want %d", what, c, j.Len(), len(m.has.records))
				}
			case kind < 48:
				if other, e := m.opened(t, d, what); e == api.OK {
					j = other
				}
			case kind < 54:
				d.Fail(next(9), next(4))
			case kind < 56:
				d.Fuse(next(12))
			default:
				d.Crash(uint64(next(64)), next(size+1))
				j = m.crashed(t, d, what)
			}
		}
	}
}
