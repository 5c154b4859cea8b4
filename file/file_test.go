package file

import (
	"bytes"
	"headland/api"
	"headland/disk"
	"headland/journal"
	"math"
	"slices"
	"strconv"
	"testing"
)

const (
	size = api.PageSize
	most = 4096           // sectors of the largest disk
	all  = math.MaxUint64 // keeps each loose sector that can be kept
)

// spot is a page of a file or a slot: its calls, and the sector that it must lie at.
type spot struct {
	name   string
	sector int
	read   func(d *disk.Disk) ([]byte, api.Errno)
	write  func(d *disk.Disk, b []byte) api.Errno
}

// pageSpot is a page of a file.
func pageSpot(file, page, sector int) spot {
	return spot{
		name:   "file " + strconv.Itoa(file) + ", page " + strconv.Itoa(page),
		sector: sector,
		read:   func(d *disk.Disk) ([]byte, api.Errno) { return Read(d, file, page) },
		write:  func(d *disk.Disk, b []byte) api.Errno { return Write(d, file, page, b) },
	}
}

// slotSpot is a slot.
func slotSpot(slot, sector int) spot {
	return spot{
		name:   "slot " + strconv.Itoa(slot),
		sector: sector,
		read:   func(d *disk.Disk) ([]byte, api.Errno) { return ReadSlot(d, slot) },
		write:  func(d *disk.Disk, b []byte) api.Errno { return WriteSlot(d, slot, b) },
	}
}

// spots are all pages of all files, and all slots. Their sectors are not reckoned,
// but counted on from 96.
func spots() []spot {
	var list []spot
	for file := range 4 {
		for page := range 16 {
			list = append(list, pageSpot(file, page, 96+len(list)))
		}
	}
	for slot := range 32 {
		list = append(list, slotSpot(slot, 96+len(list)))
	}
	return list
}

// few are one spot of each kind, and the first and the last of each.
func few() []spot {
	list := spots()
	return []spot{list[0], list[63], list[64], list[95], list[37], list[80]}
}

// wide are numbers beyond all ends, many of which are one that may be in the lowest
// bits alone, or when they are taken 16 times.
func wide() []int {
	list := []int{math.MinInt, math.MinInt + 1, math.MaxInt - 1, math.MaxInt, math.MinInt32, math.MaxInt32}
	for _, n := range []int{0, 1, 3, 15, 31} {
		for _, shift := range []int{8, 16, 31, 32, 40, 58, 59, 60, 61, 62} {
			list = append(list, 1<<shift+n, -1<<shift+n)
		}
	}
	return list
}

// outside are numbers below 0, and from end on: near ones, and wide ones.
func outside(end int) []int {
	list := wide()
	for n := -200; n < 200; n++ {
		list = append(list, n)
	}
	return slices.DeleteFunc(list, func(n int) bool { return n >= 0 && n < end })
}

// noPages are pages that there are not: of no file, of a file and not of it, and
// both. Of the greatest disk many of them would be a sector.
func noPages() []spot {
	var list []spot
	for _, file := range outside(4) {
		for page := range 16 {
			list = append(list, pageSpot(file, page, -1))
		}
		for _, page := range []int{-1, 16, -16 * file, 16 - 16*file, math.MinInt, math.MaxInt} {
			list = append(list, pageSpot(file, page, -1))
		}
	}
	for _, page := range outside(16) {
		for file := range 4 {
			list = append(list, pageSpot(file, page, -1))
		}
	}
	return list
}

// noSlots are slots that there are not. Of the greatest disk many of them would be a
// sector: all that there are ahead of the slots, and all behind them.
func noSlots() []spot {
	var list []spot
	for _, slot := range outside(32) {
		list = append(list, slotSpot(slot, -1))
	}
	for slot := 200; slot < most+200; slot++ {
		list = append(list, slotSpot(slot, -1))
	}
	return list
}

// wrongBytes are such that are no page: none, nil, one too few, one too many.
func wrongBytes() [][]byte {
	list := [][]byte{nil, {}, make([]byte, 0, 2*size)}
	for _, n := range []int{1, 2, size / 2, size - 2, size - 1, size + 1, size + 2, 2 * size, 256 + size, 1<<16 + size} {
		list = append(list, numbered(0, 1, n))
	}
	return list
}

// numbered are n bytes that are other ones for each number and mark.
func numbered(number, mark, n int) []byte {
	b := make([]byte, n)
	for i := range b {
		b[i] = byte(1 + number*(2*i+1) + mark*(5*i+3) + number>>8*(i+7))
	}
	return b
}

// page are the PageSize bytes of a number and a mark.
func page(number, mark int) []byte {
	return numbered(number, mark, size)
}

// filled is a disk whose sector n has the sure bytes page(n, 1).
func filled(t *testing.T, sectors int) *disk.Disk {
	t.Helper()
	d := disk.New(sectors)
	for n := range sectors {
		if e := d.Write(n, page(n, 1)); e != api.OK {
			t.Fatalf("Write(%d, ..): %d", n, e)
		}
	}
	flushed(t, d)
	return d
}

// flushed flushes d, or fails.
func flushed(t *testing.T, d *disk.Disk) {
	t.Helper()
	if e := d.Flush(); e != api.OK {
		t.Fatalf("Flush: %d", e)
	}
}

// asFilled fails if a sector that is not one of but is not as filled left it.
func asFilled(t *testing.T, d *disk.Disk, what string, but ...int) {
	t.Helper()
	for n := range d.Sectors() {
		if slices.Contains(but, n) {
			continue
		}
		if b, e := d.Read(n); e != api.OK || !bytes.Equal(b, page(n, 1)) {
			t.Errorf("%s: sector %d: % x %d, want % x", what, n, b, e, page(n, 1))
		}
	}
}

// wrote writes b to s, or fails.
func wrote(t *testing.T, d *disk.Disk, s spot, b []byte) {
	t.Helper()
	if e := s.write(d, b); e != api.OK {
		t.Fatalf("%s: written: %d", s.name, e)
	}
}

// has fails if s does not answer b, or its sector does not have it.
func has(t *testing.T, d *disk.Disk, s spot, b []byte, what string) {
	t.Helper()
	if got, e := s.read(d); e != api.OK || !bytes.Equal(got, b) {
		t.Errorf("%s: %s: % x %d, want % x", what, s.name, got, e, b)
	}
	if got, e := d.Read(s.sector); e != api.OK || !bytes.Equal(got, b) {
		t.Errorf("%s: %s: sector %d has % x %d, want % x", what, s.name, s.sector, got, e, b)
	}
}

// looseAre fails if other sectors are loose.
func looseAre(t *testing.T, d *disk.Disk, what string, want ...int) {
	t.Helper()
	if got := d.Loose(); !slices.Equal(got, want) {
		t.Errorf("%s: loose are %v, want %v", what, got, want)
	}
}

// answers fails if both calls of s do not answer that error, and nothing beside it.
func answers(t *testing.T, d *disk.Disk, s spot, want api.Errno, what string) {
	t.Helper()
	if b, e := s.read(d); e != want || len(b) != 0 {
		t.Errorf("%s: %s: read: % x %d, want %d", what, s.name, b, e, want)
	}
	if e := s.write(d, page(0, 2)); e != want {
		t.Errorf("%s: %s: written: %d, want %d", what, s.name, e, want)
	}
}

// refused fails if one call of what may not be does not answer ErrArg: of wrong
// spots, with right bytes and wrong ones, and of right spots with wrong bytes.
func refused(t *testing.T, d *disk.Disk, wrong []spot, what string) {
	t.Helper()
	for _, s := range wrong {
		answers(t, d, s, api.ErrArg, what)
	}
	for _, b := range wrongBytes() {
		for _, s := range append(few(), wrong[0], wrong[len(wrong)-1]) {
			if e := s.write(d, b); e != api.ErrArg {
				t.Errorf("%s: %s: %d bytes written: %d", what, s.name, len(b), e)
			}
		}
	}
}

// P14.1: the chapter's example: file 0, page 0: sector 96.
func TestExample(t *testing.T) {
	d := disk.New(api.DiskSectors)
	if e := Write(d, 0, 0, page(0, 0)); e != api.OK {
		t.Fatalf("Write: %d", e)
	}
	looseAre(t, d, "file 0, page 0", 96)
	if b, e := d.Read(96); e != api.OK || !bytes.Equal(b, page(0, 0)) {
		t.Errorf("sector 96: % x %d", b, e)
	}
}

// P14.1: the first and the last page of each file, and the first and the last slot,
// at sectors that are written out.
func TestKnownSectors(t *testing.T) {
	for _, s := range []spot{
		pageSpot(0, 0, 96), pageSpot(0, 1, 97), pageSpot(0, 15, 111),
		pageSpot(1, 0, 112), pageSpot(1, 15, 127),
		pageSpot(2, 0, 128), pageSpot(2, 7, 135), pageSpot(2, 15, 143),
		pageSpot(3, 0, 144), pageSpot(3, 15, 159),
		slotSpot(0, 160), slotSpot(1, 161), slotSpot(16, 176), slotSpot(30, 190), slotSpot(31, 191),
	} {
		d := filled(t, api.DiskSectors)
		has(t, d, s, page(s.sector, 1), "ahead")
		wrote(t, d, s, page(7, 2))
		looseAre(t, d, s.name, s.sector)
		has(t, d, s, page(7, 2), "written")
	}
}

// P14.1: each page and each slot is written to its sector, and to no other one; it is
// loose, and sure behind a Flush.
func TestEachIsWrittenToItsSector(t *testing.T) {
	for _, s := range spots() {
		d := filled(t, api.DiskSectors)
		for mark := 2; mark < 4; mark++ {
			wrote(t, d, s, page(s.sector, mark))
			looseAre(t, d, s.name, s.sector)
			has(t, d, s, page(s.sector, mark), "loose")
			flushed(t, d)
			looseAre(t, d, s.name)
			has(t, d, s, page(s.sector, mark), "sure")
			d.Crash(0, 0)
			has(t, d, s, page(s.sector, mark), "sure, behind a Crash")
		}
		asFilled(t, d, s.name, s.sector)
	}
}

// P14.1: each page and each slot is read from its sector, sure or loose; to read
// changes nothing.
func TestEachIsReadFromItsSector(t *testing.T) {
	d := filled(t, api.DiskSectors)
	for _, s := range spots() {
		has(t, d, s, page(s.sector, 1), "sure")
		if e := d.Write(s.sector, page(s.sector, 2)); e != api.OK {
			t.Fatalf("Write(%d, ..): %d", s.sector, e)
		}
		has(t, d, s, page(s.sector, 2), "loose")
		looseAre(t, d, s.name, s.sector)
		d.Crash(0, 0)
		has(t, d, s, page(s.sector, 1), "behind a Crash")
		looseAre(t, d, s.name)
	}
	asFilled(t, d, "reads")
}

// P14.1: bytes of any kind come back as they were.
func TestAnyBytes(t *testing.T) {
	d := filled(t, api.DiskSectors)
	for _, s := range spots() {
		for _, b := range [][]byte{make([]byte, size), bytes.Repeat([]byte{0xff}, size), page(3, 5), make([]byte, size, 3*size)} {
			wrote(t, d, s, b)
			has(t, d, s, b, "bytes of any kind")
		}
	}
}

// P14.1: a page, and a slot, of a new disk is 0.
func TestNewDiskIsZero(t *testing.T) {
	for _, s := range spots() {
		has(t, disk.New(api.DiskSectors), s, make([]byte, size), "a new disk")
	}
}

// P14.1: no two pages, no two slots, and no page and slot share a sector: all of them
// keep what each was given.
func TestNoTwoShareASector(t *testing.T) {
	d := filled(t, api.DiskSectors)
	taken := map[int]string{}
	for _, s := range spots() {
		wrote(t, d, s, page(s.sector, 2))
		one := d.Loose()
		if len(one) != 1 || taken[one[0]] != "" {
			t.Fatalf("%s: at %v, with %q", s.name, one, taken[one[0]])
		}
		taken[one[0]] = s.name
		flushed(t, d)
	}
	if len(taken) != 4*16+32 {
		t.Errorf("%d sectors", len(taken))
	}
	for _, s := range spots() {
		has(t, d, s, page(s.sector, 2), "all written")
	}
}

// kept fails if a journal on d is not that, opened anew.
func kept(t *testing.T, d *disk.Disk, base []byte, records [][]byte) *journal.Journal {
	t.Helper()
	j, b, list, e := journal.Open(d)
	if e != api.OK || !bytes.Equal(b, base) || !slices.EqualFunc(list, records, bytes.Equal) {
		t.Fatalf("Open: %d bytes and %d records, %d; want %d and %d", len(b), len(list), e, len(base), len(records))
	}
	return j
}

// rebased makes base all that there is in j, and then as many records as there is
// room for. It answers these.
func rebased(t *testing.T, j *journal.Journal, base []byte, mark int) [][]byte {
	t.Helper()
	if e := j.Rebase(base); e != api.OK {
		t.Fatalf("Rebase: %d", e)
	}
	var records [][]byte
	for n := range api.LogLen {
		b := numbered(n, mark, api.MaxRecord)
		if e := j.Append(b); e != api.OK {
			t.Fatalf("Append %d: %d", n, e)
		}
		records = append(records, b)
	}
	return records
}

// P14.1: no page and no slot lies where a journal has its log and its slots: a journal
// that fills all of these, in either slot, and all pages and slots go on beside each
// other.
func TestBesideAJournal(t *testing.T) {
	d := disk.New(api.DiskSectors)
	j := kept(t, d, nil, nil)
	for round := range 4 {
		base := numbered(round, 3, (api.SlotLen-1)*size)
		records := rebased(t, j, base, round+4)
		for _, s := range spots() {
			wrote(t, d, s, page(s.sector, round+2))
		}
		if l := d.Loose(); len(l) != 96 || l[0] < api.SlotAt+2*api.SlotLen {
			t.Errorf("loose are %v", l)
		}
		flushed(t, d)
		d.Crash(0, 0)
		j = kept(t, d, base, records)
		records = rebased(t, j, base[1:], round+9)
		j = kept(t, d, base[1:], records)
		for _, s := range spots() {
			has(t, d, s, page(s.sector, round+2), "beside a journal")
		}
	}
}

// P14.1: ErrArg of files, pages and slots that there are not: near, far, and such as
// wrap round; of the greatest disk, too, where there would be a sector. Nothing of the
// disk is changed, sure or loose.
func TestNoSuchPlace(t *testing.T) {
	for _, sectors := range []int{api.DiskSectors, most} {
		d := filled(t, sectors)
		wrong := append(noPages(), noSlots()...)
		refused(t, d, wrong, "no such place")
		looseAre(t, d, "no such place")
		asFilled(t, d, "no such place")
		wrote(t, d, pageSpot(1, 2, 114), page(114, 1))
		refused(t, d, wrong, "no such place")
		looseAre(t, d, "no such place", 114)
		asFilled(t, d, "no such place, and one is loose")
	}
}

// P14.1: a page beyond its file, or ahead of it, is no page of the file beside it, and
// a page or a slot beyond the last one is none of the others.
func TestNoPageOfTheNextFile(t *testing.T) {
	d := filled(t, most)
	for file := -6; file < 20; file++ {
		for page := -160; page < 160; page++ {
			if file < 0 || file > 3 || page < 0 || page > 15 {
				answers(t, d, pageSpot(file, page, -1), api.ErrArg, "beside its file")
			}
		}
	}
	for _, slot := range []int{-160, -96, -65, -64, -33, -32, -2, -1, 32, 33, 63, 64, most - 161, most - 160} {
		answers(t, d, slotSpot(slot, -1), api.ErrArg, "beside the slots")
	}
	looseAre(t, d, "beside its file")
	asFilled(t, d, "beside its file")
}

// P14.1: ErrArg, if b has not PageSize bytes, of each page and slot: nothing is
// changed, sure or loose.
func TestWrongBytes(t *testing.T) {
	d := filled(t, api.DiskSectors)
	wrote(t, d, slotSpot(5, 165), page(165, 1))
	for _, s := range spots() {
		for _, b := range wrongBytes() {
			if e := s.write(d, b); e != api.ErrArg {
				t.Errorf("%s: %d bytes: %d", s.name, len(b), e)
			}
		}
	}
	looseAre(t, d, "wrong bytes", 165)
	asFilled(t, d, "wrong bytes")
	d.Crash(all, size)
	asFilled(t, d, "wrong bytes, and a Crash")
}

// P14.1: a nil disk: ErrArg, in each call, of right and of wrong places and bytes.
func TestNilDisk(t *testing.T) {
	for range 2 {
		for _, s := range spots() {
			answers(t, nil, s, api.ErrArg, "a nil disk")
		}
		refused(t, nil, append(noPages(), noSlots()...), "a nil disk")
	}
}

// P14.1: a disk with too few sectors answers its own error, ErrArg, where there is no
// sector, and all others are there; no work is counted. One with more sectors has no
// more pages or slots.
func TestOtherNumbersOfSectors(t *testing.T) {
	for _, sectors := range []int{0, 1, 64, 95, 96, 97, 111, 112, 128, 159, 160, 161, 190, 191, 192, 193, 256, most} {
		d := filled(t, sectors)
		for _, s := range spots() {
			if s.sector < sectors {
				has(t, d, s, page(s.sector, 1), "few sectors")
				wrote(t, d, s, page(s.sector, 2))
				has(t, d, s, page(s.sector, 2), "few sectors")
				wrote(t, d, s, page(s.sector, 1))
				flushed(t, d)
			} else {
				d.Fuse(0)
				answers(t, d, s, api.ErrArg, "few sectors")
				d.Crash(0, 0)
			}
		}
		looseAre(t, d, "few sectors")
		asFilled(t, d, "few sectors")
	}
}

// P14.1: a Disk that New did not make has no sectors.
func TestEmptyDisk(t *testing.T) {
	d := new(disk.Disk)
	for _, s := range spots() {
		answers(t, d, s, api.ErrArg, "an empty disk")
	}
	refused(t, d, append(noPages(), noSlots()...), "an empty disk")
	flushed(t, d)
}

// P14.1: a call with ErrArg is no work: Fail and Fuse go on as ahead of it, whichever
// of the works it stands between.
func TestErrArgIsNoWork(t *testing.T) {
	wrong := []spot{
		pageSpot(-1, 0, -1), pageSpot(4, 0, -1), pageSpot(0, -1, -1), pageSpot(3, 16, -1), pageSpot(math.MinInt, 3, -1),
		slotSpot(-1, -1), slotSpot(32, -1), slotSpot(math.MaxInt, -1),
	}
	for _, sectors := range []int{api.DiskSectors, most} {
		d := filled(t, sectors)
		for range 2 {
			d.Fail(2, 3)
			d.Fuse(7)
			for i, want := range []api.Errno{api.OK, api.OK, api.ErrIO, api.ErrIO, api.ErrIO, api.OK, api.OK, api.ErrDown, api.ErrDown} {
				refused(t, d, wrong, "between works")
				if _, e := d.Read(0); e != want {
					t.Errorf("work %d: %d, want %d", i, e, want)
				}
			}
			refused(t, d, wrong, "behind the power's end")
			looseAre(t, d, "refused calls")
			d.Crash(all, size)
			asFilled(t, d, "refused calls")
		}
	}
}

// calls are the four calls, of a page or a slot that has page(n, 1). A Read that
// answers other bytes, or bytes beside an error, answers a number that no error has.
func calls() []func(d *disk.Disk) api.Errno {
	var list []func(d *disk.Disk) api.Errno
	for _, s := range []spot{pageSpot(2, 3, 131), slotSpot(9, 169)} {
		list = append(list, func(d *disk.Disk) api.Errno {
			b, e := s.read(d)
			if e == api.OK && !bytes.Equal(b, page(s.sector, 1)) || e != api.OK && len(b) != 0 {
				return -1
			}
			return e
		}, func(d *disk.Disk) api.Errno { return s.write(d, page(s.sector, 1)) })
	}
	return list
}

// errs are the errors of ten works of a disk with Fail(first, count), and whose power
// goes behind left of them.
func errs(first, count, left int) []api.Errno {
	list := make([]api.Errno, 10)
	for i := range list {
		switch {
		case i >= left:
			list[i] = api.ErrDown
		case i >= first && i < first+count:
			list[i] = api.ErrIO
		}
	}
	return list
}

// inTurn fails if calls in a row do not answer these errors: all of one kind (from 0
// on), or of the kinds in turn (from -1 downward, beginning with each).
func inTurn(t *testing.T, d *disk.Disk, kind int, want []api.Errno, what string) {
	t.Helper()
	list := calls()
	for i, w := range want {
		k := kind
		if kind < 0 {
			k = (i - kind) % len(list)
		}
		if e := list[k](d); e != w {
			t.Fatalf("%s: call %d, of kind %d: %d, want %d", what, i, k, e, w)
		}
	}
}

// P14.1: the disk's ErrIO: behind first more calls count of them answer it; each call
// is one work.
func TestFail(t *testing.T) {
	for kind := -4; kind < 4; kind++ {
		d := filled(t, api.DiskSectors)
		for first := range 5 {
			for count := range 5 {
				d.Fail(first, count)
				inTurn(t, d, kind, errs(first, count, 10), "Fail")
			}
		}
		asFilled(t, d, "Fail")
	}
}

// P14.1: the disk's ErrDown: behind n more calls the power goes; behind a Crash it is
// there.
func TestFuse(t *testing.T) {
	for kind := -4; kind < 4; kind++ {
		d := filled(t, api.DiskSectors)
		for n := range 6 {
			d.Fuse(n)
			inTurn(t, d, kind, errs(0, 0, n), "Fuse")
			d.Crash(0, 0)
			inTurn(t, d, kind, errs(0, 0, 10), "Fuse, Crash")
			d.Crash(0, 0)
		}
		asFilled(t, d, "Fuse")
	}
}

// P14.1, R2: ErrDown comes ahead of ErrIO, and a call that answers ErrIO counts for a
// Fuse.
func TestFailAndFuse(t *testing.T) {
	for kind := -4; kind < 4; kind++ {
		d := filled(t, api.DiskSectors)
		for first := range 4 {
			for count := range 4 {
				for n := range 8 {
					d.Fail(first, count)
					d.Fuse(n)
					inTurn(t, d, kind, errs(first, count, n), "Fail, Fuse")
					d.Crash(0, 0)
				}
			}
		}
		asFilled(t, d, "Fail, Fuse")
	}
}

// P14.1, R2: ErrArg comes ahead of ErrIO and ErrDown, also of a sector that the disk
// has not.
func TestErrArgFirst(t *testing.T) {
	wrong := append(noPages(), noSlots()...)
	for _, sectors := range []int{96, api.DiskSectors, most} {
		failing, down := filled(t, sectors), filled(t, sectors)
		failing.Fail(0, math.MaxInt)
		down.Fuse(0)
		down.Fail(0, math.MaxInt)
		refused(t, failing, wrong, "a failing disk")
		refused(t, down, wrong, "a disk without power")
		for _, s := range spots() {
			if s.sector < sectors {
				answers(t, failing, s, api.ErrIO, "a failing disk")
				answers(t, down, s, api.ErrDown, "a disk without power")
			} else {
				answers(t, failing, s, api.ErrArg, "few sectors that fail")
				answers(t, down, s, api.ErrArg, "few sectors without power")
			}
		}
	}
}

// P14.1: each page and slot has the disk's errors, and what it was then it is: of what
// is sure and of what is loose, ahead of a Flush, behind it, and behind a Crash.
func TestErrorsChangeNothing(t *testing.T) {
	d := filled(t, api.DiskSectors)
	for _, s := range spots() {
		for _, mark := range []int{1, 2} {
			var loose []int
			if mark == 2 {
				wrote(t, d, s, page(s.sector, mark))
				loose = []int{s.sector}
			}
			d.Fail(0, 2)
			answers(t, d, s, api.ErrIO, "Fail")
			has(t, d, s, page(s.sector, mark), "Fail")
			looseAre(t, d, "Fail", loose...)
			d.Fuse(0)
			answers(t, d, s, api.ErrDown, "Fuse")
			looseAre(t, d, "Fuse", loose...)
			d.Crash(all, size)
			has(t, d, s, page(s.sector, mark), "Crash")
			d.Fail(0, 2)
			answers(t, d, s, api.ErrIO, "Fail")
			flushed(t, d)
			has(t, d, s, page(s.sector, mark), "Flush")
			d.Crash(0, 0)
			has(t, d, s, page(s.sector, mark), "Flush, Crash")
		}
		wrote(t, d, s, page(s.sector, 1))
		flushed(t, d)
	}
	asFilled(t, d, "errors")
}

// P14.1: what is written and not flushed, or whose Flush failed, is loose: a Crash may
// take it away, keep it, or tear it.
func TestCrash(t *testing.T) {
	for _, s := range few() {
		for _, fail := range []bool{false, true} {
			for torn := -1; torn <= size+1; torn++ {
				for keep := range uint64(2) {
					d := filled(t, api.DiskSectors)
					wrote(t, d, s, page(s.sector, 2))
					if fail {
						d.Fail(0, 1)
						if e := d.Flush(); e != api.ErrIO {
							t.Fatalf("Flush: %d", e)
						}
					}
					has(t, d, s, page(s.sector, 2), "ahead of a Crash")
					d.Crash(keep, torn)
					want := page(s.sector, 1)
					copy(want, page(s.sector, 2)[:int(keep)*min(max(torn, 0), size)])
					has(t, d, s, want, "Crash")
					asFilled(t, d, "Crash", s.sector)
				}
			}
		}
	}
}

// P14.1: of many that are loose a Crash keeps each one by itself, in the order of
// sectors.
func TestCrashOfMany(t *testing.T) {
	const keep uint64 = 0x8000_f00d_1234_8765
	d := filled(t, api.DiskSectors)
	for _, s := range slices.Backward(spots()) {
		wrote(t, d, s, page(s.sector, 2))
	}
	d.Crash(keep, size)
	for i, s := range spots() {
		mark := 1
		if i < 64 && keep&(1<<i) != 0 {
			mark = 2
		}
		has(t, d, s, page(s.sector, mark), "Crash of many")
	}
}

// P14.1: a write that fails does not take another one's place, and the next one is as
// if it had never been.
func TestWriteBehindErrors(t *testing.T) {
	d := filled(t, api.DiskSectors)
	for _, s := range spots() {
		d.Fail(0, 1)
		if e := s.write(d, page(s.sector, 3)); e != api.ErrIO {
			t.Errorf("%s: %d", s.name, e)
		}
		wrote(t, d, s, page(s.sector, 2))
		d.Fuse(0)
		if e := s.write(d, page(s.sector, 3)); e != api.ErrDown {
			t.Errorf("%s: %d", s.name, e)
		}
		d.Crash(1, size)
		has(t, d, s, page(s.sector, 2), "behind errors")
	}
}

// R4: what is handed in is not changed and not kept, its spare room neither, whether
// the call is done or refused.
func TestHandedInIsNotKept(t *testing.T) {
	for _, s := range spots() {
		d := filled(t, api.DiskSectors)
		whole := append(page(1, 5), page(2, 5)...)
		wrote(t, d, s, whole[:size])
		flushed(t, d)
		wrote(t, d, s, whole[:size])
		d.Crash(1, 9)
		s.write(d, whole)
		s.write(d, whole[:size-1])
		d.Fail(0, 1)
		s.write(d, whole[:size])
		pageSpot(4, 0, -1).write(d, whole[:size])
		slotSpot(32, -1).write(d, whole[:size])
		if !bytes.Equal(whole, append(page(1, 5), page(2, 5)...)) {
			t.Errorf("%s: what was handed in is changed: % x", s.name, whole)
		}
		for _, flush := range []bool{false, true} {
			copy(whole, page(3, 5))
			wrote(t, d, s, whole[:size])
			clear(whole)
			has(t, d, s, page(3, 5), "what was handed in is changed, loose")
			if flush {
				flushed(t, d)
			}
			copy(whole, page(4, 5))
			has(t, d, s, page(3, 5), "what was handed in is changed, loose or sure")
		}
	}
}

// R4: what is answered is memory of its own: it may be changed, and may grow, without
// being seen on the disk or in another answer, and no later call changes it.
func TestAnsweredIsItsOwn(t *testing.T) {
	for _, s := range spots() {
		for _, flush := range []bool{false, true} {
			d := filled(t, api.DiskSectors)
			wrote(t, d, s, page(s.sector, 2))
			if flush {
				flushed(t, d)
			}
			one, _ := s.read(d)
			two, _ := s.read(d)
			clear(one[:cap(one)])
			_ = append(one, make([]byte, 2*size)...)
			has(t, d, s, page(s.sector, 2), "a change of what is answered")
			wrote(t, d, s, one)
			flushed(t, d)
			d.Crash(0, 0)
			wrote(t, d, s, page(s.sector, 3))
			if !bytes.Equal(two, page(s.sector, 2)) {
				t.Errorf("%s: an answer is changed: % x", s.name, two)
			}
			asFilled(t, d, "a change of what is answered", s.sector)
		}
	}
}

// R5: nothing is kept but on the disk: calls of one do not change another, and one
// that is new is as ever.
func TestDisksApart(t *testing.T) {
	d, other := filled(t, api.DiskSectors), filled(t, api.DiskSectors)
	for _, s := range spots() {
		wrote(t, d, s, page(s.sector, 2))
		has(t, other, s, page(s.sector, 1), "another disk")
		has(t, disk.New(api.DiskSectors), s, make([]byte, size), "a new disk")
	}
	d.Fuse(0)
	answers(t, d, spots()[0], api.ErrDown, "Fuse")
	looseAre(t, other, "another disk")
	asFilled(t, other, "another disk")
}

// twins are two disks that all is done to alike: to one by file's calls, to the other
// by the disk's own.
type twins struct{ one, two *disk.Disk }

// read holds a read against what the sector has, if there is a spot.
func (w twins) read(t *testing.T, s spot) {
	t.Helper()
	var b []byte
	want := api.ErrArg
	if s.sector >= 0 {
		b, want = w.two.Read(s.sector)
	}
	if got, e := s.read(w.one); e != want || !bytes.Equal(got, b) {
		t.Fatalf("%s: read: % x %d, want % x %d", s.name, got, e, b, want)
	}
}

// write holds a write against that of the sector, if there is a spot.
func (w twins) write(t *testing.T, s spot, b []byte) {
	t.Helper()
	want := api.ErrArg
	if s.sector >= 0 {
		want = w.two.Write(s.sector, b)
	}
	if e := s.write(w.one, b); e != want {
		t.Fatalf("%s: %d bytes written: %d, want %d", s.name, len(b), e, want)
	}
}

// both does to both disks what is not file's.
func (w twins) both(do func(d *disk.Disk)) {
	do(w.one)
	do(w.two)
}

// P14.1, R5: many calls in a row, right and wrong ones, on disks of several sizes that
// fail, whose power goes, and that crash: the same as the disk's own calls of these
// sectors, with the same sectors loose.
func TestManyCalls(t *testing.T) {
	seed := uint64(14)
	next := func(n int) int {
		seed = seed*6364136223846793005 + 1442695040888963407
		return int((seed >> 33) % uint64(n))
	}
	right, wrong := spots(), append(noPages(), noSlots()...)
	for round := range 40 {
		w := twins{one: disk.New(150 + 10*(round%8)), two: disk.New(150 + 10*(round%8))}
		for step := range 2000 {
			s := right[next(len(right))]
			if next(20) == 0 {
				s = wrong[next(len(wrong))]
			}
			switch kind := next(100); {
			case kind < 45:
				w.read(t, s)
			case kind < 85:
				w.write(t, s, page(step, round))
			case kind < 88:
				w.write(t, s, wrongBytes()[next(len(wrongBytes()))])
			case kind < 92:
				w.both(func(d *disk.Disk) { d.Flush() })
			case kind < 96:
				first, count := next(9), next(5)
				w.both(func(d *disk.Disk) { d.Fail(first, count) })
			case kind < 97:
				n := next(40)
				w.both(func(d *disk.Disk) { d.Fuse(n) })
			default:
				keep, torn := uint64(next(1<<31))<<33^uint64(next(1<<31)), next(size+1)
				w.both(func(d *disk.Disk) { d.Crash(keep, torn) })
			}
			looseAre(t, w.one, "many calls", w.two.Loose()...)
		}
		w.both(func(d *disk.Disk) { d.Crash(0, 0) })
		for n := range w.two.Sectors() {
			got, _ := w.one.Read(n)
			if want, _ := w.two.Read(n); !bytes.Equal(got, want) {
				t.Errorf("sector %d: % x, want % x", n, got, want)
			}
		}
	}
}
