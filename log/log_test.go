package log

import (
	"bytes"
	"encoding/binary"
	"encoding/hex"
	"hash/fnv"
	"headland/api"
	"headland/disk"
	"math"
	"slices"
	"strings"
	"testing"
)

const (
	size = api.PageSize
	all  = math.MaxUint64 // keeps each loose sector that can be kept
)

// gens are numbers at the ends of uint32, and such that differ from each other
// in one byte, or in its place.
func gens() []uint32 {
	return []uint32{0, 1, 2, 7, 0x100, 0x10000, 0x1000000, 0x01020304, 0x04030201, math.MaxInt32, 1 << 31, math.MaxUint32 - 1, math.MaxUint32}
}

// wrongPlaces are numbers that no record has.
func wrongPlaces() []int {
	return []int{-1, -2, -63, -64, -65, 64, 65, 127, 128, 256, api.DiskSectors - 1, api.DiskSectors, 1 << 32, 1<<32 + 1, -1 << 32, 1<<32 - 1,
		math.MinInt, math.MinInt + 1, math.MaxInt, math.MaxInt - 1, math.MinInt32, math.MaxInt32}
}

// wrongSizes are numbers of bytes that no record has.
func wrongSizes() []int {
	return []int{51, 52, 55, 56, 59, 60, 63, 64, 65, 255, 256, 257, 256 + 50, 512, 1 << 16, 1<<16 + 1}
}

// marks are n bytes none of which is 0; they are other ones for each mark.
func marks(n, mark int) []byte {
	b := make([]byte, n)
	for i := range b {
		b[i] = byte(1 + (i*7+mark*31)%255)
	}
	return b
}

// summed makes the last four bytes of s the sum of those ahead, by the library.
func summed(s []byte) []byte {
	h := fnv.New64a()
	h.Write(s[:60])
	v := h.Sum64()
	binary.LittleEndian.PutUint32(s[60:], uint32(v>>32)^uint32(v))
	return s
}

// image is a record's sector as the chapter tells it, by other means.
func image(gen uint32, n int, b []byte) []byte {
	s := binary.LittleEndian.AppendUint32(nil, gen)
	s = binary.LittleEndian.AppendUint32(s, uint32(n))
	s = append(append(s, byte(len(b))), b...)
	return summed(append(s, make([]byte, size-len(s))...))
}

// filler is what stands in sector n of a disk ahead of all.
func filler(n int) []byte {
	return append(marks(size-1, n+3), byte(n))
}

// filled is a disk whose sectors have other bytes than 0, all of them sure. None
// of them is a record.
func filled(t *testing.T, sectors int) *disk.Disk {
	t.Helper()
	d := disk.New(sectors)
	for n := range sectors {
		written(t, d, n, filler(n))
	}
	flushed(t, d)
	return d
}

// written writes b to sector n, or fails.
func written(t *testing.T, d *disk.Disk, n int, b []byte) {
	t.Helper()
	if e := d.Write(n, b); e != api.OK {
		t.Fatalf("Write(%d, ..): %d", n, e)
	}
}

// flushed flushes d, or fails.
func flushed(t *testing.T, d *disk.Disk) {
	t.Helper()
	if e := d.Flush(); e != api.OK {
		t.Fatalf("Flush: %d", e)
	}
}

// appended appends b, or fails.
func appended(t *testing.T, d *disk.Disk, gen uint32, at int, b []byte) {
	t.Helper()
	if e := Append(d, gen, at, b); e != api.OK {
		t.Fatalf("Append(%d, %d, %d bytes): %d", gen, at, len(b), e)
	}
}

// holds fails if sector n does not have the bytes b.
func holds(t *testing.T, d *disk.Disk, n int, b []byte, what string) {
	t.Helper()
	if got, e := d.Read(n); e != api.OK || !bytes.Equal(got, b) {
		t.Errorf("%s: sector %d: % x %d, want % x", what, n, got, e, b)
	}
}

// asFilled fails if a sector that is not one of but is not as filled left it.
func asFilled(t *testing.T, d *disk.Disk, what string, but ...int) {
	t.Helper()
	for n := range d.Sectors() {
		if !slices.Contains(but, n) {
			holds(t, d, n, filler(n), what)
		}
	}
}

// replays fails if Replay does not answer these records.
func replays(t *testing.T, d *disk.Disk, gen uint32, want [][]byte, what string) {
	t.Helper()
	if got, e := Replay(d, gen); e != api.OK || !slices.EqualFunc(got, want, bytes.Equal) {
		t.Errorf("%s: Replay(.., %d): %d records % x, %d; want %d % x", what, gen, len(got), got, e, len(want), want)
	}
}

// replayError fails if Replay does not answer that error, and nothing beside it.
func replayError(t *testing.T, d *disk.Disk, gen uint32, want api.Errno, what string) {
	t.Helper()
	if got, e := Replay(d, gen); e != want || len(got) != 0 {
		t.Errorf("%s: Replay(.., %d): % x %d, want %d", what, gen, got, e, want)
	}
}

// record is the n-th of the records that logged lays, of all sizes.
func record(n int) []byte {
	return marks(n*17%(api.MaxRecord+1), n)
}

// logged is a disk with so many records of that gen, and these.
func logged(t *testing.T, sectors int, gen uint32, records int) (*disk.Disk, [][]byte) {
	t.Helper()
	d := filled(t, sectors)
	var list [][]byte
	for n := range records {
		appended(t, d, gen, n, record(n))
		list = append(list, record(n))
	}
	return d, list
}

// P4.1: a record's sector, written out: gen, number, size, bytes, 0s, sum.
func TestSectorWrittenOut(t *testing.T) {
	for _, c := range []struct {
		gen  uint32
		at   int
		b    []byte
		want string
	}{
		{0x04030201, 5, []byte("abc"), "01020304 05000000 03 616263" + strings.Repeat("00", 48) + "a89aff9c"},
		{0xfffffffe, 63, []byte{
			1, 2, 3, 4, 5, 6, 7, 8, 9, 10, 11, 12, 13, 14, 15, 16, 17, 18, 19, 20, 21, 22, 23, 24, 25,
			26, 27, 28, 29, 30, 31, 32, 33, 34, 35, 36, 37, 38, 39, 40, 41, 42, 43, 44, 45, 46, 47, 48, 49, 50},
			"feffffff 3f000000 32 0102030405060708090a0b0c0d0e0f10111213141516171819" +
				"1a1b1c1d1e1f202122232425262728292a2b2c2d2e2f303132 00 7c0850b7"},
		{0, 0, nil, strings.Repeat("00", 60) + "93944f37"},
	} {
		want, err := hex.DecodeString(strings.ReplaceAll(c.want, " ", ""))
		if err != nil || len(want) != size {
			t.Fatal(err, len(want))
		}
		d := filled(t, api.DiskSectors)
		appended(t, d, c.gen, c.at, c.b)
		holds(t, d, api.LogAt+c.at, want, "Append")
		d = disk.New(api.DiskSectors)
		for n := range c.at {
			written(t, d, api.LogAt+n, image(c.gen, n, nil))
		}
		written(t, d, api.LogAt+c.at, want)
		replays(t, d, c.gen, append(make([][]byte, c.at), c.b), "a sector written out")
	}
}

// P4.1: the chapter's example: Append at 0, at 1; Replay: both.
func TestBoth(t *testing.T) {
	d := disk.New(api.DiskSectors)
	replays(t, d, 3, nil, "ahead of both")
	appended(t, d, 3, 0, []byte("one"))
	replays(t, d, 3, [][]byte{[]byte("one")}, "behind the first")
	appended(t, d, 3, 1, []byte("two"))
	replays(t, d, 3, [][]byte{[]byte("one"), []byte("two")}, "both")
}

// P4.1: of each gen, at each place and of each size: the sector LogAt + at is
// written so, whatever stood there, and no other one is.
func TestAppendWritesTheSector(t *testing.T) {
	for _, gen := range gens() {
		for at := range api.LogLen {
			d := filled(t, api.DiskSectors)
			for _, n := range []int{at % (api.MaxRecord + 1), api.MaxRecord, 1, 0} {
				appended(t, d, gen, at, marks(n, at))
				holds(t, d, api.LogAt+at, image(gen, at, marks(n, at)), "Append")
			}
			asFilled(t, d, "Append", api.LogAt+at)
		}
	}
}

// P4.1: a record of each size from none to MaxRecord, of 0s as well: it comes
// back as it was.
func TestEachSize(t *testing.T) {
	for n := range api.MaxRecord + 1 {
		for _, b := range [][]byte{marks(n, 0), make([]byte, n), bytes.Repeat([]byte{0xff}, n), make([]byte, n, size)} {
			d := filled(t, api.DiskSectors)
			appended(t, d, 9, 0, b)
			appended(t, d, 9, 1, []byte{1})
			holds(t, d, api.LogAt, image(9, 0, b), "Append")
			replays(t, d, 9, [][]byte{b, {1}}, "a record of each size")
		}
	}
	d := filled(t, api.DiskSectors)
	appended(t, d, 9, 0, nil)
	replays(t, d, 9, [][]byte{nil}, "a record of nil")
}

// P4.1: what is appended is sure: no Crash changes it, whatever it keeps.
func TestAppendIsSure(t *testing.T) {
	for _, keep := range []uint64{0, 1, all} {
		for _, torn := range []int{0, 10, size} {
			d := filled(t, api.DiskSectors)
			var want [][]byte
			for n := range api.LogLen {
				written(t, d, api.FileAt, marks(size, n))
				appended(t, d, 5, n, record(n))
				want = append(want, record(n))
				if l := d.Loose(); len(l) != 0 {
					t.Errorf("behind Append: loose %v", l)
				}
				d.Crash(keep, torn)
				replays(t, d, 5, want, "Append, Crash")
				holds(t, d, api.FileAt, marks(size, n), "what was loose ahead of Append")
			}
		}
	}
}

// P4.1: ErrArg, if b has more than MaxRecord bytes, or at is not from 0 to
// LogLen - 1: nothing is written, nothing is flushed, and no work is done.
func TestAppendErrArg(t *testing.T) {
	d, want := logged(t, api.DiskSectors, 4, 3)
	written(t, d, api.SwapAt, marks(size, 1))
	d.Fuse(2)
	refused := func(at int, b []byte) {
		t.Helper()
		if e := Append(d, 4, at, b); e != api.ErrArg {
			t.Errorf("Append(.., %d, %d bytes): %d", at, len(b), e)
		}
		if l := d.Loose(); !slices.Equal(l, []int{api.SwapAt}) {
			t.Errorf("Append(.., %d, %d bytes): loose %v", at, len(b), l)
		}
	}
	for _, at := range wrongPlaces() {
		for _, n := range []int{0, 1, api.MaxRecord, api.MaxRecord + 1} {
			refused(at, marks(n, 1))
		}
	}
	for _, n := range wrongSizes() {
		for _, at := range []int{0, 1, 3, api.LogLen - 1, api.LogLen, -1} {
			refused(at, marks(n, 1))
			refused(at, make([]byte, n))
		}
	}
	holds(t, d, api.SwapAt, marks(size, 1), "the first work behind what is none")
	holds(t, d, api.SwapAt, marks(size, 1), "the second work behind what is none")
	if _, e := d.Read(0); e != api.ErrDown {
		t.Errorf("the third work: %d", e)
	}
	d.Crash(0, 0)
	replays(t, d, 4, want, "refused calls")
	asFilled(t, d, "refused calls", api.LogAt, api.LogAt+1, api.LogAt+2)
}

// P4.1: ErrArg, if d is nil, whatever else is given.
func TestNilDisk(t *testing.T) {
	for _, gen := range gens() {
		replayError(t, nil, gen, api.ErrArg, "a nil disk")
		for _, at := range append(wrongPlaces(), 0, 1, api.LogLen-1) {
			for _, n := range []int{0, 1, api.MaxRecord, api.MaxRecord + 1} {
				if e := Append(nil, gen, at, marks(n, 0)); e != api.ErrArg {
					t.Errorf("Append(nil, %d, %d, %d bytes): %d", gen, at, n, e)
				}
			}
		}
	}
}

// P4.1: the records from number 0 on, as many as there are, up to LogLen.
func TestReplayOfEachCount(t *testing.T) {
	for records := range api.LogLen + 1 {
		d, want := logged(t, api.DiskSectors, 6, records)
		for range 2 {
			replays(t, d, 6, want, "each count")
		}
		for n := range d.Sectors() {
			if n >= api.LogAt && n < api.LogAt+records {
				holds(t, d, n, image(6, n-api.LogAt, record(n-api.LogAt)), "behind Replay")
			} else {
				holds(t, d, n, filler(n), "behind Replay")
			}
		}
		if l := d.Loose(); len(l) != 0 {
			t.Errorf("behind Replay: loose %v", l)
		}
	}
}

// P4.1: a log that is full ends with the sector of number LogLen - 1, also if
// what stands behind it would be a record.
func TestReplayEndsWithTheLog(t *testing.T) {
	d, want := logged(t, api.DiskSectors, 6, api.LogLen)
	for n := api.LogLen; api.LogAt+n < api.DiskSectors; n++ {
		written(t, d, api.LogAt+n, image(6, n, marks(3, n)))
	}
	replays(t, d, 6, want, "records behind the log")
	d, want = logged(t, api.LogAt+api.LogLen, 6, api.LogLen)
	replays(t, d, 6, want, "a disk that ends with the log")
}

// P4.1: the order in which records are appended makes no difference; those
// behind a gap are there when it is closed.
func TestReplayInAnyOrder(t *testing.T) {
	d := disk.New(api.DiskSectors)
	want := make([][]byte, api.LogLen)
	for i := range api.LogLen {
		n := (i*23 + 5) % api.LogLen
		appended(t, d, 1, n, record(n))
		want[n] = record(n)
		gap := slices.IndexFunc(append(slices.Clone(want), nil), func(b []byte) bool { return b == nil })
		replays(t, d, 1, want[:gap], "any order")
	}
	appended(t, d, 1, 7, []byte("another"))
	want[7] = []byte("another")
	replays(t, d, 1, want, "appended again")
}

// P4.1: the records of that gen, and of no other one, at the ends of uint32 too.
func TestReplayOfThatGen(t *testing.T) {
	for _, gen := range gens() {
		d, want := logged(t, api.DiskSectors, gen, 5)
		for _, other := range append(gens(), gen+1, gen-1, gen^1<<31, gen^1<<8) {
			if other != gen {
				replays(t, d, other, nil, "another gen")
			}
		}
		replays(t, d, gen, want, "that gen")
		appended(t, d, gen+1, 0, []byte("later"))
		replays(t, d, gen, nil, "a later gen at 0")
		replays(t, d, gen+1, [][]byte{[]byte("later")}, "a later gen at 0")
		appended(t, d, gen, 0, want[0])
		appended(t, d, gen-1, 3, []byte("earlier"))
		replays(t, d, gen, want[:3], "an earlier gen at 3")
		replays(t, d, gen-1, nil, "an earlier gen at 3")
	}
}

// P4.1: sectors of 0s are no records, of whatever gen; nor are such of other
// bytes.
func TestReplayOfNothing(t *testing.T) {
	for _, gen := range gens() {
		replays(t, disk.New(api.DiskSectors), gen, nil, "0s")
		replays(t, filled(t, api.DiskSectors), gen, nil, "no records")
	}
	d := disk.New(api.DiskSectors)
	for _, c := range []byte{1, 0x7f, 0x80, 0xff} {
		b := bytes.Repeat([]byte{c}, size)
		written(t, d, api.LogAt, b)
		replays(t, d, binary.LittleEndian.Uint32(b), nil, "the same byte")
	}
}

// noRecords are sectors which are none, as number n of that gen, of one reason
// each.
func noRecords(gen uint32, n int) map[string][][]byte {
	list := map[string][][]byte{"a sector of 0s": {make([]byte, size)}}
	add := func(what string, s []byte) { list[what] = append(list[what], s) }
	for bit := range 32 {
		add("another gen", image(gen^1<<bit, n, marks(9, n)))
		add("another number", image(gen, n^1<<bit, marks(9, n)))
		s := image(gen, n, marks(9, n))
		s[60+bit/8] ^= 1 << (bit % 8)
		add("another sum", s)
	}
	add("the sum's bytes the other way round", turned(image(gen, n, marks(9, n)), 60))
	add("the gen's bytes the other way round", summed(turned(image(gen, n, marks(9, n)), 0)))
	add("the number's bytes the other way round", summed(turned(image(gen, n, marks(9, n)), 4)))
	for k := api.MaxRecord + 1; k < 256; k++ {
		add("a size above MaxRecord", sized(image(gen, n, nil), k))
		add("a size above MaxRecord", sized(image(gen, n, marks(api.MaxRecord, n)), k))
	}
	for k := range api.MaxRecord + 1 {
		for at := 9 + k; at < 60; at++ {
			for _, c := range []byte{1, 0x80, 0xff} {
				s := image(gen, n, marks(k, n))
				s[at] = c
				add("a byte behind the record", summed(s))
			}
		}
		if k > 0 {
			add("a size below the record's", sized(image(gen, n, marks(k, n)), k-1))
		}
	}
	s := image(gen, n, nil)
	s[8], s[58], s[59] = api.MaxRecord-1, 1, 0xff
	add("two bytes that are not 0, and whose sum is", summed(s))
	return list
}

// turned has four bytes of s in the other order, from at on.
func turned(s []byte, at int) []byte {
	slices.Reverse(s[at : at+4])
	return s
}

// sized has another size than s, and the sum of that.
func sized(s []byte, k int) []byte {
	s[8] = byte(k)
	return summed(s)
}

// P4.1: each way in which a sector is none: the records end there, though others
// stand behind.
func TestNoRecord(t *testing.T) {
	for _, n := range []int{0, 1, 3, api.LogLen - 1} {
		for _, gen := range []uint32{0x04030201, 1, math.MaxUint32 - 0xff} {
			d, want := logged(t, api.DiskSectors, gen, api.LogLen)
			for what, list := range noRecords(gen, n) {
				for _, s := range list {
					if n == 0 && what == "the number's bytes the other way round" {
						continue
					}
					written(t, d, api.LogAt+n, s)
					replays(t, d, gen, want[:n], what)
				}
			}
			written(t, d, api.LogAt+n, image(gen, n, want[n]))
			replays(t, d, gen, want, "a record again")
		}
	}
}

// P4.1: a sector with any one bit turned is none: its sum is another one.
func TestEachBitCounts(t *testing.T) {
	for _, k := range []int{0, 1, 20, api.MaxRecord} {
		d, want := logged(t, api.DiskSectors, 8, 4)
		for bit := range size * 8 {
			s := image(8, 2, marks(k, 1))
			s[bit/8] ^= 1 << (bit % 8)
			written(t, d, api.LogAt+2, s)
			replays(t, d, 8, want[:2], "a bit turned")
		}
		want[2] = marks(k, 1)
		written(t, d, api.LogAt+2, image(8, 2, marks(k, 1)))
		replays(t, d, 8, want, "no bit turned")
	}
}

// P4.1: two that change places are none: a record hangs on its number.
func TestRecordsInOtherPlaces(t *testing.T) {
	for n := range api.LogLen {
		d, want := logged(t, api.DiskSectors, 8, api.LogLen)
		other := (n + 1 + n%3) % api.LogLen
		written(t, d, api.LogAt+n, image(8, other, record(other)))
		written(t, d, api.LogAt+other, image(8, n, record(n)))
		replays(t, d, 8, want[:min(n, other)], "two that changed places")
	}
}

// P4.1: a Read's error: at each sector, up to the first that is none, which is
// the last one that is read.
func TestReplayReadFails(t *testing.T) {
	for _, records := range []int{0, 1, 2, 5, api.LogLen - 1, api.LogLen} {
		d, want := logged(t, api.DiskSectors, 8, records)
		reads := min(records+1, api.LogLen)
		for n := range reads {
			d.Fail(n, 1)
			replayError(t, d, 8, api.ErrIO, "a Read that fails")
			replays(t, d, 8, want, "behind one that failed")
			d.Fuse(n)
			replayError(t, d, 8, api.ErrDown, "the power goes")
			replayError(t, d, 8, api.ErrDown, "the power is gone")
			d.Crash(0, 0)
			replays(t, d, 8, want, "behind a Crash")
		}
		d.Fail(reads, 1)
		replays(t, d, 8, want, "a failure behind the last Read")
		if b, e := d.Read(0); e != api.ErrIO || len(b) != 0 {
			t.Errorf("%d records: the work behind %d Reads: %d", records, reads, e)
		}
		d.Fuse(reads)
		replays(t, d, 8, want, "the power goes behind the last Read")
		replayError(t, d, 8, api.ErrDown, "the power is gone")
	}
}

// P4.1: a disk that has fewer sectors than the log: Replay has the Read's
// ErrArg, if no sector ahead is none.
func TestReplayOfFewSectors(t *testing.T) {
	for sectors := range api.LogAt + api.LogLen {
		d := filled(t, sectors)
		for n := range sectors - api.LogAt {
			replays(t, d, 8, recordsTo(n), "a sector that is none ahead of the disk's end")
			appended(t, d, 8, n, record(n))
		}
		replayError(t, d, 8, api.ErrArg, "records to the disk's end")
		if sectors > api.LogAt {
			replays(t, d, 9, nil, "another gen")
			d.Fail(0, 1)
			replayError(t, d, 8, api.ErrIO, "a failure ahead of the disk's end")
		}
	}
	for _, d := range []*disk.Disk{new(disk.Disk), disk.New(-1)} {
		replayError(t, d, 0, api.ErrArg, "no sectors")
	}
}

// recordsTo are the first records that logged lays.
func recordsTo(n int) [][]byte {
	var list [][]byte
	for i := range n {
		list = append(list, record(i))
	}
	return list
}

// P4.1: a disk that has fewer sectors than the log: Append has the Write's
// ErrArg behind its end, and flushes nothing.
func TestAppendToFewSectors(t *testing.T) {
	for _, sectors := range []int{1, 2, 33, api.LogLen - 1} {
		d := filled(t, sectors)
		written(t, d, 0, marks(size, 9))
		for at := sectors; at < api.LogLen; at++ {
			if e := Append(d, 8, at, record(at)); e != api.ErrArg {
				t.Errorf("%d sectors: Append at %d: %d", sectors, at, e)
			}
		}
		if l := d.Loose(); !slices.Equal(l, []int{0}) {
			t.Errorf("%d sectors: loose %v", sectors, l)
		}
		asFilled(t, d, "few sectors", 0)
		appended(t, d, 8, sectors-1, record(1))
		holds(t, d, sectors-1, image(8, sectors-1, record(1)), "the last sector")
	}
	for _, d := range []*disk.Disk{new(disk.Disk), disk.New(0)} {
		if e := Append(d, 0, 0, nil); e != api.ErrArg {
			t.Errorf("no sectors: Append: %d", e)
		}
	}
}

// P4.1: a Write that fails: its error, and no Flush; the record is not there.
func TestAppendWriteFails(t *testing.T) {
	d, want := logged(t, api.DiskSectors, 8, 3)
	written(t, d, api.FileAt, marks(size, 1))
	d.Fail(0, 1)
	if e := Append(d, 8, 3, []byte("x")); e != api.ErrIO {
		t.Errorf("Append: %d", e)
	}
	if l := d.Loose(); !slices.Equal(l, []int{api.FileAt}) {
		t.Errorf("a Write that fails: loose %v", l)
	}
	holds(t, d, api.LogAt+3, filler(api.LogAt+3), "a Write that fails")
	replays(t, d, 8, want, "a Write that fails")
	d.Fail(0, 2)
	if e := Append(d, 8, 1, []byte("x")); e != api.ErrIO {
		t.Errorf("Append: %d", e)
	}
	if _, e := d.Read(0); e != api.ErrIO {
		t.Errorf("the second work that fails is not the Read: %d", e)
	}
	appended(t, d, 8, 3, []byte("y"))
	replays(t, d, 8, append(want, []byte("y")), "Append done again")
	asFilled(t, d, "Append done again", 0, 1, 2, 3, api.FileAt)
}

// P4.1: a Flush that fails: its error; the record is loose, so that a Crash
// keeps it, or not.
func TestAppendFlushFails(t *testing.T) {
	for _, keep := range []uint64{0, 1} {
		d, want := logged(t, api.DiskSectors, 8, 3)
		d.Fail(1, 1)
		if e := Append(d, 8, 3, []byte("x")); e != api.ErrIO {
			t.Errorf("Append: %d", e)
		}
		if l := d.Loose(); !slices.Equal(l, []int{api.LogAt + 3}) {
			t.Errorf("a Flush that fails: loose %v", l)
		}
		with := append(slices.Clone(want), []byte("x"))
		replays(t, d, 8, with, "a Flush that fails")
		d.Crash(keep, size)
		if keep == 1 {
			want = with
		}
		replays(t, d, 8, want, "a Flush that fails, and a Crash")
		asFilled(t, d, "a Flush that fails, and a Crash", 0, 1, 2, 3)
	}
}

// P4.1: an Append is one Write and one Flush: what fails behind these fails in
// the work that comes then.
func TestAppendIsTwoWorks(t *testing.T) {
	d := filled(t, api.DiskSectors)
	for n := range api.LogLen {
		d.Fail(2, 1)
		appended(t, d, 8, n, record(n))
		if _, e := d.Read(0); e != api.ErrIO {
			t.Errorf("the third work: %d", e)
		}
	}
	replays(t, d, 8, recordsTo(api.LogLen), "two works each")
}

// P4.1: the power goes at each of the works: ErrDown, and behind a Crash the
// records that were sure, with that one, or without; of one that is torn, with
// it, if all of its bytes are as they must be.
func TestAppendPowerGoes(t *testing.T) {
	for works := range 2 {
		for _, keep := range []uint64{0, 1} {
			for torn := range size + 1 {
				d, want := logged(t, api.DiskSectors, 8, 3)
				d.Fuse(works)
				for range 2 {
					if e := Append(d, 8, 3, []byte("xyz")); e != api.ErrDown {
						t.Fatalf("the power goes at work %d: %d", works, e)
					}
				}
				replayError(t, d, 8, api.ErrDown, "the power is gone")
				d.Crash(keep, torn)
				s := filler(api.LogAt + 3)
				if works == 1 && keep == 1 {
					copy(s, image(8, 3, []byte("xyz"))[:torn])
				}
				holds(t, d, api.LogAt+3, s, "behind the power's end")
				if bytes.Equal(s, image(8, 3, []byte("xyz"))) {
					want = append(want, []byte("xyz"))
				}
				replays(t, d, 8, want, "behind the power's end")
				appended(t, d, 8, len(want), []byte("more"))
				replays(t, d, 8, append(want, []byte("more")), "going on")
			}
		}
	}
}

// R2: ErrArg of what is given comes ahead of ErrIO and ErrDown.
func TestWhichErrorFirst(t *testing.T) {
	failing, down := filled(t, api.DiskSectors), filled(t, api.DiskSectors)
	failing.Fail(0, math.MaxInt)
	down.Fuse(0)
	down.Flush()
	for _, c := range []struct {
		d    *disk.Disk
		want api.Errno
	}{{failing, api.ErrIO}, {down, api.ErrDown}} {
		for _, at := range []int{0, 1, api.LogLen - 1} {
			if e := Append(c.d, 1, at, nil); e != c.want {
				t.Errorf("Append at %d: %d, want %d", at, e, c.want)
			}
			if e := Append(c.d, 1, at, make([]byte, api.MaxRecord+1)); e != api.ErrArg {
				t.Errorf("Append of too many bytes: %d", e)
			}
		}
		for _, at := range wrongPlaces() {
			if e := Append(c.d, 1, at, nil); e != api.ErrArg {
				t.Errorf("Append at %d: %d", at, e)
			}
		}
		replayError(t, c.d, 1, c.want, "trouble")
	}
}

// R4: what is handed in is not changed, its spare room neither, and not kept.
func TestAppendKeepsNothing(t *testing.T) {
	for n := range api.MaxRecord + 1 {
		d := filled(t, api.DiskSectors)
		whole, was := marks(2*size, 1), marks(2*size, 1)
		appended(t, d, 8, 0, whole[:n])
		appended(t, d, 8, 1, whole[n:][:api.MaxRecord])
		Append(d, 8, 2, whole)
		Append(d, 8, api.LogLen, whole[:n])
		d.Fail(0, 1)
		Append(d, 8, 2, whole[:n])
		if !bytes.Equal(whole, was) {
			t.Errorf("what was handed in is changed: % x", whole)
		}
		clear(whole)
		replays(t, d, 8, [][]byte{was[:n], was[n:][:api.MaxRecord]}, "what was handed in is changed")
		d.Crash(0, 0)
		replays(t, d, 8, [][]byte{was[:n], was[n:][:api.MaxRecord]}, "what was handed in is changed")
	}
}

// R4: what Replay answers is memory of its own: a list, and each of its records,
// may be changed, and may grow, and none of that is seen anywhere else.
func TestReplayIsItsOwn(t *testing.T) {
	d, want := logged(t, api.DiskSectors, 8, api.LogLen)
	two, _ := Replay(d, 8)
	for n := range api.LogLen {
		one, _ := Replay(d, 8)
		clear(one[n][:cap(one[n])])
		_ = append(one[n], make([]byte, 2*size)...)
		_ = append(one[n][:0], bytes.Repeat([]byte{0xee}, cap(one[n]))...)
		for i := range one {
			if i != n && !bytes.Equal(one[i], want[i]) {
				t.Errorf("records %d and %d share memory", n, i)
			}
		}
		_ = append(one[:n], []byte("another"))
		clear(one[:cap(one)])
		if !slices.EqualFunc(two, want, bytes.Equal) {
			t.Fatalf("two answers share memory: % x", two)
		}
		replays(t, d, 8, want, "a change of what is answered")
	}
	for n := range api.LogLen {
		appended(t, d, 9, n, marks(api.MaxRecord, 200))
	}
	if !slices.EqualFunc(two, want, bytes.Equal) {
		t.Errorf("an answer is changed later: % x", two)
	}
}

// R3, R5: nothing is kept from call to call: a disk's answers are the same
// whatever was asked of others.
func TestNothingKept(t *testing.T) {
	d, want := logged(t, api.DiskSectors, 8, 4)
	other := disk.New(api.DiskSectors)
	appended(t, other, 8, 0, []byte("other"))
	other.Fuse(0)
	Append(other, 8, 1, nil)
	replayError(t, other, 8, api.ErrDown, "another disk")
	replays(t, d, 8, want, "a disk beside another")
	replays(t, disk.New(api.DiskSectors), 8, nil, "a new disk")
}

// expected is what Replay answers of d, by other means: each size is tried, and
// a sector is a record if it is the one that the chapter tells.
func expected(d *disk.Disk, gen uint32) ([][]byte, api.Errno) {
	var list [][]byte
	for n := 0; n < 64; n++ {
		s, e := d.Read(api.LogAt + n)
		if e != api.OK {
			return nil, e
		}
		found := false
		for k := range api.MaxRecord + 1 {
			if bytes.Equal(s, image(gen, n, s[9:9+k])) {
				list = append(list, slices.Clone(s[9:9+k]))
				found = true
			}
		}
		if !found {
			break
		}
	}
	return list, api.OK
}

// expectedAppend does what Append does to d, by other means.
func expectedAppend(d *disk.Disk, gen uint32, at int, b []byte) api.Errno {
	if len(b) > 50 || at < 0 || at > 63 {
		return api.ErrArg
	}
	e := d.Write(at, image(gen, at, b))
	if e == api.OK {
		e = d.Flush()
	}
	return e
}

// P4.1: many calls in a row, right and wrong ones, with failures and crashes,
// held against a disk that is worked by other means.
func TestManyCalls(t *testing.T) {
	seed := uint64(4)
	next := func(n int) int {
		seed = seed*6364136223846793005 + 1442695040888963407
		return int((seed >> 33) % uint64(n))
	}
	for round := range 40 {
		sectors := []int{0, 1, 5, 63, 64, 65, api.DiskSectors}[next(7)]
		d, o := disk.New(sectors), disk.New(sectors)
		for step := range 600 {
			gen := uint32(next(3))
			switch kind := next(40); {
			case kind < 24:
				at := next(6)
				if kind == 0 {
					at = next(sectors+8) - 4
				}
				b := marks(next(api.MaxRecord+2), step)
				if got, want := Append(d, gen, at, b), expectedAppend(o, gen, at, b); got != want {
					t.Fatalf("round %d, step %d: Append: %d, want %d", round, step, got, want)
				}
			case kind < 34:
				got, e := Replay(d, gen)
				want, we := expected(o, gen)
				if e != we || !slices.EqualFunc(got, want, bytes.Equal) {
					t.Fatalf("round %d, step %d: Replay: % x %d, want % x %d", round, step, got, e, want, we)
				}
			case kind < 36:
				first, count := next(9), next(3)
				d.Fail(first, count)
				o.Fail(first, count)
			case kind < 37:
				n := next(9)
				d.Fuse(n)
				o.Fuse(n)
			default:
				keep, torn := uint64(next(4)), next(size+1)
				d.Crash(keep, torn)
				o.Crash(keep, torn)
			}
			if !slices.Equal(d.Loose(), o.Loose()) {
				t.Fatalf("round %d, step %d: loose %v, want %v", round, step, d.Loose(), o.Loose())
			}
		}
		d.Crash(0, 0)
		o.Crash(0, 0)
		for n := range sectors {
			b, _ := o.Read(n)
			holds(t, d, n, b, "at the end")
		}
	}
}
