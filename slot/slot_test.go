package slot

import (
	"bytes"
	"encoding/binary"
	"encoding/hex"
	"hash/fnv"
	"headland/api"
	"headland/disk"
	"math"
	"slices"
	"strings"
	"testing"
)

const (
	size = api.PageSize
	most = 960            // bytes that a slot has room for
	all  = math.MaxUint64 // keeps each loose sector that can be kept
)

// gens are numbers at the ends of uint32, even and odd ones, and such that differ
// from each other in one byte, or in its place.
func gens() []uint32 {
	return []uint32{0, 1, 2, 3, 7, 0x100, 0x10001, 0x1000000, 0x01020304, 0x04030201, math.MaxInt32, 1 << 31, math.MaxUint32 - 1, math.MaxUint32}
}

// sizes are numbers of bytes around those of a sector, and around the most.
func sizes() []int {
	return []int{0, 1, 2, 63, 64, 65, 127, 128, 129, 191, 192, 193, 255, 256, 257, 500, 895, 896, 897, 959, 960}
}

// wrongSizes are numbers of bytes that no slot has room for.
func wrongSizes() []int {
	return []int{961, 962, 1000, 1023, 1024, 1025, 2048, 1 << 16, 1<<16 + 1, 1<<16 + 960}
}

// marks are n bytes none of which is 0; they are other ones for each mark.
func marks(n, mark int) []byte {
	b := make([]byte, n)
	for i := range b {
		b[i] = byte(1 + (i*7+mark*31)%255)
	}
	return b
}

// sumOf is the sum of both, one behind the other, by the library.
func sumOf(a, b []byte) uint32 {
	h := fnv.New64a()
	h.Write(a)
	h.Write(b)
	v := h.Sum64()
	return uint32(v>>32) ^ uint32(v)
}

// ownHead is the number of the sector that has gen's head.
func ownHead(gen uint32) int {
	if gen&1 == 0 {
		return 64
	}
	return 80
}

// image is the head over b as the chapter tells it, by other means.
func image(gen uint32, b []byte) []byte {
	return imageOf(gen, uint32(len(b)), b)
}

// imageOf is the head over b that tells another length, and has the sum of that.
func imageOf(gen, length uint32, b []byte) []byte {
	s := binary.LittleEndian.AppendUint32(nil, gen)
	s = binary.LittleEndian.AppendUint32(s, length)
	s = binary.LittleEndian.AppendUint32(s, sumOf(s, b))
	return append(s, make([]byte, size-len(s))...)
}

// page is the n-th sector of b's bytes, 0 up to its end.
func page(b []byte, n int) []byte {
	padded := append(slices.Clone(b), make([]byte, size)...)
	return padded[n*size:][:size]
}

// pages is how many sectors b's bytes have.
func pages(b []byte) int {
	return (len(b) + size - 1) / size
}

// filler is what stands in sector n of a disk ahead of all.
func filler(n int) []byte {
	return append(marks(size-1, n+3), byte(n))
}

// filled is a disk whose sectors have other bytes than 0, all of them sure. None
// of its slots is whole.
func filled(t *testing.T, sectors int) *disk.Disk {
	t.Helper()
	d := disk.New(sectors)
	for n := range sectors {
		written(t, d, n, filler(n))
	}
	flushed(t, d)
	return d
}

// written writes b to sector n, or fails.
func written(t *testing.T, d *disk.Disk, n int, b []byte) {
	t.Helper()
	if e := d.Write(n, b); e != api.OK {
		t.Fatalf("Write(%d, ..): %d", n, e)
	}
}

// flushed flushes d, or fails.
func flushed(t *testing.T, d *disk.Disk) {
	t.Helper()
	if e := d.Flush(); e != api.OK {
		t.Fatalf("Flush: %d", e)
	}
}

// saved saves b, or fails.
func saved(t *testing.T, d *disk.Disk, gen uint32, b []byte) {
	t.Helper()
	if e := Save(d, gen, b); e != api.OK {
		t.Fatalf("Save(%d, %d bytes): %d", gen, len(b), e)
	}
}

// saveError fails if Save does not answer that error.
func saveError(t *testing.T, d *disk.Disk, gen uint32, b []byte, want api.Errno, what string) {
	t.Helper()
	if e := Save(d, gen, b); e != want {
		t.Errorf("%s: Save(.., %d, %d bytes): %d, want %d", what, gen, len(b), e, want)
	}
}

// holds fails if sector n does not have the bytes b.
func holds(t *testing.T, d *disk.Disk, n int, b []byte, what string) {
	t.Helper()
	if got, e := d.Read(n); e != api.OK || !bytes.Equal(got, b) {
		t.Errorf("%s: sector %d: % x %d, want % x", what, n, got, e, b)
	}
}

// holdsSlot fails if gen's slot does not have b, or if a sector behind b's bytes
// is not as filled left it.
func holdsSlot(t *testing.T, d *disk.Disk, gen uint32, b []byte, what string) {
	t.Helper()
	at := ownHead(gen)
	holds(t, d, at, image(gen, b), what)
	for n := range 15 {
		if n < pages(b) {
			holds(t, d, at+1+n, page(b, n), what)
		} else {
			holds(t, d, at+1+n, filler(at+1+n), what)
		}
	}
}

// asFilled fails if a sector that is not from one on up to another is not as
// filled left it.
func asFilled(t *testing.T, d *disk.Disk, what string, from, to int) {
	t.Helper()
	for n := range d.Sectors() {
		if n < from || n >= to {
			holds(t, d, n, filler(n), what)
		}
	}
}

// loads fails if Load does not answer these.
func loads(t *testing.T, d *disk.Disk, gen uint32, b []byte, what string) {
	t.Helper()
	if g, got, e := Load(d); e != api.OK || g != gen || !bytes.Equal(got, b) {
		t.Errorf("%s: Load: %d, %d bytes % x, %d; want %d, %d bytes % x", what, g, len(got), got, e, gen, len(b), b)
	}
}

// loadError fails if Load does not answer that error, and nothing beside it.
func loadError(t *testing.T, d *disk.Disk, want api.Errno, what string) {
	t.Helper()
	if g, got, e := Load(d); e != want || g != 0 || len(got) != 0 {
		t.Errorf("%s: Load: %d, % x, %d, want %d", what, g, got, e, want)
	}
}

// isLoose fails if other sectors than these are loose.
func isLoose(t *testing.T, d *disk.Disk, what string, want ...int) {
	t.Helper()
	if l := d.Loose(); !slices.Equal(l, want) {
		t.Errorf("%s: loose %v, want %v", what, l, want)
	}
}

// P5.1: a slot's sectors, written out: gen, length, sum, 0s; bytes, 0s.
func TestSectorsWrittenOut(t *testing.T) {
	long := make([]byte, most)
	for i := range long {
		long[i] = byte(i + i/256)
	}
	for _, c := range []struct {
		gen  uint32
		b    []byte
		at   int
		want string
	}{
		{0x04030201, []byte("abc"), 80, "01020304 03000000 c62a5ee1" + strings.Repeat("00", 52)},
		{0xfffffffe, long, 64, "feffffff c0030000 6032919e" + strings.Repeat("00", 52)},
		{0, nil, 64, "00000000 00000000 f7c1dd80" + strings.Repeat("00", 52)},
	} {
		want, err := hex.DecodeString(strings.ReplaceAll(c.want, " ", ""))
		if err != nil || len(want) != size {
			t.Fatal(err, len(want))
		}
		d := filled(t, api.DiskSectors)
		saved(t, d, c.gen, c.b)
		holds(t, d, c.at, want, "Save")
		d = disk.New(api.DiskSectors)
		written(t, d, c.at, want)
		for n := range pages(c.b) {
			written(t, d, c.at+1+n, page(c.b, n))
		}
		loads(t, d, c.gen, c.b, "sectors written out")
	}
	d := filled(t, api.DiskSectors)
	saved(t, d, 1, []byte("abc"))
	holds(t, d, 81, append([]byte("abc"), make([]byte, 61)...), "Save")
}

// P5.1: the chapter's example: Save of 1, Save of 2 cut off: 1.
func TestCutOff(t *testing.T) {
	for works := range 4 {
		d := disk.New(api.DiskSectors)
		saved(t, d, 1, []byte("one"))
		d.Fuse(works)
		saveError(t, d, 2, []byte("two"), api.ErrDown, "cut off")
		d.Crash(0, 0)
		loads(t, d, 1, []byte("one"), "cut off")
		saved(t, d, 2, []byte("two"))
		loads(t, d, 2, []byte("two"), "done again")
	}
}

// P5.1: of each gen, and of sizes of each kind: the slot by gen modulo 2 is
// written so, whatever stood there, and no sector beside; what was loose ahead
// of it is as it was written.
func TestSaveWritesTheSlot(t *testing.T) {
	for _, gen := range gens() {
		for i, n := range sizes() {
			for _, b := range [][]byte{marks(n, i), make([]byte, n), bytes.Repeat([]byte{0xff}, n)} {
				d := filled(t, api.DiskSectors)
				saved(t, d, gen, b)
				holdsSlot(t, d, gen, b, "Save")
				asFilled(t, d, "Save", ownHead(gen), ownHead(gen)+16)
				isLoose(t, d, "Save")
				loads(t, d, gen, b, "Save")
			}
		}
	}
}

// P5.1: bytes of each number from none to as many as there is room for, in each
// of the slots: they come back as they were; the other slot has what it had.
func TestEachSize(t *testing.T) {
	d := filled(t, api.DiskSectors)
	var other []byte
	for n := range most + 1 {
		gen := uint32(n + 1)
		b := marks(n, n)
		saved(t, d, gen, b)
		loads(t, d, gen, b, "each size")
		if n > 0 {
			at := ownHead(gen - 1)
			holds(t, d, at, image(gen-1, other), "the other slot")
			for p := range pages(other) {
				holds(t, d, at+1+p, page(other, p), "the other slot")
			}
		}
		other = b
	}
	for n := most; n >= 0; n-- {
		gen := uint32(5000 - n)
		saved(t, d, gen, marks(n, n))
		loads(t, d, gen, marks(n, n), "each size, the greatest first")
	}
	saved(t, d, 6000, nil)
	loads(t, d, 6000, nil, "nil")
	saved(t, d, 6001, make([]byte, 3, 2*size))
	loads(t, d, 6001, []byte{0, 0, 0}, "spare room")
}

// P5.1: what is saved is sure: no Crash changes it, whatever it keeps.
func TestSaveIsSure(t *testing.T) {
	for _, keep := range []uint64{0, 1, all} {
		for _, torn := range []int{0, 10, size} {
			d := filled(t, api.DiskSectors)
			for i, n := range sizes() {
				written(t, d, api.FileAt, marks(size, n))
				saved(t, d, uint32(i), marks(n, i))
				isLoose(t, d, "behind Save")
				d.Crash(keep, torn)
				loads(t, d, uint32(i), marks(n, i), "Save, Crash")
				holds(t, d, api.FileAt, marks(size, n), "what was loose ahead of Save")
			}
		}
	}
}

// P5.1: ErrArg, if b has more than (SlotLen - 1) times PageSize bytes: nothing is
// written, nothing is flushed, and no work is done.
func TestSaveErrArg(t *testing.T) {
	d := filled(t, api.DiskSectors)
	saved(t, d, 4, marks(most, 4))
	saved(t, d, 5, marks(100, 5))
	written(t, d, api.SwapAt, marks(size, 1))
	d.Fuse(2)
	for _, gen := range gens() {
		for _, n := range wrongSizes() {
			saveError(t, d, gen, marks(n, 1), api.ErrArg, "too many bytes")
			saveError(t, d, gen, make([]byte, n), api.ErrArg, "too many 0s")
			isLoose(t, d, "too many bytes", api.SwapAt)
		}
	}
	holds(t, d, api.SwapAt, marks(size, 1), "the first work behind what is none")
	holds(t, d, api.SwapAt, marks(size, 1), "the second work behind what is none")
	if _, e := d.Read(0); e != api.ErrDown {
		t.Errorf("the third work: %d", e)
	}
	d.Crash(0, 0)
	holds(t, d, ownHead(4), image(4, marks(most, 4)), "refused calls")
	loads(t, d, 5, marks(100, 5), "refused calls")
	asFilled(t, d, "refused calls", 64, 96)
}

// P5.1: ErrArg, if d is nil, whatever else is given.
func TestNilDisk(t *testing.T) {
	loadError(t, nil, api.ErrArg, "a nil disk")
	for _, gen := range gens() {
		for _, n := range append(sizes(), wrongSizes()...) {
			saveError(t, nil, gen, marks(n, 0), api.ErrArg, "a nil disk")
		}
	}
}

// P5.1: gen 0 and no bytes, if no slot is whole: of 0s, of other bytes, of the
// same byte everywhere.
func TestLoadOfNothing(t *testing.T) {
	d := disk.New(api.DiskSectors)
	loads(t, d, 0, nil, "0s")
	loads(t, filled(t, api.DiskSectors), 0, nil, "filled")
	for _, c := range []byte{1, 2, 0x7f, 0x80, 0xff} {
		for n := range api.DiskSectors {
			written(t, d, n, bytes.Repeat([]byte{c}, size))
		}
		loads(t, d, 0, nil, "the same byte")
	}
}

// P5.1: one is whole: that one, of whatever gen, in either slot; of gen 0 too.
func TestLoadOfOne(t *testing.T) {
	for _, gen := range gens() {
		for _, d := range []*disk.Disk{disk.New(api.DiskSectors), filled(t, api.DiskSectors)} {
			for i, n := range sizes() {
				saved(t, d, gen, marks(n, i))
				for range 2 {
					loads(t, d, gen, marks(n, i), "one is whole")
				}
				holds(t, d, ownHead(gen), image(gen, marks(n, i)), "behind Load")
				isLoose(t, d, "behind Load")
			}
		}
	}
}

// P5.1: both are whole: the one with the greater gen, whichever was saved last;
// one of the same slot takes the place of what stood there, a lesser one too.
func TestLoadOfTheGreater(t *testing.T) {
	for i, first := range gens() {
		for k, second := range gens() {
			d := filled(t, api.DiskSectors)
			one, two := marks(10+70*i, i), marks(5+60*k, 20+k)
			saved(t, d, first, one)
			saved(t, d, second, two)
			if first%2 == second%2 || second > first {
				loads(t, d, second, two, "the second one")
			} else {
				loads(t, d, first, one, "the first one")
				holdsSlot(t, d, second, two, "the lesser one")
			}
		}
	}
}

// P5.1: a gen that is saved again has what was saved last, whether the other
// slot's gen is greater or not.
func TestSameGenAgain(t *testing.T) {
	for _, gen := range gens() {
		d := filled(t, api.DiskSectors)
		for i, n := range []int{100, 960, 0, 64, 1, 65} {
			saved(t, d, gen, marks(n, i))
			loads(t, d, gen, marks(n, i), "saved again")
		}
		if gen > 0 {
			saved(t, d, gen-1, []byte("lesser"))
			loads(t, d, gen, marks(65, 5), "a lesser one behind it")
			saved(t, d, gen, []byte("again"))
			loads(t, d, gen, []byte("again"), "saved again behind a lesser one")
		}
		if gen < math.MaxUint32 {
			saved(t, d, gen+1, []byte("greater"))
			saved(t, d, gen, []byte("still"))
			loads(t, d, gen+1, []byte("greater"), "saved again behind a greater one")
		}
	}
}

// notWhole are heads over b's bytes which are none of gen's slot, of one reason
// each: the sum is right where another reason is meant.
func notWhole(gen uint32, b []byte) map[string][][]byte {
	list := map[string][][]byte{"a head of 0s": {make([]byte, size)}}
	add := func(what string, s []byte) { list[what] = append(list[what], s) }
	for bit := range 32 {
		s := image(gen, b)
		s[8+bit/8] ^= 1 << (bit % 8)
		add("another sum", s)
		add("a gen of the other slot", image((gen^1)^1<<bit&^1, b))
	}
	add("a gen of the other slot", image(gen+1, b))
	add("a gen of the other slot", image(gen-1, b))
	add("the sum's bytes the other way round", turned(image(gen, b), 8))
	add("the gen's bytes the other way round", turned(image(gen, b), 0))
	if len(b)%257 != 0 {
		add("the length's bytes the other way round", turned(image(gen, b), 4))
	}
	for _, n := range []uint32{961, 962, 1023, 1024, 1984, 1 << 15, 1 << 16, 1<<16 + 960, 1 << 24, 1 << 31, 1<<31 + 5, math.MaxInt32, math.MaxUint32 - 1, math.MaxUint32} {
		add("a length that may not be", imageOf(gen, n, b))
		add("a length that may not be", imageOf(gen, n, append(slices.Clone(b), make([]byte, n%2000)...)))
	}
	for _, n := range []int{len(b) - 1, len(b) + 1, len(b) + 64, len(b) - 64} {
		if n >= 0 && n <= most {
			add("another length", imageOf(gen, uint32(n), b))
		}
	}
	for at := 12; at < size; at++ {
		for _, c := range []byte{1, 0x80, 0xff} {
			s := image(gen, b)
			s[at] = c
			add("a byte of the head's rest", s)
		}
	}
	s := image(gen, b)
	s[12], s[63] = 1, 0xff
	add("two bytes of the head's rest, whose sum is 0", s)
	add("a sum of the bytes alone", withSum(image(gen, b), sumOf(nil, b)))
	add("a sum of the head alone", withSum(image(gen, b), sumOf(image(gen, b)[:8], nil)))
	add("no sum", withSum(image(gen, b), 0))
	return list
}

// turned has four bytes of s in the other order, from at on.
func turned(s []byte, at int) []byte {
	slices.Reverse(s[at : at+4])
	return s
}

// withSum has another sum than s.
func withSum(s []byte, sum uint32) []byte {
	binary.LittleEndian.PutUint32(s[8:], sum)
	return s
}

// P5.1: each way in which a slot is not whole: the other one, if it is, though
// its gen is the lesser one; else nothing.
func TestNotWhole(t *testing.T) {
	for _, gen := range []uint32{0x04030202, 0x04030201, math.MaxUint32 - 0xfe, math.MaxUint32 - 0x100, 2, 3} {
		for i, n := range []int{1, 3, 64, 65, 300, most} {
			b := marks(n, i)
			alone, both := filled(t, api.DiskSectors), filled(t, api.DiskSectors)
			saved(t, alone, gen, b)
			saved(t, both, gen, b)
			saved(t, both, gen-1, []byte("other"))
			for what, list := range notWhole(gen, b) {
				for _, s := range list {
					written(t, alone, ownHead(gen), s)
					loads(t, alone, 0, nil, what)
					written(t, both, ownHead(gen), s)
					loads(t, both, gen-1, []byte("other"), what)
				}
			}
			written(t, both, ownHead(gen), image(gen, b))
			loads(t, both, gen, b, "whole again")
		}
	}
}

// P5.1: a length that may not be: not whole, though so many bytes stand behind the
// head, with the sum of them.
func TestLengthBeyondTheSlot(t *testing.T) {
	for _, gen := range []uint32{8, 9} {
		for _, n := range append(wrongSizes(), 1984, 4000, 5000) {
			d := disk.New(1200)
			b := marks(n, 3)
			for p := range pages(b) {
				written(t, d, ownHead(gen)+1+p, page(b, p))
			}
			written(t, d, ownHead(gen), image(gen, b))
			loads(t, d, 0, nil, "a length beyond the slot")
			b = marks(most, 3)
			saved(t, d, gen, b)
			loads(t, d, gen, b, "the greatest length")
		}
	}
}

// P5.1: any one bit of a head or of its bytes turned: it is not whole.
func TestEachBitCounts(t *testing.T) {
	for _, n := range []int{0, 1, 64, 70, most} {
		for _, gen := range []uint32{8, 9} {
			b := marks(n, 1)
			d := filled(t, api.DiskSectors)
			saved(t, d, gen, b)
			saved(t, d, gen-1, []byte("other"))
			for bit := range size * 8 {
				s := image(gen, b)
				s[bit/8] ^= 1 << (bit % 8)
				written(t, d, ownHead(gen), s)
				loads(t, d, gen-1, []byte("other"), "a bit of the head turned")
			}
			written(t, d, ownHead(gen), image(gen, b))
			for bit := range n * 8 {
				at := bit / 8
				s := page(b, at/size)
				s[at%size] ^= 1 << (bit % 8)
				written(t, d, ownHead(gen)+1+at/size, s)
				loads(t, d, gen-1, []byte("other"), "a bit of the bytes turned")
				written(t, d, ownHead(gen)+1+at/size, page(b, at/size))
			}
			loads(t, d, gen, b, "no bit turned")
		}
	}
}

// P5.1: what is whole hangs on the length, the sum, the gen and the head's rest,
// as the chapter names them: what stands behind the last byte, in its sector or
// in others of the slot, is not asked for.
func TestBehindTheBytes(t *testing.T) {
	for _, n := range sizes() {
		for _, gen := range []uint32{8, 9} {
			b := marks(n, 1)
			d := disk.New(api.DiskSectors)
			saved(t, d, gen, b)
			for p := range 15 {
				s := bytes.Repeat([]byte{0xee}, size)
				if p*size < n {
					copy(s, b[p*size:])
				}
				written(t, d, ownHead(gen)+1+p, s)
			}
			loads(t, d, gen, b, "other bytes behind the last one")
		}
	}
}

// P5.1: an old head over new bytes is not whole; over the same ones it is.
func TestOldHeadOverNewBytes(t *testing.T) {
	for _, c := range []struct {
		old, new []byte
		whole    bool
	}{
		{marks(64, 1), marks(64, 2), false},
		{marks(960, 1), marks(65, 2), false},
		{marks(3, 1), marks(960, 2), false},
		{marks(130, 1), marks(1, 2), false},
		{marks(130, 1), marks(130, 1), true},
		{marks(65, 1), marks(63, 1), false},
		{marks(65, 1), marks(64, 1), true},
		{marks(64, 1), marks(200, 1), true},
		{marks(10, 1), marks(200, 1), true},
		{marks(0, 1), marks(200, 2), true},
		{marks(200, 1), nil, true},
	} {
		for _, gen := range []uint32{8, 9} {
			d := disk.New(api.DiskSectors)
			saved(t, d, gen, c.old)
			d.Fail(pages(c.new)+1, 1)
			saveError(t, d, gen+2, c.new, api.ErrIO, "a head that fails")
			if c.whole {
				loads(t, d, gen, c.old, "an old head over its own bytes")
			} else {
				loads(t, d, 0, nil, "an old head over new bytes")
			}
			saved(t, d, gen+1, []byte("other"))
			loads(t, d, gen+1, []byte("other"), "the other slot")
			saved(t, d, gen+2, c.new)
			loads(t, d, gen+2, c.new, "saved again")
		}
	}
}

// P5.1: two slots that change places are not whole: each gen has its own.
func TestSlotsInOtherPlaces(t *testing.T) {
	for _, n := range sizes() {
		d := filled(t, api.DiskSectors)
		saved(t, d, 8, marks(n, 8))
		saved(t, d, 9, marks(n, 9))
		for i := range 16 {
			one, _ := d.Read(64 + i)
			two, _ := d.Read(80 + i)
			written(t, d, 64+i, two)
			written(t, d, 80+i, one)
		}
		loads(t, d, 0, nil, "two that changed places")
	}
}

// readsOf are the sectors that must be read of slots with these bytes.
func readsOf(even, odd []byte) []int {
	var list []int
	for i, b := range [][]byte{even, odd} {
		for n := range pages(b) + 1 {
			list = append(list, 64+16*i+n)
		}
	}
	return list
}

// P5.1: a Read's error: at each sector of both slots, of heads and of bytes, and
// of the slot with the lesser gen as well.
func TestLoadReadFails(t *testing.T) {
	for _, n := range []int{0, 1, 64, 65, 200, most} {
		for _, k := range []int{0, 3, 64, 129, most} {
			d := filled(t, api.DiskSectors)
			saved(t, d, 8, marks(n, 1))
			for _, odd := range []uint32{7, 9} {
				b, gen := marks(n, 1), uint32(8)
				saved(t, d, odd, marks(k, 2))
				if odd > 8 {
					b, gen = marks(k, 2), odd
				}
				reads := len(readsOf(marks(n, 1), marks(k, 2)))
				for works := range reads {
					d.Fail(works, 1)
					loadError(t, d, api.ErrIO, "a Read that fails")
					loads(t, d, gen, b, "behind one that failed")
					d.Fuse(works)
					loadError(t, d, api.ErrDown, "the power goes")
					loadError(t, d, api.ErrDown, "the power is gone")
					d.Crash(0, 0)
					loads(t, d, gen, b, "behind a Crash")
				}
				d.Fail(reads, 1)
				loads(t, d, gen, b, "a failure behind the last Read")
				if b, e := d.Read(0); e != api.ErrIO || len(b) != 0 {
					t.Errorf("%d, %d bytes: the work behind %d Reads: %d", n, k, reads, e)
				}
				d.Fuse(reads)
				loads(t, d, gen, b, "the power goes behind the last Read")
				loadError(t, d, api.ErrDown, "the power is gone")
				d.Crash(0, 0)
			}
		}
	}
}

// P5.1: the bytes behind a head that is none are not read; those behind one whose
// sum alone is another are.
func TestLoadReadsNoMore(t *testing.T) {
	b := marks(200, 1)
	for _, gen := range []uint32{8, 9} {
		for what, list := range notWhole(gen, b) {
			for _, s := range list {
				d := disk.New(api.DiskSectors)
				saved(t, d, gen, b)
				written(t, d, ownHead(gen), s)
				reads := 2
				length := binary.LittleEndian.Uint32(s[4:])
				if binary.LittleEndian.Uint32(s)&1 == gen&1 && length <= most && bytes.Equal(s[12:], make([]byte, 52)) {
					reads += int(length+size-1) / size
				}
				d.Fail(reads, 1)
				loads(t, d, 0, nil, what)
				if _, e := d.Read(0); e != api.ErrIO {
					t.Errorf("%s: the work behind %d Reads: %d", what, reads, e)
				}
			}
		}
	}
}

// P5.1: a disk that is too small: the Read's ErrArg, where a head, or bytes that
// a head tells of, would stand behind its end.
func TestLoadOfFewSectors(t *testing.T) {
	for sectors := range 97 {
		for _, n := range []int{0, 1, 64, 65, 300, most} {
			d := filled(t, sectors)
			if sectors <= 80 {
				loadError(t, d, api.ErrArg, "no head")
			} else {
				loads(t, d, 0, nil, "heads that are none")
			}
			if sectors > 64 {
				d.Fail(0, 1)
				loadError(t, d, api.ErrIO, "a failure ahead of the disk's end")
			}
			if sectors > 80 {
				written(t, d, 80, image(9, marks(n, 1)))
				for p := range min(pages(marks(n, 1)), sectors-81) {
					written(t, d, 81+p, page(marks(n, 1), p))
				}
				if sectors-81 >= pages(marks(n, 1)) {
					loads(t, d, 9, marks(n, 1), "as many sectors as it takes")
				} else {
					loadError(t, d, api.ErrArg, "bytes behind the disk's end")
				}
			}
		}
	}
	for _, d := range []*disk.Disk{new(disk.Disk), disk.New(-1)} {
		loadError(t, d, api.ErrArg, "no sectors")
	}
}

// P5.1: a disk that is too small: the Write's ErrArg at the first sector that is
// not there; those ahead of it are written, and nothing is flushed.
func TestSaveToFewSectors(t *testing.T) {
	for sectors := range 97 {
		for _, gen := range []uint32{8, 9} {
			for _, n := range []int{0, 1, 64, 65, 300, most} {
				d, b, at := filled(t, sectors), marks(n, 1), ownHead(gen)
				if sectors > at+pages(b) {
					saved(t, d, gen, b)
					holds(t, d, at, image(gen, b), "as many sectors as it takes")
					asFilled(t, d, "as many sectors as it takes", at, at+1+pages(b))
					continue
				}
				var want []int
				for p := at + 1; p < sectors; p++ {
					want = append(want, p)
				}
				saveError(t, d, gen, b, api.ErrArg, "few sectors")
				if n > 0 {
					isLoose(t, d, "few sectors", want...)
				}
				asFilled(t, d, "few sectors", at+1, at+16)
			}
		}
	}
	for _, d := range []*disk.Disk{new(disk.Disk), disk.New(0)} {
		saveError(t, d, 0, []byte{1}, api.ErrArg, "no sectors")
	}
}

// P5.1: a Save that has no sector for the head, of no bytes: what was loose is
// flushed ahead of the head.
func TestSaveOfNoBytesToFewSectors(t *testing.T) {
	for _, gen := range gens() {
		d := filled(t, 64)
		written(t, d, 5, marks(size, 1))
		saveError(t, d, gen, nil, api.ErrArg, "no head")
		isLoose(t, d, "flushed ahead of the head")
		holds(t, d, 5, marks(size, 1), "flushed ahead of the head")
	}
}

// worksOf is how many works a Save of b is.
func worksOf(b []byte) int { return pages(b) + 3 }

// P5.1: a Save is a Write for each sector of bytes, a Flush, the head's Write, a
// Flush: what fails behind these fails in the work that comes then.
func TestSaveIsSoManyWorks(t *testing.T) {
	d := filled(t, api.DiskSectors)
	for i, n := range sizes() {
		for gen := range uint32(2) {
			b := marks(n, i)
			d.Fail(worksOf(b), 1)
			saved(t, d, gen, b)
			if _, e := d.Read(0); e != api.ErrIO {
				t.Errorf("%d bytes: the work behind %d: %d", n, worksOf(b), e)
			}
			loads(t, d, gen, b, "so many works")
			if gen == 1 {
				written(t, d, 80, make([]byte, size))
			}
		}
	}
}

// P5.1: each of the works fails: its error, no work behind it; the sectors ahead
// of it are written in order, the first Flush makes them sure, and the head comes
// only then.
func TestSaveFails(t *testing.T) {
	for i, n := range sizes() {
		for _, gen := range []uint32{8, 9} {
			b := marks(n, i)
			for works := range worksOf(b) {
				d, at := filled(t, api.DiskSectors), ownHead(gen)
				saved(t, d, gen^1, []byte("other"))
				written(t, d, 3, marks(size, 3))
				d.Fail(works, 2)
				saveError(t, d, gen, b, api.ErrIO, "a work that fails")
				if _, e := d.Read(0); e != api.ErrIO {
					t.Errorf("%d bytes: a work behind one that fails", n)
				}
				want := []int{3}
				for p := range min(works, pages(b)) {
					want = append(want, at+1+p)
					holds(t, d, at+1+p, page(b, p), "ahead of one that fails")
				}
				for p := min(works, pages(b)); p < 15; p++ {
					holds(t, d, at+1+p, filler(at+1+p), "behind one that fails")
				}
				if works > pages(b) {
					want = nil
				}
				head := filler(at)
				if works == pages(b)+2 {
					want, head = []int{at}, image(gen, b)
				}
				isLoose(t, d, "a work that fails", want...)
				holds(t, d, at, head, "a work that fails")
				holds(t, d, 3, marks(size, 3), "what was loose ahead of Save")
				saved(t, d, gen, b)
				holdsSlot(t, d, gen, b, "saved again")
				written(t, d, ownHead(gen^1), filler(ownHead(gen^1)))
				loads(t, d, gen, b, "saved again")
			}
		}
	}
}

// P5.1: the power goes at each of the works: ErrDown, and behind a Crash what was
// sure, or the new one, if its head was kept, whatever was kept of the rest.
func TestSavePowerGoes(t *testing.T) {
	for _, n := range []int{0, 1, 64, 65, 300, most} {
		for _, gen := range []uint32{8, 9} {
			b := marks(n, 7)
			for works := range worksOf(b) {
				for _, keep := range []uint64{0, 1, 2, 5, 0xaaaa, 0x7fff, all} {
					for _, torn := range []int{0, 1, 4, 5, 8, 9, 11, 12, 13, 63, 64} {
						d := filled(t, api.DiskSectors)
						saved(t, d, gen-2, []byte("oldest"))
						saved(t, d, gen-1, marks(70, 1))
						d.Fuse(works)
						saveError(t, d, gen, b, api.ErrDown, "the power goes")
						saveError(t, d, gen, b, api.ErrDown, "the power is gone")
						loadError(t, d, api.ErrDown, "the power is gone")
						d.Crash(keep, torn)
						if works == pages(b)+2 && keep&1 == 1 && torn >= 12 {
							loads(t, d, gen, b, "the head is kept")
						} else {
							loads(t, d, gen-1, marks(70, 1), "behind the power's end")
						}
						saved(t, d, gen, b)
						loads(t, d, gen, b, "saved again")
					}
				}
			}
		}
	}
}

// P5.1: a head that is torn is whole if all of its bytes are as they must be.
func TestTornHead(t *testing.T) {
	for torn := range size + 1 {
		for _, old := range [][]byte{image(7, marks(70, 1)), image(9, nil), make([]byte, size), filler(80)} {
			d, b := filled(t, api.DiskSectors), marks(70, 1)
			written(t, d, 80, old)
			flushed(t, d)
			d.Fail(pages(b)+2, 1)
			saveError(t, d, 9, b, api.ErrIO, "the last Flush")
			loads(t, d, 9, b, "a head that is loose")
			d.Crash(1, torn)
			s := slices.Clone(old)
			copy(s, image(9, b)[:torn])
			holds(t, d, 80, s, "a torn head")
			switch {
			case bytes.Equal(s, image(9, b)):
				loads(t, d, 9, b, "a head that is torn behind its end")
			case bytes.Equal(s, image(7, b)):
				loads(t, d, 7, b, "a head that is torn ahead of its first byte")
			default:
				if g, got, e := Load(d); e != api.OK || g == 9 && !bytes.Equal(got, b) && len(got) != 0 {
					t.Errorf("torn %d: %d % x %d", torn, g, got, e)
				}
			}
		}
	}
}

// R2: ErrArg of what is given comes ahead of ErrIO and ErrDown.
func TestWhichErrorFirst(t *testing.T) {
	failing, down := filled(t, api.DiskSectors), filled(t, api.DiskSectors)
	failing.Fail(0, math.MaxInt)
	down.Fuse(0)
	down.Flush()
	for _, c := range []struct {
		d    *disk.Disk
		want api.Errno
	}{{failing, api.ErrIO}, {down, api.ErrDown}} {
		for _, gen := range gens() {
			for _, n := range sizes() {
				saveError(t, c.d, gen, marks(n, 1), c.want, "trouble")
			}
			for _, n := range wrongSizes() {
				saveError(t, c.d, gen, marks(n, 1), api.ErrArg, "trouble, and too many bytes")
			}
		}
		loadError(t, c.d, c.want, "trouble")
		isLoose(t, c.d, "trouble")
	}
}

// R4: what is handed in is not changed, its spare room neither, and not kept.
func TestSaveKeepsNothing(t *testing.T) {
	for _, n := range sizes() {
		d := filled(t, api.DiskSectors)
		whole, was := marks(3000, 1), marks(3000, 1)
		saved(t, d, 8, whole[:n])
		holdsSlot(t, d, 8, was[:n], "spare room behind the bytes")
		saved(t, d, 9, whole[n:][:most])
		Save(d, 10, whole)
		d.Fail(0, 1)
		Save(d, 10, whole[:n])
		d.Fail(pages(whole[:n])+1, 1)
		Save(d, 8, whole[:n])
		if !bytes.Equal(whole, was) {
			t.Errorf("%d bytes: what was handed in is changed", n)
		}
		clear(whole)
		loads(t, d, 9, was[n:][:most], "what was handed in is changed")
		d.Crash(0, 0)
		loads(t, d, 9, was[n:][:most], "what was handed in is changed")
		written(t, d, 80, make([]byte, size))
		loads(t, d, 8, was[:n], "what was handed in is changed")
	}
}

// R4: what Load answers is memory of its own: it may be changed, and may grow, and
// none of that is seen anywhere else.
func TestLoadIsItsOwn(t *testing.T) {
	for _, n := range sizes() {
		for _, gen := range []uint32{8, 9} {
			d, want := filled(t, api.DiskSectors), marks(n, 1)
			saved(t, d, gen-1, marks(most, 5))
			saved(t, d, gen, want)
			_, two, _ := Load(d)
			_, one, _ := Load(d)
			clear(one[:cap(one)])
			_ = append(one, make([]byte, 2*size)...)
			_ = append(one[:0], bytes.Repeat([]byte{0xee}, cap(one))...)
			if !bytes.Equal(two, want) {
				t.Errorf("two answers share memory: % x", two)
			}
			loads(t, d, gen, want, "a change of what is answered")
			saved(t, d, gen, marks(most, 9))
			if !bytes.Equal(two, want) {
				t.Errorf("an answer is changed later: % x", two)
			}
		}
	}
}

// R3, R5: nothing is kept from call to call: a disk's answers are the same
// whatever was asked of others.
func TestNothingKept(t *testing.T) {
	d, other := filled(t, api.DiskSectors), disk.New(api.DiskSectors)
	saved(t, d, 8, marks(70, 1))
	saved(t, other, 90, []byte("other"))
	other.Fuse(0)
	saveError(t, other, 91, nil, api.ErrDown, "another disk")
	loadError(t, other, api.ErrDown, "another disk")
	loads(t, d, 8, marks(70, 1), "a disk beside another")
	loads(t, disk.New(api.DiskSectors), 0, nil, "a new disk")
}

// expected is what Load answers of d, by other means: a slot is whole if its head
// is the one that the chapter tells over the bytes behind it.
func expected(d *disk.Disk) (gen uint32, b []byte, e api.Errno) {
	found := false
	for at := 64; at <= 80; at += 16 {
		s, e := d.Read(at)
		if e != api.OK {
			return 0, nil, e
		}
		g, n := binary.LittleEndian.Uint32(s), binary.LittleEndian.Uint32(s[4:])
		if ownHead(g) != at || n > most || !bytes.Equal(s[12:], make([]byte, 52)) {
			continue
		}
		var content []byte
		for p := range (int(n) + 63) / 64 {
			part, e := d.Read(at + 1 + p)
			if e != api.OK {
				return 0, nil, e
			}
			content = append(content, part...)
		}
		if content = content[:n]; bytes.Equal(s, image(g, content)) && (!found || g > gen) {
			found, gen, b = true, g, content
		}
	}
	return gen, b, api.OK
}

// expectedSave does what Save does to d, by other means.
func expectedSave(d *disk.Disk, gen uint32, b []byte) api.Errno {
	if len(b) > 960 {
		return api.ErrArg
	}
	at := ownHead(gen)
	works := []func() api.Errno{}
	for p := range pages(b) {
		works = append(works, func() api.Errno { return d.Write(at+1+p, page(b, p)) })
	}
	works = append(works, d.Flush, func() api.Errno { return d.Write(at, image(gen, b)) }, d.Flush)
	for _, work := range works {
		if e := work(); e != api.OK {
			return e
		}
	}
	return api.OK
}

// P5.1: many calls in a row, right and wrong ones, with failures and crashes,
// held against a disk that is worked by other means.
func TestManyCalls(t *testing.T) {
	seed := uint64(5)
	next := func(n int) int {
		seed = seed*6364136223846793005 + 1442695040888963407
		return int((seed >> 33) % uint64(n))
	}
	for round := range 60 {
		sectors := []int{0, 64, 65, 79, 81, 90, 96, api.DiskSectors}[next(8)]
		d, o := disk.New(sectors), disk.New(sectors)
		base := []uint32{0, 5, math.MaxUint32 - 5}[next(3)]
		for step := range 600 {
			switch kind := next(40); {
			case kind < 18:
				gen, b := base+uint32(next(6)), marks(next(130), step)
				if kind == 0 {
					b = marks(next(1000), step)
				}
				if got, want := Save(d, gen, b), expectedSave(o, gen, b); got != want {
					t.Fatalf("round %d, step %d: Save: %d, want %d", round, step, got, want)
				}
			case kind < 32:
				g, got, e := Load(d)
				wg, want, we := expected(o)
				if g != wg || e != we || !bytes.Equal(got, want) {
					t.Fatalf("round %d, step %d: Load: %d % x %d, want %d % x %d", round, step, g, got, e, wg, want, we)
				}
			case kind < 35:
				first, count := next(9), next(3)
				d.Fail(first, count)
				o.Fail(first, count)
			case kind < 37:
				n := next(9)
				d.Fuse(n)
				o.Fuse(n)
			default:
				keep, torn := uint64(next(16)), next(size+1)
				d.Crash(keep, torn)
				o.Crash(keep, torn)
			}
			if !slices.Equal(d.Loose(), o.Loose()) {
				t.Fatalf("round %d, step %d: loose %v, want %v", round, step, d.Loose(), o.Loose())
			}
		}
		d.Crash(0, 0)
		o.Crash(0, 0)
		for n := range sectors {
			b, _ := o.Read(n)
			holds(t, d, n, b, "at the end")
		}
	}
}
