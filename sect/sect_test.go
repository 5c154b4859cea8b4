package sect

import (
	"headland/api"
	"math"
	"slices"
	"testing"
)

// states, steps and zones are all that there are.
var (
	states = []int{api.Absent, api.Off, api.Normal, api.Movable}
	steps  = []int{api.StepAdd, api.StepOnline, api.StepOffline, api.StepRemove}
	zones  = []int{api.Normal, api.Movable}
)

// wide are numbers far beyond all ends.
func wide() []int {
	return []int{math.MinInt, math.MinInt + 1, -1 << 59, -1 << 32, -api.MaxFrames, -api.SectFrames - 1, -api.SectFrames, -2, -1,
		2 * api.MaxFrames, 1 << 32, 1<<32 + 1, 1<<32 + 2, 1<<32 + 3, 1 << 58, 1 << 59, 1<<59 + 1, math.MaxInt - 1, math.MaxInt}
}

// around are the numbers near those that there are, and wide ones.
func around() []int {
	list := wide()
	for n := range 30 {
		list = append(list, n)
	}
	return list
}

// others are the numbers of around that are none of these.
func others(these []int) []int {
	return slices.DeleteFunc(around(), func(n int) bool { return slices.Contains(these, n) })
}

// next fails if Next does not answer that.
func next(t *testing.T, state, step, zone, want int, e api.Errno) {
	t.Helper()
	if n, got := Next(state, step, zone); n != want || got != e {
		t.Errorf("Next(%d, %d, %d): %d %d, want %d %d", state, step, zone, n, got, want, e)
	}
}

// P9.1: the chapter's example.
func TestExample(t *testing.T) {
	next(t, api.Absent, api.StepAdd, 0, api.Off, api.OK)
}

// P9.1: StepAdd from each state, whatever the zone.
func TestAdd(t *testing.T) {
	for _, zone := range around() {
		next(t, api.Absent, api.StepAdd, zone, api.Off, api.OK)
		next(t, api.Off, api.StepAdd, zone, 0, api.ErrThere)
		next(t, api.Normal, api.StepAdd, zone, 0, api.ErrThere)
		next(t, api.Movable, api.StepAdd, zone, 0, api.ErrThere)
	}
}

// P9.1: StepOnline from each state, into each zone.
func TestOnline(t *testing.T) {
	for _, zone := range zones {
		next(t, api.Absent, api.StepOnline, zone, 0, api.ErrNone)
		next(t, api.Off, api.StepOnline, zone, zone, api.OK)
		next(t, api.Normal, api.StepOnline, zone, 0, api.ErrThere)
		next(t, api.Movable, api.StepOnline, zone, 0, api.ErrThere)
	}
}

// P9.1: StepOnline into what is neither Normal nor Movable, from each state: ErrArg,
// which is named ahead of ErrNone and ErrThere.
func TestOnlineOfNoZone(t *testing.T) {
	for _, zone := range others(zones) {
		for _, state := range states {
			next(t, state, api.StepOnline, zone, 0, api.ErrArg)
		}
	}
}

// P9.1: StepOffline from each state, whatever the zone.
func TestOffline(t *testing.T) {
	for _, zone := range around() {
		next(t, api.Absent, api.StepOffline, zone, 0, api.ErrNone)
		next(t, api.Off, api.StepOffline, zone, 0, api.ErrNone)
		next(t, api.Normal, api.StepOffline, zone, 0, api.ErrBusy)
		next(t, api.Movable, api.StepOffline, zone, api.Off, api.OK)
	}
}

// P9.1: StepRemove from each state, whatever the zone.
func TestRemove(t *testing.T) {
	for _, zone := range around() {
		next(t, api.Absent, api.StepRemove, zone, 0, api.ErrNone)
		next(t, api.Off, api.StepRemove, zone, api.Absent, api.OK)
		next(t, api.Normal, api.StepRemove, zone, 0, api.ErrBusy)
		next(t, api.Movable, api.StepRemove, zone, 0, api.ErrBusy)
	}
}

// P9.1: a state that is none, by each step and by what is none, into any zone.
func TestNoState(t *testing.T) {
	for _, state := range others(states) {
		for _, step := range around() {
			for _, zone := range around() {
				next(t, state, step, zone, 0, api.ErrArg)
			}
		}
	}
}

// P9.1: a step that is none of the four, those of other things among them, from each
// state and from what is none, into any zone.
func TestNoStep(t *testing.T) {
	for _, step := range others(steps) {
		for _, state := range around() {
			for _, zone := range around() {
				next(t, state, step, zone, 0, api.ErrArg)
			}
		}
	}
}

// walk does steps one after the other from a state on, each with this zone, up to
// the first that is refused, and answers where that was, and why.
func walk(state, zone int, steps ...int) (int, api.Errno) {
	for _, step := range steps {
		n, e := Next(state, step, zone)
		if e != api.OK {
			return state, e
		}
		state = n
	}
	return state, api.OK
}

// P9.1: rounds that come back to where they began, once and again, and ones that do
// not.
func TestRounds(t *testing.T) {
	const add, online, offline, remove = api.StepAdd, api.StepOnline, api.StepOffline, api.StepRemove
	for _, c := range []struct {
		state, zone int
		steps       []int
		want        int
		e           api.Errno
	}{
		{api.Absent, 0, []int{add, remove}, api.Absent, api.OK},
		{api.Absent, 0, []int{add, remove, add, remove}, api.Absent, api.OK},
		{api.Off, 0, []int{remove, add}, api.Off, api.OK},
		{api.Off, api.Movable, []int{online, offline}, api.Off, api.OK},
		{api.Movable, api.Movable, []int{offline, online}, api.Movable, api.OK},
		{api.Absent, api.Movable, []int{add, online, offline, remove}, api.Absent, api.OK},
		{api.Absent, api.Movable, []int{add, online, offline, online, offline, remove, add}, api.Off, api.OK},
		{api.Movable, api.Movable, []int{offline, remove, add, online}, api.Movable, api.OK},
		{api.Movable, api.Normal, []int{offline, online}, api.Normal, api.OK},
		{api.Off, api.Normal, []int{online, offline}, api.Normal, api.ErrBusy},
		{api.Absent, api.Normal, []int{add, online, remove}, api.Normal, api.ErrBusy},
		{api.Absent, api.Movable, []int{add, online, remove}, api.Movable, api.ErrBusy},
		{api.Absent, api.Movable, []int{add, online, online}, api.Movable, api.ErrThere},
		{api.Absent, api.Movable, []int{add, online, add}, api.Movable, api.ErrThere},
		{api.Absent, api.Movable, []int{add, online, offline, offline}, api.Off, api.ErrNone},
		{api.Absent, api.Movable, []int{add, online, offline, add}, api.Off, api.ErrThere},
		{api.Absent, api.Movable, []int{add, remove, online}, api.Absent, api.ErrNone},
		{api.Absent, api.Movable, []int{add, remove, remove}, api.Absent, api.ErrNone},
		{api.Absent, api.Movable, []int{add, remove, offline}, api.Absent, api.ErrNone},
		{api.Absent, api.Absent, []int{add, online}, api.Off, api.ErrArg},
		{api.Absent, api.Off, []int{add, online}, api.Off, api.ErrArg},
	} {
		for range 2 {
			if n, e := walk(c.state, c.zone, c.steps...); n != c.want || e != c.e {
				t.Errorf("%+v: %d %d", c, n, e)
			}
		}
	}
}

// frames fails if Frames does not answer that.
func frames(t *testing.T, sect, from, to int) {
	t.Helper()
	if a, b := Frames(sect); a != from || b != to {
		t.Errorf("Frames(%d): %d %d, want %d %d", sect, a, b, from, to)
	}
}

// of fails if Of does not answer that.
func of(t *testing.T, frame, sect int, there bool) {
	t.Helper()
	if n, ok := Of(frame); n != sect || ok != there {
		t.Errorf("Of(%d): %d %v, want %d %v", frame, n, ok, sect, there)
	}
}

// P9.1: the frames of the first section and the last one, and of some between.
func TestFrames(t *testing.T) {
	frames(t, 0, 0, 32)
	frames(t, 1, 32, 64)
	frames(t, 2, 64, 96)
	frames(t, 17, 544, 576)
	frames(t, 30, 960, 992)
	frames(t, 31, 992, 1024)
}

// P9.1: a section that there is not has none: one below 0, one beyond, and far
// beyond, where the number of a frame would wrap round.
func TestFramesOfNoSection(t *testing.T) {
	for _, sect := range append(wide(), 32, 33, 63, 64, 992, 1023, 1024) {
		frames(t, sect, 0, 0)
	}
}

// P9.1: the section of its first frame and of its last one, of each section.
func TestOf(t *testing.T) {
	of(t, 0, 0, true)
	of(t, 1, 0, true)
	of(t, 31, 0, true)
	of(t, 32, 1, true)
	of(t, 63, 1, true)
	of(t, 64, 2, true)
	of(t, 991, 30, true)
	of(t, 992, 31, true)
	of(t, 1022, 31, true)
	of(t, 1023, 31, true)
}

// P9.1: a frame that there is not has none.
func TestOfNoFrame(t *testing.T) {
	for _, frame := range append(wide(), -31, -3, 1024, 1025, 1055, 1056) {
		of(t, frame, 0, false)
	}
}

// P9.1: Frames and Of, held against each other: each frame is in one section, which
// is its own, and no frame is in two.
func TestFramesAndOf(t *testing.T) {
	seen := map[int]int{}
	for sect := -3; sect < api.MaxSects+3; sect++ {
		from, to := Frames(sect)
		for frame := from; frame < to; frame++ {
			of(t, frame, sect, true)
			seen[frame]++
		}
	}
	for frame := -40; frame < api.MaxFrames+40; frame++ {
		sect, ok := Of(frame)
		if !ok {
			if seen[frame] != 0 {
				t.Errorf("frame %d is in %d sections, and has none", frame, seen[frame])
			}
			continue
		}
		if from, to := Frames(sect); frame < from || frame >= to || seen[frame] != 1 {
			t.Errorf("frame %d: of section %d, %d to %d, and in %d sections", frame, sect, from, to, seen[frame])
		}
	}
}
