package space

import (
	"headland/api"
	"headland/area"
	"headland/cache"
	"headland/file"
)

// end is the address behind the last page.
const end = api.MaxPages * api.PageSize

// piece is some bytes of a frame.
type piece struct{ frame, at, n int }

// Load answers n bytes of a process, from an address on.
func (s *Space) Load(proc, at, n int) ([]byte, api.Errno) {
	list, no := s.ask(proc, at, n, false)
	if no != api.OK {
		return nil, no
	}
	return s.read(list)
}

// Store makes b be a process's bytes from an address on. They are read ahead of the
// first one that is written, since what can be read can be written. That the page of a
// file is dirty is known from then on alone, so that a Store that is refused leaves it
// clean.
func (s *Space) Store(proc, at int, b []byte) api.Errno {
	list, no := s.ask(proc, at, len(b), true)
	if no != api.OK {
		return no
	}
	if _, no := s.read(list); no != api.OK {
		return no
	}
	for _, x := range list {
		s.Ram.Write(x.frame, x.at, b[:x.n])
		if k, ok := s.Cache.Of(x.frame); ok {
			s.Cache.Mark(k, true)
		}
		b = b[x.n:]
	}
	return api.OK
}

// read answers the bytes of pieces, one behind the other.
func (s *Space) read(list []piece) ([]byte, api.Errno) {
	var all []byte
	for _, x := range list {
		b, no := s.Ram.Read(x.frame, x.at, x.n)
		if no != api.OK {
			return nil, no
		}
		all = append(all, b...)
	}
	return all, api.OK
}

// ask asks for each page on the way of n bytes, in order, and answers where they are.
// Nothing is added to at ahead of its being right, as a sum could wrap round.
func (s *Space) ask(proc, at, n int, write bool) ([]piece, api.Errno) {
	if s.all()[proc] == nil {
		return nil, api.ErrNone
	}
	if n < 0 || n > api.MaxIO || at < 0 || at > end-n {
		return nil, api.ErrArg
	}
	var list []piece
	for n > 0 {
		f, no := s.page(api.Place{Proc: proc, Page: at / api.PageSize}, write)
		if no != api.OK {
			return nil, no
		}
		from := at % api.PageSize
		x := piece{f, from, min(n, api.PageSize-from)}
		list = append(list, x)
		at, n = at+x.n, n-x.n
	}
	return list, api.OK
}

// page asks for a page of a process that is there, and answers its frame.
func (s *Space) page(p api.Place, write bool) (int, api.Errno) {
	x := s.procs[p.Proc]
	a, ok := area.Find(x.areas, p.Page)
	if !ok || write && !a.Write {
		return 0, api.ErrDenied
	}
	e, no := x.tree.Get(p.Page)
	if no != api.OK {
		return 0, no
	}
	f, no := s.come(p, a, e)
	if no != api.OK || !write || a.Kind == api.Shared {
		return f, no
	}
	return s.alone(p, f)
}

// come answers the frame of a page of an area, by its entry: one that it has, or comes
// into.
func (s *Space) come(p api.Place, a api.Area, e api.Entry) (int, api.Errno) {
	switch {
	case e.Kind == api.Frame:
		return e.N, api.OK
	case e.Kind == api.Lost:
		s.Tell(p.Proc, p.Page*api.PageSize)
		return 0, api.ErrPoison
	case e.Kind == api.Slot:
		return s.fromSlot(p, e.N)
	case a.Kind == api.Own:
		return s.bring(p, api.Anon, s.Ram.Zero)
	}
	return s.fromFile(p, cache.Key{File: a.File, Page: a.Off + p.Page - a.From})
}

// fromSlot makes p, and all others who hold a slot, have a frame with its bytes.
func (s *Space) fromSlot(p api.Place, slot int) (int, api.Errno) {
	f, no := s.bring(p, api.Anon, s.filled(func() ([]byte, api.Errno) {
		return file.ReadSlot(s.Disk, slot)
	}))
	if no != api.OK {
		return 0, no
	}
	for _, q := range s.Swap.Of(slot) {
		s.Put(q, api.Entry{Kind: api.Frame, N: f})
	}
	return f, api.OK
}

// fromFile makes p have the frame of a page of a file. One that is new is the page's
// only when p has it, so that nothing of it is left where p can not.
func (s *Space) fromFile(p api.Place, k cache.Key) (int, api.Errno) {
	if f, ok := s.Cache.Frame(k); ok {
		return s.has(p, f)
	}
	f, no := s.bring(p, api.Cache, s.filled(func() ([]byte, api.Errno) {
		return file.Read(s.Disk, k.File, k.Page)
	}))
	if no != api.OK {
		return 0, no
	}
	s.Cache.Put(k, f)
	return f, api.OK
}

// alone answers a frame that p may write and nobody else sees: f, or another one that
// has the same bytes.
func (s *Space) alone(p api.Place, f int) (int, api.Errno) {
	if _, ok := s.Cache.Of(f); !ok && len(s.Back.Of(f)) < 2 {
		return f, api.OK
	}
	return s.bring(p, api.Anon, func(to int) api.Errno {
		return s.Ram.Copy(f, to)
	})
}

// bring makes p have a new frame of that use, which a function fills. If it is not
// filled, or p can not have it, it is Free again.
func (s *Space) bring(p api.Place, use int, fill func(f int) api.Errno) (int, api.Errno) {
	f, no := s.Pool.Alloc(use, 0, true)
	if no != api.OK {
		return 0, no
	}
	if no = fill(f); no == api.OK {
		_, no = s.has(p, f)
	}
	if no != api.OK {
		s.Pool.Free(f)
		return 0, no
	}
	return f, api.OK
}

// has makes p have a frame, and answers it.
func (s *Space) has(p api.Place, f int) (int, api.Errno) {
	if no := s.Put(p, api.Entry{Kind: api.Frame, N: f}); no != api.OK {
		return 0, no
	}
	return f, api.OK
}

// filled answers a function that fills a frame with what is read: not ahead of there
// being a frame, as a disk counts what it does.
func (s *Space) filled(read func() ([]byte, api.Errno)) func(f int) api.Errno {
	return func(f int) api.Errno {
		b, no := read()
		if no != api.OK {
			return no
		}
		return s.Ram.Write(f, 0, b)
	}
}
