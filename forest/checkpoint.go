package forest

import (
	"maps"
	"slices"

	"granary/api"
	"granary/block"
)

// spareSteps is how many steps a checkpoint may take besides one for each node.
const spareSteps = 10

// draft is a checkpoint on its way: the nodes as they were at its first step.
type draft struct {
	header  header // as it will be
	roots   map[int]uint64
	places  map[uint64]*place // of the nodes that are written
	copies  map[uint64][]byte // of those that changed before they were written
	pending []uint64          // the nodes that weren't written at the first step, rising; some are by now
	mapped  bool              // all nodes are written, and the map has been made
	left    []byte            // what isn't written of the map, whose end is written first
	parts   []*place          // the map's parts that are written
	steps   int               // how many steps it may still take
}

// Checkpoint takes a step of one, and tells whether it is done; ErrState, ErrDown, ErrFull.
func (f *Forest) Checkpoint() (bool, api.Errno) {
	if errno := f.state(); errno != api.OK {
		return false, errno
	}
	done, errno := f.step()
	if errno == api.ErrFull {
		f.giveUp()
	}
	return answer(f, done, errno)
}

// step takes the next step of a checkpoint, and tells whether it was the last one; ErrFull, ErrDown.
func (f *Forest) step() (bool, api.Errno) {
	d := f.store.draft
	if d == nil {
		f.store.draft = f.begin()
		return false, api.OK
	}
	d.steps--
	if id, ok := d.next(); ok {
		return false, f.store.settle(id)
	}
	if !d.mapped {
		d.left, d.mapped = mapBytes(d.roots, d.places), true
	}
	if len(d.left) > 0 {
		return false, f.store.writePart()
	}
	return true, f.conclude()
}

// begin answers the checkpoint of what the trees are now.
func (f *Forest) begin() *draft {
	d := &draft{
		header: header{
			mount: f.header.mount,
			// Nothing was written yet by this mount from here on.
			least: f.header.mount,
			head:  f.log.Next(),
			seq:   f.seq,
			setup: f.setup,
		},
		roots:  maps.Clone(f.roots),
		places: map[uint64]*place{},
		copies: map[uint64][]byte{},
		steps:  len(f.store.nodes) + spareSteps - 1,
	}
	for id, p := range f.store.nodes {
		if p == nil {
			d.pending = append(d.pending, id)
		} else {
			d.places[id] = p.hold()
		}
	}
	slices.Sort(d.pending)
	return d
}

// next answers a node that is still to be written, if there is one.
func (d *draft) next() (uint64, bool) {
	for len(d.pending) > 0 {
		if id := d.pending[0]; d.places[id] == nil {
			return id, true
		}
		d.pending = d.pending[1:]
	}
	return 0, false
}

// awaits tells whether a node, as it is now, is still to be written for the checkpoint.
func (d *draft) awaits(id uint64) bool {
	if d == nil || d.places[id] != nil || d.copies[id] != nil {
		return false
	}
	_, is := slices.BinarySearch(d.pending, id)
	return is
}

// settle writes a node for the checkpoint; ErrFull, ErrDown.
func (s *store) settle(id uint64) api.Errno {
	b, changed := s.draft.copies[id]
	if !changed {
		// What is in memory is saved by this too.
		return s.pool.Clean(id)
	}
	p, errno := s.write(b)
	if errno != api.OK {
		return errno
	}
	s.draft.places[id] = p
	delete(s.draft.copies, id)
	return api.OK
}

// writePart writes the next part of the map: all that is left, or as much of it as may be; ErrFull, ErrDown.
func (s *store) writePart() api.Errno {
	d := s.draft
	size := min(len(d.left), mostPart)
	if hole := s.hole(); block.Count(partSize+size) > hole {
		size = hole*api.Piece - partSize
		// Small parts are right as long as there are steps for the rest, and for the last one.
		if size <= 0 || partsOf(len(d.left)-size)+1 > d.steps {
			return api.ErrFull
		}
	}
	from := len(d.left) - size
	p, errno := s.write(partBytes(d.header, d.left[from:]))
	if errno != api.OK {
		return errno
	}
	d.parts = append(d.parts, p)
	d.header.start, d.header.block = p.start, p.block
	d.left = d.left[:from]
	return api.OK
}

// conclude makes the checkpoint the one from which a mount starts; ErrDown.
func (f *Forest) conclude() api.Errno {
	d := f.store.draft
	d.header.turn = f.header.turn + 1
	if errno := d.header.write(f.disk); errno != api.OK {
		return errno
	}
	f.header = d.header
	f.store.releaseAll(f.needed)
	f.needed = d.blocks()
	f.store.draft = nil
	return f.log.Trim(f.header.head)
}

// giveUp ends a checkpoint that isn't done.
func (f *Forest) giveUp() {
	f.store.releaseAll(f.store.draft.blocks())
	f.store.draft = nil
}

// blocks answers the places that the checkpoint holds.
func (d *draft) blocks() []*place {
	return append(d.parts, slices.Collect(maps.Values(d.places))...)
}

// releaseAll lets one less hold each of these places.
func (s *store) releaseAll(l []*place) {
	for _, p := range l {
		s.release(p)
	}
}
