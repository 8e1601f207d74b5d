package forest

import (
	"maps"
	"slices"

	"granary/api"
	"granary/block"
	"granary/disk"
	"granary/pack"
	"granary/tree"
	"granary/wal"
)

// Mount answers the forest that is on a disk, with no transaction open; ErrState, ErrArg, ErrBad, ErrDown.
func Mount(d *disk.Disk, c api.Setup) (*Forest, api.Errno) {
	if errno := mayHold(d, c); errno != api.OK {
		return nil, errno
	}
	h, there := newest(d)
	if !there || !h.isOf(c) {
		return nil, api.ErrBad
	}
	f := &Forest{
		disk: d, setup: c, header: h, seq: h.seq,
		store: newStore(d, c, h.mount+1),
		roots: map[int]uint64{}, open: map[uint64][]spot{}, owner: map[spot]uint64{},
	}
	if !f.loadMap() || !f.loadTouched() {
		return nil, api.ErrBad
	}
	return answer(f, f, f.start())
}

// start makes what was loaded what it was behind the last record of the log, and ends the transactions that are open then; ErrBad, ErrDown.
func (f *Forest) start() api.Errno {
	// Nothing may be written by a mount of which no header tells.
	f.header.turn++
	f.header.mount++
	if errno := f.header.write(f.disk); errno != api.OK {
		return errno
	}
	log, recs, errno := wal.Open(f.disk, ringStart, f.setup.Log, f.header.least, f.header.mount, f.header.head)
	if errno != api.OK {
		return api.ErrBad
	}
	f.log = log
	for _, rec := range recs {
		r, ok := readRecord(rec.Data)
		if !ok || !f.mayApply(r) {
			return api.ErrBad
		}
		f.apply(r)
	}
	for _, txn := range f.Txns() {
		// Else a later transaction of this number would be taken for the same one.
		if errno := f.Abort(txn); errno != api.OK {
			return errno
		}
	}
	return api.OK
}

// mayApply tells whether a record may have been logged in the state that the forest is in.
func (f *Forest) mayApply(r record) bool {
	if r.kind == recDo {
		return f.mayDo(r.txn, r.ops) == api.OK
	}
	return f.isOpen(r.txn)
}

// loadMap reads the map, and takes the sectors of all that it needs; false: it is none.
func (f *Forest) loadMap() bool {
	var b []byte
	for h := f.header; h.block != 0; {
		data, ok := f.take(h.start, h.block)
		if !ok {
			return false
		}
		part, ok := readPart(&h, data)
		if !ok {
			return false
		}
		b = append(b, part...)
	}
	return len(b) == 0 || f.readMap(pack.To(b))
}

// take takes the sectors of a block for the checkpoint, and answers what it holds.
func (f *Forest) take(start int, id uint64) ([]byte, bool) {
	b, errno := block.Read(f.disk, start, id)
	if errno != api.OK {
		return nil, false
	}
	p := &place{start: start, count: block.Count(len(b)), block: id, holders: 1}
	f.needed = append(f.needed, p)
	return b, f.store.space.Take(start, p.count) == api.OK
}

// readMap takes in the trees and the nodes that the map tells.
func (f *Forest) readMap(in *pack.In) bool {
	for range in.U16() {
		number := int(in.U16())
		f.roots[number] = uint64(in.U32())
	}
	for !in.Bad() && in.Left() > 0 {
		id := uint64(in.U32())
		start, number := int(in.U16()), in.U64()
		if _, ok := f.take(start, number); !ok {
			return false
		}
		f.store.nodes[id] = f.needed[len(f.needed)-1].hold()
		f.store.last = max(f.store.last, id)
	}
	return in.Done()
}

// loadTouched finds what open transactions have touched: their marks are in the entries; false: a tree isn't sound.
func (f *Forest) loadTouched() bool {
	for _, number := range slices.Sorted(maps.Keys(f.roots)) {
		root := f.roots[number]
		if !tree.Sound(f.store, f.setup.Shape, root) {
			return false
		}
		l, errno := tree.Scan(f.store, root, api.Span{Open: true}, -1)
		if errno != api.OK {
			return false
		}
		for _, e := range l {
			if e.Txn != 0 {
				f.touch(e.Txn, spot{number, e.Key})
			}
		}
	}
	return true
}
