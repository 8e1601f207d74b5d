package pool

import (
	"slices"

	"granary/api"
)

// find answers the place of a thing, which comes if it has none; ErrState, Load's errors.
func (p *Pool) find(id uint64) (*place, api.Errno) {
	if p == nil {
		return nil, api.ErrState
	}
	if at, ok := p.at[id]; ok {
		return at, api.OK
	}
	b, errno := p.back.Load(id)
	if errno != api.OK {
		return nil, errno
	}
	at := p.come(id)
	at.bytes = slices.Clone(b)
	return at, api.OK
}

// come gives a thing a new place at the row's end.
func (p *Pool) come(id uint64) *place {
	at := &place{id: id}
	p.row = append(p.row, at)
	p.at[id] = at
	return at
}

// out takes the place with this index out of the row; the hand stays at its thing, or at the one behind.
func (p *Pool) out(index int) {
	delete(p.at, p.row[index].id)
	p.row = slices.Delete(p.row, index, index+1)
	if p.hand > index {
		p.hand--
	}
	if p.hand == len(p.row) {
		p.hand = 0
	}
}

// room lets things go as long as there are more than the most, till one can't.
func (p *Pool) room() {
	for len(p.row) > p.most {
		if _, errno := p.goes(); errno != api.OK {
			return
		}
	}
}

// goes lets the first thing go, from the hand on, that is neither pinned nor used; ErrBusy, Save's errors.
func (p *Pool) goes() (uint64, api.Errno) {
	index, ok := p.next()
	if !ok {
		return 0, api.ErrBusy
	}
	p.hand = index
	at := p.row[index]
	if errno := p.save(at); errno != api.OK {
		return 0, errno
	}
	p.out(index)
	return at.id, api.OK
}

// next answers the index of the place that may go first; those that were used have to be passed once. False: all are pinned.
func (p *Pool) next() (int, bool) {
	for i := range 2 * len(p.row) {
		index := (p.hand + i) % len(p.row)
		at := p.row[index]
		switch {
		case at.pins > 0:
		case at.used:
			at.used = false
		default:
			return index, true
		}
	}
	return 0, false
}

// save saves a thing if it is dirty; Save's errors.
func (p *Pool) save(at *place) api.Errno {
	if !at.dirty {
		return api.OK
	}
	if errno := p.back.Save(at.id, at.bytes); errno != api.OK {
		return errno
	}
	at.dirty = false
	return api.OK
}
