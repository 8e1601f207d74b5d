package forest

import (
	"maps"
	"slices"

	"granary/api"
	"granary/pack"
)

// A part of the map begins with where the part behind it lies.
const (
	partSize = 10
	mostPart = api.MaxBlock - partSize
)

// partsOf answers how many parts a map of so many bytes has at least.
func partsOf(size int) int { return (size + mostPart - 1) / mostPart }

// partBytes answers a part of the map, ahead of the one that a header tells as the first one.
func partBytes(h header, b []byte) []byte {
	o := &pack.Out{}
	o.U16(uint16(h.start))
	o.U64(h.block)
	return append(o.Bytes(), b...)
}

// readPart answers what a part of the map holds, and lets the header tell the part behind it as the first one; false: it is no part.
func readPart(h *header, b []byte) ([]byte, bool) {
	in := pack.To(b)
	h.start, h.block = int(in.U16()), in.U64()
	if in.Bad() {
		return nil, false
	}
	return b[partSize:], true
}

// mapBytes answers the map: the roots of the trees, and where the nodes lie; nothing, if there are none.
func mapBytes(roots map[int]uint64, places map[uint64]*place) []byte {
	if len(places) == 0 {
		return nil
	}
	o := &pack.Out{}
	o.U16(uint16(len(roots)))
	for _, number := range slices.Sorted(maps.Keys(roots)) {
		o.U16(uint16(number))
		o.U32(uint32(roots[number]))
	}
	for _, id := range slices.Sorted(maps.Keys(places)) {
		o.U32(uint32(id))
		o.U16(uint16(places[id].start))
		o.U64(places[id].block)
	}
	return o.Bytes()
}
