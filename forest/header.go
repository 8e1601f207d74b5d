package forest

import (
	"bytes"

	"granary/api"
	"granary/disk"
	"granary/pack"
	"granary/tree"
)

// The file: two headers, the log's ring behind them, and then blocks.
const (
	headers   = 2
	ringStart = headers
)

// The bounds of a setup.
const (
	leastSectors        = 64
	leastLog, mostLog   = 8, 1024
	leastRest           = 32 // sectors that aren't the log's
	mostLeaf, mostBuf   = 24, 32
	mostCache, mostRows = 256, 32
)

// mark is what a header begins with: the bytes of "granary1".
const mark uint64 = 0x6772616e61727931

// header tells where a mount starts. There are two sectors for it, written by turns: so the one that was written last is there as long as the next one isn't.
type header struct {
	turn  uint64 // the later one of two headers has the greater one
	mount uint32 // the greatest one by which anything was written
	least uint32 // the least one whose records count
	head  uint64 // the piece at which the log begins
	seq   uint64 // that of the last message in the trees
	start int    // where the first part of the map lies
	block uint64 // its number; 0: there is no map, as there are no trees
	setup api.Setup
}

// mayHold tells whether a forest of this setup may lie on a disk; ErrState, ErrArg.
func mayHold(d *disk.Disk, c api.Setup) api.Errno {
	if d == nil {
		return api.ErrState
	}
	if !isSetup(c) || d.Size() != c.Sectors {
		return api.ErrArg
	}
	return api.OK
}

// isSetup tells whether a setup is right.
func isSetup(c api.Setup) bool {
	return within(c.Sectors, leastSectors, api.MaxSectors) &&
		within(c.Log, leastLog, mostLog) && c.Log <= c.Sectors-leastRest &&
		isShape(c.Shape) && c.Shape.Leaf <= mostLeaf && c.Shape.Buf <= mostBuf &&
		within(c.Cache, 1, mostCache) && within(c.Rows, 1, mostRows)
}

// isShape tells whether trees may have this shape.
func isShape(sh api.Shape) bool {
	_, errno := tree.Make(tree.NewMem(), sh)
	return errno == api.OK
}

// within tells whether x is one of from to to.
func within(x, from, to int) bool { return x >= from && x <= to }

// newest answers the header that was written last, if there is one.
func newest(d *disk.Disk) (header, bool) {
	var last header
	there := false
	for sector := range headers {
		h, ok := readHeader(d, sector)
		if ok && (!there || h.turn > last.turn) {
			last, there = h, true
		}
	}
	return last, there
}

// readHeader answers the header that a sector holds, if it holds one.
func readHeader(d *disk.Disk, sector int) (header, bool) {
	b, errno := d.Read(sector)
	if errno != api.OK {
		return header{}, false
	}
	in := pack.To(b)
	in.U64()
	h := header{turn: in.U64(), mount: in.U32(), least: in.U32(), head: in.U64(), seq: in.U64()}
	h.start, h.block = int(in.U16()), in.U64()
	h.setup.Sectors, h.setup.Log = int(in.U16()), int(in.U16())
	h.setup.Shape = api.Shape{Leaf: int(in.U8()), Fan: int(in.U8()), Buf: int(in.U8())}
	// What isn't just as a header is written is none.
	return h, bytes.Equal(b, h.bytes())
}

// bytes answers the header's sector.
func (h header) bytes() []byte {
	o := &pack.Out{}
	o.U64(mark)
	o.U64(h.turn)
	o.U32(h.mount)
	o.U32(h.least)
	o.U64(h.head)
	o.U64(h.seq)
	o.U16(uint16(h.start))
	o.U64(h.block)
	o.U16(uint16(h.setup.Sectors))
	o.U16(uint16(h.setup.Log))
	o.U8(uint8(h.setup.Shape.Leaf))
	o.U8(uint8(h.setup.Shape.Fan))
	o.U8(uint8(h.setup.Shape.Buf))
	return append(o.Bytes(), make([]byte, api.Sector-len(o.Bytes()))...)
}

// write makes the header the one from which a mount starts, and keeps all that was written ahead of it; ErrDown.
func (h header) write(d *disk.Disk) api.Errno {
	// What the header needs has to be there wherever the header is.
	if errno := d.Sync(); errno != api.OK {
		return errno
	}
	if errno := d.Write(int(h.turn%headers), h.bytes()); errno != api.OK {
		return errno
	}
	return d.Sync()
}

// isOf tells whether the header is one of a forest that was formatted with this setup.
func (h header) isOf(c api.Setup) bool {
	return h.setup.Sectors == c.Sectors && h.setup.Log == c.Log && h.setup.Shape == c.Shape
}

// wipe lays zeros over sectors; ErrDown.
func wipe(d *disk.Disk, start, count int) api.Errno {
	for i := range count {
		if errno := d.Write(start+i, nil); errno != api.OK {
			return errno
		}
	}
	return api.OK
}
