// Package pack is layer 1: bytes in and out: numbers, flags and texts, one behind the other. See shared/doc/01-pack.md.
package pack

import "bytes"

// maxText is the greatest length that a text's two bytes of length can tell.
const maxText = 1<<16 - 1

// Out gathers bytes; its zero is ready for use, and nil gathers nothing.
type Out struct {
	put []byte
}

// In takes bytes from the front on; nil is bad and has no byte left.
type In struct {
	left []byte
	bad  bool
}

// To answers an In over these bytes as they are now.
func To(b []byte) *In {
	// A copy, since b may be written over while the In is in use.
	return &In{left: bytes.Clone(b)}
}

// U8 puts a byte.
func (o *Out) U8(x uint8) { o.number(uint64(x), 1) }

// U16 puts two bytes, the highest first.
func (o *Out) U16(x uint16) { o.number(uint64(x), 2) }

// U32 puts four bytes, the highest first.
func (o *Out) U32(x uint32) { o.number(uint64(x), 4) }

// U64 puts eight bytes, the highest first.
func (o *Out) U64(x uint64) { o.number(x, 8) }

// Flag puts a byte: 1 for true, 0 for false.
func (o *Out) Flag(x bool) {
	if x {
		o.U8(1)
	} else {
		o.U8(0)
	}
}

// Text puts the length of s in two bytes, and its bytes; false: it is too long, and nothing is put.
func (o *Out) Text(s string) bool {
	if o == nil || len(s) > maxText {
		return false
	}
	o.U16(uint16(len(s)))
	o.put = append(o.put, s...)
	return true
}

// Bytes answers all that was put, in order.
func (o *Out) Bytes() []byte {
	if o == nil {
		return nil
	}
	return bytes.Clone(o.put)
}

// number puts the lowest size bytes of x, the highest of them first.
func (o *Out) number(x uint64, size int) {
	if o == nil {
		return
	}
	for at := size - 1; at >= 0; at-- {
		o.put = append(o.put, byte(x>>(8*at)))
	}
}

// U8 takes a byte.
func (i *In) U8() uint8 { return uint8(i.number(1)) }

// U16 takes a number of two bytes.
func (i *In) U16() uint16 { return uint16(i.number(2)) }

// U32 takes a number of four bytes.
func (i *In) U32() uint32 { return uint32(i.number(4)) }

// U64 takes a number of eight bytes.
func (i *In) U64() uint64 { return i.number(8) }

// Flag takes a byte that is 0 or 1; any other one makes the In bad.
func (i *In) Flag() bool {
	if i.Left() > 0 && i.left[0] > 1 {
		i.bad = true
	}
	return i.U8() == 1
}

// Text takes a length in two bytes and as many bytes.
func (i *In) Text() string {
	if i.Bad() {
		return ""
	}
	whole := i.left
	s := string(i.next(int(i.U16())))
	if i.bad {
		// A text that isn't whole leaves its length where it was.
		i.left = whole
	}
	return s
}

// Bad tells whether there was something that couldn't be taken.
func (i *In) Bad() bool { return i == nil || i.bad }

// Left answers how many bytes are not taken yet.
func (i *In) Left() int {
	if i == nil {
		return 0
	}
	return len(i.left)
}

// Done tells whether all was taken, and nothing was bad.
func (i *In) Done() bool { return !i.Bad() && i.Left() == 0 }

// number takes size bytes as a number, the highest byte first.
func (i *In) number(size int) uint64 {
	x := uint64(0)
	for _, b := range i.next(size) {
		x = x<<8 | uint64(b)
	}
	return x
}

// next takes the next n bytes; if they aren't there, it takes none, and the In is bad.
func (i *In) next(n int) []byte {
	if i.Bad() {
		return nil
	}
	if len(i.left) < n {
		i.bad = true
		return nil
	}
	b := i.left[:n]
	i.left = i.left[n:]
	return b
}
