package block

import (
	"bytes"
	"encoding/binary"
	"math"
	"math/rand"
	"slices"
	"strings"
	"testing"

	"granary/api"
	"granary/disk"
)

// sizes are lengths of data at the edges of sectors.
var sizes = []int{0, 1, 2, 49, 50, 51, 99, 100, 101, 149, 150, 151, 249, 250, 251}

// newDisk answers a disk of so many sectors, each of which holds bytes that are no block's, kept.
func newDisk(t *testing.T, n int) *disk.Disk {
	t.Helper()
	d, e := disk.New(n)
	if e != api.OK || d == nil {
		t.Fatalf("New(%d): %d", n, e)
	}
	for i := range n {
		put(t, d, i, old(i))
	}
	if e := d.Sync(); e != api.OK {
		t.Fatalf("Sync: %d", e)
	}
	return d
}

// old is what stands in sector i of newDisk's disks.
func old(i int) string { return strings.Repeat(string([]byte{0xc1 + byte(i%7)}), 64) }

// put writes a sector by hand.
func put(t *testing.T, d *disk.Disk, i int, s string) {
	t.Helper()
	if e := d.Write(i, []byte(s)); e != api.OK {
		t.Fatalf("the disk's Write(%d): %d", i, e)
	}
}

// at answers sector i.
func at(t *testing.T, d *disk.Disk, i int) string {
	t.Helper()
	b, e := d.Read(i)
	if e != api.OK {
		t.Fatalf("the disk's Read(%d): %d", i, e)
	}
	return string(b)
}

// raw lays a sector by hand, of any numbers; what is behind 64 bytes is cut off.
func raw(id uint64, place, count, n int, data string) string {
	b := binary.BigEndian.AppendUint64(nil, id)
	b = binary.BigEndian.AppendUint16(b, uint16(place))
	b = binary.BigEndian.AppendUint16(b, uint16(count))
	b = binary.BigEndian.AppendUint16(b, uint16(n))
	b = append(b, data...)
	return string(append(b, make([]byte, 64)...)[:64])
}

// laid lays a block's sectors by hand.
func laid(id uint64, data string) []string {
	pieces := []string{}
	for len(data) > 50 {
		pieces = append(pieces, data[:50])
		data = data[50:]
	}
	pieces = append(pieces, data)
	sectors := []string{}
	for place, p := range pieces {
		sectors = append(sectors, raw(id, place, len(pieces), len(p), p))
	}
	return sectors
}

// text is n bytes of data without a zero, others for each seed.
func text(seed, n int) string {
	b := make([]byte, n)
	for i := range b {
		b[i] = byte(1 + (seed*41+i*7+i/50)%255)
	}
	return string(b)
}

// writes asks what Write answers.
func writes(t *testing.T, d *disk.Disk, start int, id uint64, data string, want api.Errno) {
	t.Helper()
	if e := Write(d, start, id, []byte(data)); e != want {
		t.Errorf("Write(%d, %d, %d bytes): %d, want %d", start, id, len(data), e, want)
	}
}

// reads asks for the data of a block.
func reads(t *testing.T, d *disk.Disk, start int, id uint64, want string) {
	t.Helper()
	if b, e := Read(d, start, id); e != api.OK || string(b) != want {
		t.Errorf("Read(%d, %d): %d bytes, %d, want %d bytes", start, id, len(b), e, len(want))
	}
}

// refuses asks for an error of Read, and no data beside it.
func refuses(t *testing.T, d *disk.Disk, start int, id uint64, want api.Errno) {
	t.Helper()
	if b, e := Read(d, start, id); e != want || b != nil {
		t.Errorf("Read(%d, %d): %d bytes, %d, want %d", start, id, len(b), e, want)
	}
}

// isOld asks whether all sectors but those from start on are as newDisk left them.
func isOld(t *testing.T, d *disk.Disk, start, count int) {
	t.Helper()
	for i := range d.Size() {
		if (i < start || i >= start+count) && at(t, d, i) != old(i) {
			t.Errorf("sector %d isn't what it was, beside %d sectors from %d on", i, count, start)
		}
	}
}

// P3.1

func TestCountAtEdges(t *testing.T) {
	tests := []struct{ n, want int }{
		{0, 1}, {1, 1}, {49, 1}, {50, 1}, {51, 2}, {99, 2}, {100, 2}, {101, 3},
		{32700, 654}, {32701, 655}, {32750, 655}, {32751, 656}, {32767, 656}, {32768, 656},
		{32769, 0}, {32770, 0}, {32800, 0}, {65536, 0}, {math.MaxInt32, 0}, {math.MaxInt - 49, 0}, {math.MaxInt, 0},
		{-1, 0}, {-2, 0}, {-49, 0}, {-50, 0}, {-51, 0}, {math.MinInt32, 0}, {math.MinInt, 0},
	}
	for _, k := range tests {
		if got := Count(k.n); got != k.want {
			t.Errorf("Count(%d): %d, want %d", k.n, got, k.want)
		}
	}
}

func TestCountOfEachSize(t *testing.T) {
	count, room := 1, 50
	for n := 0; n <= 32768; n++ {
		if n > room {
			count++
			room += 50
		}
		if got := Count(n); got != count {
			t.Fatalf("Count(%d): %d, want %d", n, got, count)
		}
	}
}

// P3.2

func TestWriteLaysSectors(t *testing.T) {
	for _, n := range sizes {
		for _, start := range []int{0, 1, 3} {
			d := newDisk(t, 16)
			before := d.Writes()
			data := text(n, n)
			writes(t, d, start, 77, data, api.OK)
			want := laid(77, data)
			for place, s := range want {
				if got := at(t, d, start+place); got != s {
					t.Errorf("%d bytes from %d on: sector %d of the block is %q, want %q", n, start, place, got, s)
				}
			}
			isOld(t, d, start, len(want))
			if d.Writes()-before != len(want) || d.Waiting() != len(want) || d.Syncs() != 1 {
				t.Errorf("%d bytes: %d writes, of which %d wait, %d syncs", n, d.Writes()-before, d.Waiting(), d.Syncs())
			}
		}
	}
}

func TestWriteBytes(t *testing.T) {
	d := newDisk(t, 8)
	writes(t, d, 2, 7, strings.Repeat("a", 50)+"b", api.OK)
	first := "\x00\x00\x00\x00\x00\x00\x00\x07\x00\x00\x00\x02\x00\x32" + strings.Repeat("a", 50)
	second := "\x00\x00\x00\x00\x00\x00\x00\x07\x00\x01\x00\x02\x00\x01b" + strings.Repeat("\x00", 49)
	if at(t, d, 2) != first || at(t, d, 3) != second {
		t.Errorf("%q and %q", at(t, d, 2), at(t, d, 3))
	}
	writes(t, d, 0, 0x0102030405060708, "", api.OK)
	if got := at(t, d, 0); got != "\x01\x02\x03\x04\x05\x06\x07\x08\x00\x00\x00\x01"+strings.Repeat("\x00", 52) {
		t.Errorf("a block without data: %q", got)
	}
}

func TestWriteGreatestBlock(t *testing.T) {
	d := newDisk(t, 700)
	data := text(3, 32768)
	writes(t, d, 40, 5, data, api.OK)
	want := laid(5, data)
	if len(want) != 656 {
		t.Fatalf("%d sectors were laid by hand", len(want))
	}
	for place, s := range want {
		if at(t, d, 40+place) != s {
			t.Fatalf("sector %d of the block", place)
		}
	}
	// Both numbers of two bytes have a byte of their own above 255.
	if got := at(t, d, 40+600)[8:12]; got != "\x02\x58\x02\x90" {
		t.Errorf("place and count of the sector 600: %q", got)
	}
	isOld(t, d, 40, 656)
	reads(t, d, 40, 5, data)
}

func TestWriteNumbers(t *testing.T) {
	for _, id := range []uint64{1, 255, 256, 1 << 31, 1 << 32, 1<<63 - 1, 1 << 63, math.MaxUint64} {
		d := newDisk(t, 8)
		data := text(1, 120)
		writes(t, d, 4, id, data, api.OK)
		for place, s := range laid(id, data) {
			if at(t, d, 4+place) != s {
				t.Errorf("the number %d: sector %d of the block", id, place)
			}
		}
		reads(t, d, 4, id, data)
		refuses(t, d, 4, id^1<<40, api.ErrBad)
		refuses(t, d, 4, 77, api.ErrBad)
	}
}

func TestWriteUpToTheEndOfTheDisk(t *testing.T) {
	for _, n := range sizes {
		data, count := text(2, n), len(laid(1, text(2, n)))
		d := newDisk(t, 8)
		writes(t, d, 8-count, 9, data, api.OK)
		isOld(t, d, 8-count, count)
		reads(t, d, 8-count, 9, data)
		d = newDisk(t, 8)
		before := d.Writes()
		for _, start := range []int{8 - count + 1, 8, 9, 4096, math.MaxInt - 1, math.MaxInt} {
			writes(t, d, start, 9, data, api.ErrArg)
		}
		isOld(t, d, 0, 0)
		if d.Writes() != before {
			t.Errorf("%d bytes: a block that ends behind the disk was begun", n)
		}
	}
}

func TestWriteOverAWholeDisk(t *testing.T) {
	d := newDisk(t, 8)
	before := d.Writes()
	writes(t, d, 0, 1, text(1, 401), api.ErrArg)
	writes(t, d, 0, 1, text(1, 32768), api.ErrArg)
	if d.Writes() != before {
		t.Error("a block of more sectors than the disk has was begun")
	}
	writes(t, d, 0, 1, text(1, 400), api.OK)
	reads(t, d, 0, 1, text(1, 400))
}

func TestWriteWrong(t *testing.T) {
	tests := []struct {
		name  string
		start int
		id    uint64
		n     int
	}{
		{"the number 0", 0, 0, 10},
		{"the number 0, no data", 0, 0, 0},
		{"one byte too many", 0, 1, 32769},
		{"many bytes too many", 0, 1, 1 << 17},
		{"start -1", -1, 1, 10},
		{"start -1, no data", -1, 1, 0},
		{"start far below 0", math.MinInt, 1, 10},
		{"start behind the disk", 800, 1, 10},
		{"start behind the disk, no data", 800, 1, 0},
		{"start far behind the disk", math.MaxInt, 1, 10},
		{"the greatest block, a sector too far", 145, 1, 32768},
		{"everything", -1, 0, 32769},
	}
	d := newDisk(t, 800)
	before := d.Writes()
	d.Fuse(0)
	for _, down := range []bool{false, true} {
		for _, k := range tests {
			if e := Write(d, k.start, k.id, make([]byte, k.n)); e != api.ErrArg {
				t.Errorf("%s: %d", k.name, e)
			}
		}
		isOld(t, d, 0, 0)
		if d.Writes() != before || d.Waiting() != 0 || d.Down() != down {
			t.Errorf("%d writes, of which %d wait, Down %v", d.Writes()-before, d.Waiting(), d.Down())
		}
		// The fuse is as it was: the power goes with the first right one.
		writes(t, d, 0, 1, "", api.ErrDown)
	}
}

func TestWriteToNoDisk(t *testing.T) {
	for _, start := range []int{-1, 0, 8} {
		for _, id := range []uint64{0, 1} {
			for _, n := range []int{0, 51, 32769} {
				if e := Write(nil, start, id, make([]byte, n)); e != api.ErrState {
					t.Errorf("Write(nil, %d, %d, %d bytes): %d", start, id, n, e)
				}
			}
		}
	}
}

func TestPowerGoesWithinAWrite(t *testing.T) {
	for _, n := range []int{0, 50, 51, 150, 230} {
		data := text(4, n)
		want := laid(6, data)
		for fuse := 0; fuse <= len(want); fuse++ {
			d := newDisk(t, 8)
			before := d.Writes()
			d.Fuse(fuse)
			if fuse == len(want) {
				writes(t, d, 2, 6, data, api.OK)
			} else {
				writes(t, d, 2, 6, data, api.ErrDown)
			}
			for place := range fuse {
				if at(t, d, 2+place) != want[place] {
					t.Errorf("%d bytes, fuse %d: sector %d of the block isn't laid", n, fuse, place)
				}
			}
			isOld(t, d, 2, fuse)
			if d.Writes()-before != fuse || d.Waiting() != fuse || d.Down() != (fuse < len(want)) {
				t.Errorf("%d bytes, fuse %d: %d writes, %d wait, Down %v", n, fuse, d.Writes()-before, d.Waiting(), d.Down())
			}
			if fuse < len(want) {
				refuses(t, d, 2, 6, api.ErrBad)
			} else {
				reads(t, d, 2, 6, data)
			}
			// Were it all kept, it would still be less than the block.
			d.Crash([]int{1, 1, 1, 1, 1})
			if fuse < len(want) {
				refuses(t, d, 2, 6, api.ErrBad)
			} else {
				reads(t, d, 2, 6, data)
			}
		}
	}
}

func TestWriteWithoutPower(t *testing.T) {
	d := newDisk(t, 8)
	writes(t, d, 0, 1, "abc", api.OK)
	d.Fuse(0)
	for range 3 {
		writes(t, d, 2, 2, text(1, 120), api.ErrDown)
		isOld(t, d, 0, 1)
		reads(t, d, 0, 1, "abc")
	}
	d.Crash([]int{1})
	reads(t, d, 0, 1, "abc")
	writes(t, d, 2, 2, text(1, 120), api.OK)
	reads(t, d, 2, 2, text(1, 120))
}

func TestWriteInOrder(t *testing.T) {
	data := text(5, 230)
	want := laid(8, data)
	for j := range want {
		d := newDisk(t, 8)
		writes(t, d, 1, 8, data, api.OK)
		keep := make([]int, len(want))
		keep[j] = 1
		d.Crash(keep)
		if at(t, d, 1+j) != want[j] {
			t.Errorf("the write number %d isn't that of the block's sector %d", j, j)
		}
		d.Crash(nil)
		for place := range want {
			if place != j && at(t, d, 1+place) != old(1+place) {
				t.Errorf("with the write number %d sector %d of the block is laid", j, place)
			}
		}
	}
}

func TestWriteLeavesAndForgetsItsData(t *testing.T) {
	for _, n := range []int{0, 1, 50, 51, 120} {
		whole := []byte(text(6, n+200))
		b := whole[100 : 100+n]
		d := newDisk(t, 8)
		if e := Write(d, 0, 3, b); e != api.OK {
			t.Errorf("Write of %d bytes: %d", n, e)
		}
		if string(whole) != text(6, n+200) {
			t.Errorf("what was handed in of %d bytes has changed", n)
		}
		want := string(b)
		for i := range whole {
			whole[i] = 0xee
		}
		reads(t, d, 0, 3, want)
		d.Crash([]int{1, 1, 1})
		reads(t, d, 0, 3, want)
	}
}

func TestWriteNil(t *testing.T) {
	for _, b := range [][]byte{nil, {}} {
		d := newDisk(t, 8)
		if e := Write(d, 7, 3, b); e != api.OK {
			t.Errorf("Write of nothing: %d", e)
		}
		if at(t, d, 7) != raw(3, 0, 1, 0, "") {
			t.Errorf("a block without data: %q", at(t, d, 7))
		}
		reads(t, d, 7, 3, "")
	}
}

// P3.3

func TestReadWhatWasWritten(t *testing.T) {
	for n := 0; n <= 260; n++ {
		for _, data := range []string{text(n, n), strings.Repeat("\x00", n)} {
			d := newDisk(t, 10)
			writes(t, d, n%5, 12, data, api.OK)
			reads(t, d, n%5, 12, data)
			if e := d.Sync(); e != api.OK {
				t.Fatalf("Sync: %d", e)
			}
			d.Crash(nil)
			reads(t, d, n%5, 12, data)
		}
	}
}

func TestReadOnAGreatDisk(t *testing.T) {
	d := newDisk(t, 4096)
	for _, n := range []int{32701, 32750, 32751, 32767, 32768} {
		data := text(n, n)
		writes(t, d, 4096-Count(n), uint64(n), data, api.OK)
		reads(t, d, 4096-Count(n), uint64(n), data)
		writes(t, d, 0, uint64(n)+1, data, api.OK)
		reads(t, d, 0, uint64(n)+1, data)
	}
}

func TestReadLaidByHand(t *testing.T) {
	for _, n := range sizes {
		d := newDisk(t, 16)
		for place, s := range laid(4, text(9, n)) {
			put(t, d, 5+place, s)
		}
		reads(t, d, 5, 4, text(9, n))
	}
}

func TestReadOfNoDisk(t *testing.T) {
	for _, start := range []int{-1, 0, 8} {
		for _, id := range []uint64{0, 1} {
			refuses(t, nil, start, id, api.ErrState)
		}
	}
}

func TestReadWrong(t *testing.T) {
	d := newDisk(t, 8)
	writes(t, d, 0, 1, "abc", api.OK)
	writes(t, d, 7, 2, "abc", api.OK)
	for _, start := range []int{math.MinInt, -4096, -1, 8, 9, 4096, math.MaxInt} {
		for _, id := range []uint64{0, 1, 2} {
			refuses(t, d, start, id, api.ErrArg)
		}
	}
	for i := range 8 {
		refuses(t, d, i, 0, api.ErrArg)
	}
	reads(t, d, 0, 1, "abc")
	reads(t, d, 7, 2, "abc")
}

func TestReadWhereNothingStands(t *testing.T) {
	zeros, e := disk.New(8)
	if e != api.OK {
		t.Fatalf("New: %d", e)
	}
	for _, d := range []*disk.Disk{zeros, newDisk(t, 8)} {
		for i := range 8 {
			for _, id := range []uint64{1, 7, math.MaxUint64, 0xc1c1c1c1c1c1c1c1} {
				refuses(t, d, i, id, api.ErrBad)
			}
		}
	}
}

func TestReadBesideABlock(t *testing.T) {
	d := newDisk(t, 16)
	writes(t, d, 4, 7, text(1, 230), api.OK)
	for i := range 16 {
		for _, id := range []uint64{1, 6, 7, 8, 7 << 8, 7 << 56, 1<<32 + 7} {
			if i == 4 && id == 7 {
				reads(t, d, i, id, text(1, 230))
			} else {
				refuses(t, d, i, id, api.ErrBad)
			}
		}
	}
}

func TestReadOfAnotherNumber(t *testing.T) {
	for _, n := range []int{0, 50, 120} {
		for bit := range 64 {
			id := uint64(1)<<40 + 5
			other := id ^ 1<<bit
			d := newDisk(t, 8)
			writes(t, d, 3, id, text(1, n), api.OK)
			reads(t, d, 3, id, text(1, n))
			refuses(t, d, 3, other, api.ErrBad)
			// One sector of another number is enough.
			for place, s := range laid(other, text(1, n)) {
				put(t, d, 3+place, s)
				refuses(t, d, 3, id, api.ErrBad)
				put(t, d, 3+place, laid(id, text(1, n))[place])
			}
			reads(t, d, 3, id, text(1, n))
		}
	}
}

func TestReadBehindAnotherBlock(t *testing.T) {
	data := text(1, 230)
	for first := 0; first < 12; first++ {
		for _, n := range []int{0, 50, 51, 150, 230} {
			d := newDisk(t, 16)
			writes(t, d, 4, 20, data, api.OK)
			writes(t, d, first, 21, text(2, n), api.OK)
			reads(t, d, first, 21, text(2, n))
			if first+len(laid(21, text(2, n))) > 4 && first < 9 {
				refuses(t, d, 4, 20, api.ErrBad)
			} else {
				reads(t, d, 4, 20, data)
			}
		}
	}
}

func TestReadOfTwoOfOneNumber(t *testing.T) {
	// Sectors of one number that were laid for other counts or from another place on are not of one block.
	d := newDisk(t, 8)
	writes(t, d, 0, 5, text(1, 150), api.OK)
	writes(t, d, 1, 5, text(1, 150), api.OK)
	refuses(t, d, 0, 5, api.ErrBad)
	reads(t, d, 1, 5, text(1, 150))
	writes(t, d, 2, 5, text(2, 60), api.OK)
	refuses(t, d, 1, 5, api.ErrBad)
	reads(t, d, 2, 5, text(2, 60))
	refuses(t, d, 3, 5, api.ErrBad)
}

func TestReadOfEachByteChanged(t *testing.T) {
	for _, n := range []int{0, 1, 49, 50, 51, 120, 150} {
		data := text(7, n)
		sectors := laid(11, data)
		d := newDisk(t, 8)
		for place, s := range sectors {
			put(t, d, 2+place, s)
		}
		for place, s := range sectors {
			held := min(50, n-50*place)
			for i := range 64 {
				for _, x := range []byte{1, 2, 0x40, 0x80, 0xff} {
					b := []byte(s)
					b[i] ^= x
					put(t, d, 2+place, string(b))
					switch {
					case i >= 14 && i < 14+held:
						want := []byte(data)
						want[50*place+i-14] ^= x
						reads(t, d, 2, 11, string(want))
					case i == 13 && place == len(sectors)-1 && int(b[i]) > held && b[i] <= 50:
						// So many more bytes of the sector are data, which are zeros.
						reads(t, d, 2, 11, data+strings.Repeat("\x00", int(b[i])-held))
					case i == 11 && place == 0 && b[i] == 1:
						// A whole sector with the count 1 is a block by itself.
						reads(t, d, 2, 11, data[:50])
					default:
						refuses(t, d, 2, 11, api.ErrBad)
					}
				}
			}
			put(t, d, 2+place, s)
		}
		reads(t, d, 2, 11, data)
	}
}

func TestReadSectorsOfAnotherForm(t *testing.T) {
	whole := strings.Repeat("w", 50)
	tests := []struct {
		name    string
		sectors []string
		want    api.Errno
	}{
		{"no data", []string{raw(1, 0, 1, 0, "")}, api.OK},
		{"one whole piece", []string{raw(1, 0, 1, 50, whole)}, api.OK},
		{"the count 0", []string{raw(1, 0, 0, 0, "")}, api.ErrBad},
		{"the count 0, with data", []string{raw(1, 0, 0, 50, whole)}, api.ErrBad},
		{"data behind the size", []string{raw(1, 0, 1, 2, "abc")}, api.ErrBad},
		{"the last byte isn't zero", []string{raw(1, 0, 1, 1, "a"+strings.Repeat("\x00", 48)+"z")}, api.ErrBad},
		{"zeros as data", []string{raw(1, 0, 1, 7, "abc")}, api.OK},
		{"a byte more than a piece", []string{raw(1, 0, 1, 51, whole)}, api.ErrBad},
		{"a byte more than a piece, and the next sector", []string{raw(1, 0, 2, 51, whole), raw(1, 1, 2, 1, "x")}, api.ErrBad},
		{"a size of 255", []string{raw(1, 0, 1, 255, whole)}, api.ErrBad},
		{"a size of 256", []string{raw(1, 0, 1, 256, "")}, api.ErrBad},
		{"a size of 65535", []string{raw(1, 0, 1, 65535, whole)}, api.ErrBad},
		{"the place 1 of 1", []string{raw(1, 1, 1, 0, "")}, api.ErrBad},
		{"the place 1 of 2", []string{raw(1, 1, 2, 1, "x")}, api.ErrBad},
		{"two", []string{raw(1, 0, 2, 50, whole), raw(1, 1, 2, 50, whole)}, api.OK},
		{"two of which one is enough", []string{raw(1, 0, 2, 50, whole), raw(1, 1, 2, 0, "")}, api.ErrBad},
		{"two, none of which is needed", []string{raw(1, 0, 2, 0, ""), raw(1, 1, 2, 0, "")}, api.ErrBad},
		{"the first less than a piece", []string{raw(1, 0, 2, 49, whole[1:]), raw(1, 1, 2, 50, whole)}, api.ErrBad},
		{"the first one without data", []string{raw(1, 0, 2, 0, ""), raw(1, 1, 2, 50, whole)}, api.ErrBad},
		{"the middle less than a piece", []string{raw(1, 0, 3, 50, whole), raw(1, 1, 3, 49, whole[1:]), raw(1, 2, 3, 50, whole)}, api.ErrBad},
		{"three", []string{raw(1, 0, 3, 50, whole), raw(1, 1, 3, 50, whole), raw(1, 2, 3, 1, "x")}, api.OK},
		{"a later number", []string{raw(1, 0, 2, 50, whole), raw(2, 1, 2, 1, "x")}, api.ErrBad},
		{"an earlier number", []string{raw(2, 0, 2, 50, whole), raw(1, 1, 2, 1, "x")}, api.ErrBad},
		{"a greater count behind", []string{raw(1, 0, 2, 50, whole), raw(1, 1, 3, 1, "x")}, api.ErrBad},
		{"a lower count behind", []string{raw(1, 0, 2, 50, whole), raw(1, 1, 1, 1, "x")}, api.ErrBad},
		{"a count of one ahead", []string{raw(1, 0, 1, 50, whole), raw(1, 1, 2, 1, "x")}, api.OK},
		{"the first twice", []string{raw(1, 0, 2, 50, whole), raw(1, 0, 2, 50, whole)}, api.ErrBad},
		{"a place left out", []string{raw(1, 0, 2, 50, whole), raw(1, 2, 2, 1, "x")}, api.ErrBad},
		{"places the wrong way round", []string{raw(1, 1, 2, 1, "x"), raw(1, 0, 2, 50, whole)}, api.ErrBad},
		{"the second isn't there", []string{raw(1, 0, 2, 50, whole)}, api.ErrBad},
		{"a count of 65535", []string{raw(1, 0, 65535, 50, whole)}, api.ErrBad},
	}
	for _, k := range tests {
		d := newDisk(t, 8)
		for i, s := range k.sectors {
			put(t, d, 2+i, s)
		}
		b, e := Read(d, 2, 1)
		if e != k.want {
			t.Errorf("%s: %d, want %d", k.name, e, k.want)
		}
		if e != api.OK && b != nil {
			t.Errorf("%s: %d bytes beside an error", k.name, len(b))
		}
	}
}

func TestReadMoreThanABlockHolds(t *testing.T) {
	whole := strings.Repeat("w", 50)
	for _, k := range []struct {
		count, last int
		want        api.Errno
	}{
		{656, 17, api.OK}, {656, 18, api.OK}, {656, 19, api.ErrBad}, {656, 50, api.ErrBad}, {656, 0, api.ErrBad},
		{657, 1, api.ErrBad}, {657, 50, api.ErrBad}, {700, 7, api.ErrBad}, {1000, 50, api.ErrBad},
	} {
		d := newDisk(t, 1000)
		for place := range k.count - 1 {
			put(t, d, place, raw(3, place, k.count, 50, whole))
		}
		put(t, d, k.count-1, raw(3, k.count-1, k.count, k.last, whole[:k.last]))
		if b, e := Read(d, 0, 3); e != k.want || e == api.OK && len(b) != (k.count-1)*50+k.last || e != api.OK && b != nil {
			t.Errorf("%d sectors, of which the last one holds %d bytes: %d bytes, %d, want %d", k.count, k.last, len(b), e, k.want)
		}
	}
}

func TestReadEndsWithTheDisk(t *testing.T) {
	whole := strings.Repeat("w", 50)
	for _, count := range []int{2, 3, 9, 656, 65535} {
		d := newDisk(t, 8)
		for place := range min(count, 8) - 1 {
			put(t, d, place+8-min(count, 8)+1, raw(3, place, count, 50, whole))
		}
		for i := range 8 {
			refuses(t, d, i, 3, api.ErrBad)
		}
	}
}

func TestReadChangesNothing(t *testing.T) {
	d := newDisk(t, 8)
	writes(t, d, 0, 1, text(1, 120), api.OK)
	before := d.Writes()
	d.Fuse(1)
	for range 5 {
		reads(t, d, 0, 1, text(1, 120))
		refuses(t, d, 0, 2, api.ErrBad)
		refuses(t, d, 1, 1, api.ErrBad)
		refuses(t, d, 8, 1, api.ErrArg)
	}
	if d.Writes() != before || d.Waiting() != 3 || d.Syncs() != 1 || d.Down() {
		t.Errorf("%d writes, %d wait, %d syncs, Down %v", d.Writes()-before, d.Waiting(), d.Syncs(), d.Down())
	}
	isOld(t, d, 0, 3)
}

func TestReadWithoutPower(t *testing.T) {
	d := newDisk(t, 8)
	writes(t, d, 0, 1, text(1, 120), api.OK)
	d.Fuse(0)
	writes(t, d, 3, 2, "x", api.ErrDown)
	if !d.Down() {
		t.Fatal("the power is still there")
	}
	reads(t, d, 0, 1, text(1, 120))
	refuses(t, d, 3, 2, api.ErrBad)
	refuses(t, d, 8, 1, api.ErrArg)
	refuses(t, d, 0, 0, api.ErrArg)
}

func TestReadIsNewMemory(t *testing.T) {
	for _, n := range []int{1, 50, 51, 120, 150} {
		d := newDisk(t, 8)
		writes(t, d, 0, 1, text(1, n), api.OK)
		a, _ := Read(d, 0, 1)
		b, _ := Read(d, 0, 1)
		a = a[:cap(a)]
		for i := range a {
			a[i] = 0xee
		}
		if string(b) != text(1, n) {
			t.Errorf("%d bytes: two answers share memory", n)
		}
		reads(t, d, 0, 1, text(1, n))
		isOld(t, d, 0, Count(n))
	}
}

// lies tells by laying it again whether a block stands from start on.
func lies(sectors []string, start int, id uint64) (string, bool) {
	count := int(binary.BigEndian.Uint16([]byte(sectors[start][10:])))
	if count == 0 || start+count > len(sectors) {
		return "", false
	}
	data := ""
	for _, s := range sectors[start : start+count] {
		n := int(binary.BigEndian.Uint16([]byte(s[12:])))
		data += s[14:min(14+n, 64)]
	}
	return data, slices.Equal(laid(id, data), sectors[start:start+count])
}

func TestReadAgainstLayingAgain(t *testing.T) {
	r := rand.New(rand.NewSource(3))
	found := 0
	for range 300 {
		d, _ := disk.New(8)
		for range 60 {
			if r.Intn(3) == 0 {
				i := r.Intn(8)
				b := []byte(at(t, d, i))
				b[[]int{7, 9, 11, 13, 14 + r.Intn(50)}[r.Intn(5)]] = byte(r.Intn(4))
				put(t, d, i, string(b))
			} else {
				Write(d, r.Intn(8), uint64(1+r.Intn(2)), []byte(text(r.Intn(9), r.Intn(120))))
			}
			sectors := []string{}
			for i := range 8 {
				sectors = append(sectors, at(t, d, i))
			}
			for i := range 8 {
				for id := uint64(1); id <= 3; id++ {
					if data, ok := lies(sectors, i, id); ok {
						reads(t, d, i, id, data)
						found++
					} else {
						refuses(t, d, i, id, api.ErrBad)
					}
				}
			}
		}
	}
	if found < 1000 {
		t.Errorf("%d blocks alone were found", found)
	}
}

// P3.4

func TestLostByACrash(t *testing.T) {
	for _, n := range []int{0, 1, 50, 51, 100, 101, 150, 151, 230} {
		data := text(1, n)
		count := len(laid(9, data))
		for _, before := range []string{"nothing", "an older block", "an older block with the same data", "a longer one"} {
			for mask := range 1 << count {
				d := newDisk(t, 16)
				switch before {
				case "an older block":
					writes(t, d, 3, 8, text(2, n), api.OK)
				case "an older block with the same data":
					writes(t, d, 3, 8, data, api.OK)
				case "a longer one":
					writes(t, d, 2, 8, text(3, n+120), api.OK)
				}
				if e := d.Sync(); e != api.OK {
					t.Fatalf("Sync: %d", e)
				}
				writes(t, d, 3, 9, data, api.OK)
				keep := []int{}
				for j := range count {
					keep = append(keep, mask>>j&1)
				}
				d.Crash(keep)
				if mask == 1<<count-1 {
					reads(t, d, 3, 9, data)
				} else {
					refuses(t, d, 3, 9, api.ErrBad)
				}
			}
		}
	}
}

func TestEachSectorOfTheGreatestLost(t *testing.T) {
	data := text(1, 32768)
	for lost := -1; lost < 656; lost++ {
		d, _ := disk.New(656)
		writes(t, d, 0, 9, data, api.OK)
		keep := slices.Repeat([]int{1}, 656)
		if lost >= 0 {
			keep[lost] = 0
		}
		d.Crash(keep)
		if b, e := Read(d, 0, 9); (e == api.OK) != (lost < 0) || lost < 0 && string(b) != data || lost >= 0 && (e != api.ErrBad || b != nil) {
			t.Errorf("with sector %d lost: %d bytes, %d", lost, len(b), e)
		}
	}
}

func TestOlderBlockOutlivesACrash(t *testing.T) {
	d := newDisk(t, 8)
	writes(t, d, 1, 1, text(1, 120), api.OK)
	if e := d.Sync(); e != api.OK {
		t.Fatalf("Sync: %d", e)
	}
	writes(t, d, 1, 2, text(2, 120), api.OK)
	refuses(t, d, 1, 1, api.ErrBad)
	reads(t, d, 1, 2, text(2, 120))
	d.Crash(nil)
	reads(t, d, 1, 1, text(1, 120))
	refuses(t, d, 1, 2, api.ErrBad)
	writes(t, d, 1, 3, text(3, 120), api.OK)
	d.Crash([]int{0, 1, 0})
	refuses(t, d, 1, 1, api.ErrBad)
	refuses(t, d, 1, 3, api.ErrBad)
	if !bytes.HasPrefix([]byte(at(t, d, 2)), []byte("\x00\x00\x00\x00\x00\x00\x00\x03\x00\x01")) {
		t.Errorf("the sector that was kept: %q", at(t, d, 2))
	}
}

func TestBlocksApart(t *testing.T) {
	// The same calls answer the same, whatever is done to another disk between.
	a, b := newDisk(t, 8), newDisk(t, 8)
	writes(t, a, 0, 1, text(1, 120), api.OK)
	b.Fuse(1)
	writes(t, b, 0, 1, text(2, 120), api.ErrDown)
	reads(t, a, 0, 1, text(1, 120))
	refuses(t, b, 0, 1, api.ErrBad)
	b.Crash(nil)
	writes(t, b, 0, 1, text(2, 120), api.OK)
	reads(t, a, 0, 1, text(1, 120))
	reads(t, b, 0, 1, text(2, 120))
}
