package wal

import (
	"encoding/binary"
	"fmt"
	"math"
	"math/rand"
	"strings"
	"testing"

	"granary/api"
	"granary/disk"
)

// sizes are lengths of records at the edges of pieces.
var sizes = []int{0, 1, 2, 49, 50, 51, 99, 100, 101, 149, 150, 151, 199, 200}

// newDisk answers a disk of so many sectors, each of which holds bytes that are no piece, kept.
func newDisk(t *testing.T, n int) *disk.Disk {
	t.Helper()
	d, e := disk.New(n)
	if e != api.OK || d == nil {
		t.Fatalf("New(%d): %d", n, e)
	}
	for i := range n {
		put(t, d, i, old(i))
	}
	syncs(t, d)
	return d
}

// old is what stands in sector i of newDisk's disks.
func old(i int) string { return strings.Repeat(string([]byte{0xc1 + byte(i%7)}), 64) }

// put writes a sector by hand.
func put(t *testing.T, d *disk.Disk, i int, s string) {
	t.Helper()
	if e := d.Write(i, []byte(s)); e != api.OK {
		t.Fatalf("the disk's Write(%d): %d", i, e)
	}
}

// at answers sector i.
func at(t *testing.T, d *disk.Disk, i int) string {
	t.Helper()
	b, e := d.Read(i)
	if e != api.OK {
		t.Fatalf("the disk's Read(%d): %d", i, e)
	}
	return string(b)
}

// syncs lets the disk keep all that waits.
func syncs(t *testing.T, d *disk.Disk) {
	t.Helper()
	if e := d.Sync(); e != api.OK {
		t.Fatalf("the disk's Sync: %d", e)
	}
}

// raw lays a sector by hand, of any numbers; what is behind 64 bytes is cut off.
func raw(number uint64, mount uint32, flags, size int, data string) string {
	b := binary.BigEndian.AppendUint64(nil, number)
	b = binary.BigEndian.AppendUint32(b, mount)
	b = append(b, byte(flags), byte(size))
	b = append(b, data...)
	return string(append(b, make([]byte, 64)...)[:64])
}

// laid lays a record's sectors by hand.
func laid(from uint64, mount uint32, data string) []string {
	sectors := []string{}
	flags := 1
	for ; len(data) > 50; data = data[50:] {
		sectors = append(sectors, raw(from, mount, flags, 50, data))
		from, flags = from+1, 0
	}
	return append(sectors, raw(from, mount, flags+2, len(data), data))
}

// lay puts a record into a ring by hand, and answers the piece behind it.
func lay(t *testing.T, d *disk.Disk, base, size int, from uint64, mount uint32, data string) uint64 {
	t.Helper()
	for _, s := range laid(from, mount, data) {
		put(t, d, base+int(from%uint64(size)), s)
		from++
	}
	return from
}

// text is n bytes of data without a zero, others for each seed.
func text(seed, n int) string {
	b := make([]byte, n)
	for i := range b {
		b[i] = byte(1 + (seed*41+i*7+i/50)%255)
	}
	return string(b)
}

// opens answers a log that it opens, and asks for the records that are there: as many as datas, one behind the other from the head on.
func opens(t *testing.T, d *disk.Disk, base, size int, least, mount uint32, head uint64, datas ...string) *Log {
	t.Helper()
	l, recs, e := Open(d, base, size, least, mount, head)
	if e != api.OK || l == nil {
		t.Fatalf("Open(%d, %d, %d, %d, %d): %d", base, size, least, mount, head, e)
	}
	next := head
	for i, data := range datas {
		to := next + uint64(len(laid(next, mount, data)))
		if i < len(recs) && (recs[i].From != next || recs[i].To != to || string(recs[i].Data) != data) {
			t.Errorf("Open(%d, %d, %d, %d, %d): record %d is %d to %d of %d bytes, want %d to %d of %d bytes", base, size, least, mount, head, i, recs[i].From, recs[i].To, len(recs[i].Data), next, to, len(data))
		}
		next = to
	}
	if len(recs) != len(datas) {
		t.Errorf("Open(%d, %d, %d, %d, %d): %d records, want %d", base, size, least, mount, head, len(recs), len(datas))
	}
	is(t, l, head, next, size-int(next-head))
	return l
}

// is asks for a log's pieces.
func is(t *testing.T, l *Log, head, next uint64, room int) {
	t.Helper()
	if l.Head() != head || l.Next() != next || l.Room() != room {
		t.Errorf("Head %d, Next %d, Room %d, want %d, %d, %d", l.Head(), l.Next(), l.Room(), head, next, room)
	}
}

// appends asks what Append answers.
func appends(t *testing.T, l *Log, data string, want uint64, errno api.Errno) {
	t.Helper()
	if from, e := l.Append([]byte(data)); from != want || e != errno {
		t.Errorf("Append(%d bytes): %d, %d, want %d, %d", len(data), from, e, want, errno)
	}
}

// trims asks what Trim answers.
func trims(t *testing.T, l *Log, to uint64, want api.Errno) {
	t.Helper()
	if e := l.Trim(to); e != want {
		t.Errorf("Trim(%d): %d, want %d", to, e, want)
	}
}

// refuses asks for an error of Open, and nothing beside it.
func refuses(t *testing.T, d *disk.Disk, base, size int, least, mount uint32, head uint64, want api.Errno) {
	t.Helper()
	if l, recs, e := Open(d, base, size, least, mount, head); l != nil || recs != nil || e != want {
		t.Errorf("Open(%d, %d, %d, %d, %d): %v, %v, %d, want %d", base, size, least, mount, head, l, recs, e, want)
	}
}

func TestExamples(t *testing.T) {
	d, e := disk.New(16)
	if e != api.OK {
		t.Fatalf("New: %d", e)
	}
	l := opens(t, d, 2, 8, 1, 1, 1)
	is(t, l, 1, 1, 8)
	appends(t, l, "ab", 1, api.OK)
	if got, want := at(t, d, 3), "\x00\x00\x00\x00\x00\x00\x00\x01\x00\x00\x00\x01\x03\x02ab"+strings.Repeat("\x00", 48); got != want {
		t.Errorf("sector 3: %q", got)
	}
	sixty := text(1, 60)
	appends(t, l, sixty, 2, api.OK)
	is(t, l, 1, 4, 5)
	if got := at(t, d, 4); got[12] != 1 || got[13] != 50 {
		t.Errorf("sector 4: %q", got)
	}
	if got := at(t, d, 5); got[12] != 2 || got[13] != 10 {
		t.Errorf("sector 5: %q", got)
	}
	opens(t, d, 2, 8, 1, 2, 1, "ab", sixty)
	opens(t, d, 2, 8, 1, 2, 2, sixty)
	opens(t, d, 2, 8, 1, 2, 3)
	opens(t, d, 2, 8, 2, 2, 1)
	appends(t, l, text(2, 300), 0, api.ErrFull)
	trims(t, l, 2, api.OK)
	appends(t, l, text(2, 300), 4, api.OK)
	trims(t, l, 1, api.ErrArg)
}

// P5.1

func TestCountAtEdges(t *testing.T) {
	tests := []struct{ n, want int }{
		{0, 1}, {1, 1}, {49, 1}, {50, 1}, {51, 2}, {99, 2}, {100, 2}, {101, 3},
		{32700, 654}, {32701, 655}, {32750, 655}, {32751, 656}, {32767, 656}, {32768, 656},
		{32769, 0}, {32770, 0}, {32800, 0}, {65536, 0}, {math.MaxInt32, 0}, {math.MaxInt - 49, 0}, {math.MaxInt, 0},
		{-1, 0}, {-2, 0}, {-49, 0}, {-50, 0}, {-51, 0}, {math.MinInt32, 0}, {math.MinInt, 0},
	}
	for _, k := range tests {
		if got := Count(k.n); got != k.want {
			t.Errorf("Count(%d): %d, want %d", k.n, got, k.want)
		}
	}
}

func TestCountOfEachSize(t *testing.T) {
	for n := 1; n <= 32768; n++ {
		if c := Count(n); c*50 < n || (c-1)*50 >= n {
			t.Fatalf("Count(%d): %d", n, c)
		}
	}
}

func TestOpenOfNoDisk(t *testing.T) {
	refuses(t, nil, 0, 4, 1, 1, 1, api.ErrState)
	// ErrState stands ahead of ErrArg.
	refuses(t, nil, -1, 3, 0, 0, 0, api.ErrState)
}

func TestOpenWrong(t *testing.T) {
	d := newDisk(t, 16)
	for _, base := range []int{math.MinInt, math.MinInt + 1, math.MinInt32, -16, -2, -1, 13, 14, 16, 17, math.MaxInt32, math.MaxInt - 3, math.MaxInt - 1, math.MaxInt} {
		refuses(t, d, base, 4, 1, 1, 1, api.ErrArg)
	}
	for _, size := range []int{math.MinInt, math.MinInt + 1, math.MinInt32, -4, -1, 0, 1, 2, 3, 17, 4096, math.MaxInt32, math.MaxInt - 1, math.MaxInt} {
		refuses(t, d, 0, size, 1, 1, 1, api.ErrArg)
	}
	for _, k := range []struct{ base, size int }{
		{1, 16}, {12, 5}, {11, 6}, {16, 4}, {-1, 16}, {-1, 17}, {1, math.MaxInt}, {math.MaxInt, math.MaxInt}, {math.MinInt, math.MinInt}, {math.MinInt, math.MaxInt}, {math.MaxInt, math.MinInt}, {16, 0}, {13, 3},
	} {
		refuses(t, d, k.base, k.size, 1, 1, 1, api.ErrArg)
	}
	for _, k := range []struct{ least, mount uint32 }{
		{0, 0}, {0, 1}, {0, math.MaxUint32}, {2, 1}, {3, 2}, {1, 0}, {math.MaxUint32, 1}, {math.MaxUint32, math.MaxUint32 - 1}, {math.MaxUint32, 0},
	} {
		refuses(t, d, 0, 4, k.least, k.mount, 1, api.ErrArg)
	}
	for _, head := range []uint64{0, 1<<62 + 1, 1<<62 + 2, 1 << 63, math.MaxInt64, math.MaxUint64 - 1, math.MaxUint64} {
		refuses(t, d, 0, 4, 1, 1, head, api.ErrArg)
	}
}

func TestOpenAtEdges(t *testing.T) {
	d := newDisk(t, 16)
	for _, k := range []struct{ base, size int }{{0, 4}, {0, 16}, {12, 4}, {1, 15}, {4, 12}, {0, 5}} {
		opens(t, d, k.base, k.size, 1, 1, 1)
	}
	for _, k := range []struct{ least, mount uint32 }{{1, 1}, {1, math.MaxUint32}, {math.MaxUint32, math.MaxUint32}, {1 << 31, 1<<31 + 1}, {7, 9}} {
		opens(t, d, 0, 4, k.least, k.mount, 1)
	}
	for _, head := range []uint64{1, 2, 3, 4, 5, 1 << 32, 1<<62 - 1, 1 << 62} {
		opens(t, d, 0, 4, 1, 1, head)
	}
	great, _ := disk.New(4096)
	opens(t, great, 0, 4096, 1, 1, 1)
	opens(t, great, 4092, 4, 1, 1, 1)
	refuses(t, great, 1, 4096, 1, 1, 1, api.ErrArg)
}

func TestOpenOfZeros(t *testing.T) {
	d, _ := disk.New(8)
	for head := uint64(1); head < 20; head++ {
		opens(t, d, 0, 8, 1, 9, head)
	}
}

func TestOpenFindsWhatLies(t *testing.T) {
	for _, n := range sizes {
		for _, m := range sizes {
			for _, head := range []uint64{1, 6, 7, 8, 1 << 40, 1 << 62} {
				d := newDisk(t, 16)
				a, b := text(1, n), text(2, m)
				next := lay(t, d, 3, 9, head, 5, a)
				if int(next-head)+Count(m) > 9 {
					opens(t, d, 3, 9, 5, 5, head, a)
					continue
				}
				lay(t, d, 3, 9, next, 5, b)
				opens(t, d, 3, 9, 1, 7, head, a, b)
				opens(t, d, 3, 9, 5, 5, head, a, b)
				if next <= 1<<62 {
					opens(t, d, 3, 9, 5, 5, next, b)
				}
			}
		}
	}
}

func TestOpenOfZerosAsData(t *testing.T) {
	for _, n := range sizes {
		d := newDisk(t, 8)
		data := strings.Repeat("\x00", n)
		lay(t, d, 0, 8, 1, 1, data)
		opens(t, d, 0, 8, 1, 1, 1, data)
	}
}

func TestOpenOfAFullRing(t *testing.T) {
	d := newDisk(t, 16)
	next := uint64(11)
	datas := []string{}
	for i := range 8 {
		next = lay(t, d, 5, 8, next, uint32(1+i), text(i, 10))
		datas = append(datas, text(i, 10))
	}
	l := opens(t, d, 5, 8, 1, 8, 11, datas...)
	is(t, l, 11, 19, 0)
	// The piece behind the last one would stand in the sector of the first.
	for head := uint64(11); head < 19; head++ {
		opens(t, d, 5, 8, 1, 8, head, datas[head-11:]...)
	}
	opens(t, d, 5, 8, 1, 8, 19)
	opens(t, d, 5, 8, 1, 8, 10)
}

func TestOpenOfOneRecordThatFillsTheRing(t *testing.T) {
	for _, n := range []int{151, 200} {
		d := newDisk(t, 8)
		lay(t, d, 2, 4, 7, 1, text(1, n))
		is(t, opens(t, d, 2, 4, 1, 1, 7, text(1, n)), 7, 11, 0)
	}
	// A record that would need one sector more than there are isn't whole.
	d := newDisk(t, 8)
	for i := range 4 {
		flags := 0
		if i == 0 {
			flags = 1
		}
		put(t, d, 4+i, raw(uint64(4+i), 1, flags, 50, text(1, 50)))
	}
	is(t, opens(t, d, 4, 4, 1, 1, 4), 4, 4, 4)
}

func TestOpenOfGreatRecords(t *testing.T) {
	for _, n := range []int{32701, 32750, 32751, 32768} {
		d := newDisk(t, 1400)
		next := lay(t, d, 7, 1390, 1000, 3, text(1, n))
		lay(t, d, 7, 1390, next, 4, text(2, n))
		opens(t, d, 7, 1390, 2, 4, 1000, text(1, n), text(2, n))
		opens(t, d, 7, 1390, 2, 3, 1000, text(1, n))
	}
}

func TestOpenByMounts(t *testing.T) {
	tests := []struct {
		mounts      string // of records of one piece each, from 1 on
		least, most uint32
		want        int
	}{
		{"1", 1, 1, 1}, {"1", 1, 9, 1}, {"1", 2, 9, 0}, {"1", 2, 2, 0}, {"2", 1, 1, 0}, {"2", 1, 2, 1}, {"2", 2, 2, 1},
		{"111", 1, 1, 3}, {"123", 1, 3, 3}, {"123", 1, 2, 2}, {"123", 1, 1, 1}, {"123", 2, 3, 0},
		{"132", 1, 9, 2}, {"213", 1, 9, 1}, {"1221", 1, 9, 3}, {"1132", 1, 9, 3}, {"199", 1, 9, 3}, {"199", 1, 8, 1},
		{"334", 3, 4, 3}, {"334", 4, 4, 0}, {"3345", 3, 4, 3}, {"3353", 3, 5, 3}, {"22324", 1, 9, 3},
		{"0", 1, 9, 0}, {"10", 1, 9, 1}, {"101", 1, 9, 1},
	}
	for _, k := range tests {
		d := newDisk(t, 8)
		datas := []string{}
		for i, m := range []byte(k.mounts) {
			lay(t, d, 1, 7, uint64(1+i), uint32(m-'0'), text(i, 30))
			datas = append(datas, text(i, 30))
		}
		opens(t, d, 1, 7, k.least, k.most, 1, datas[:k.want]...)
	}
}

func TestOpenOfRecordsOfSeveralMounts(t *testing.T) {
	// The mounts of the pieces of two records, of three and of two pieces, from piece 1 on.
	tests := []struct {
		mounts string
		want   int
	}{
		{"33333", 2}, {"33344", 2}, {"33355", 2}, {"22233", 2}, {"22222", 2},
		{"33322", 1}, {"33366", 1}, {"33345", 1}, {"33354", 1}, {"33334", 1}, {"33343", 1}, {"33311", 1}, {"33300", 1},
		{"11133", 0}, {"66666", 0}, {"23333", 0}, {"32333", 0}, {"33233", 0}, {"34333", 0}, {"33433", 0}, {"34444", 0}, {"33444", 0}, {"22333", 0},
	}
	whole := text(1, 50)
	for _, k := range tests {
		d := newDisk(t, 8)
		for i, flags := range []int{1, 0, 2, 1, 2} {
			put(t, d, 1+i, raw(uint64(1+i), uint32(k.mounts[i]-'0'), flags, 50, whole))
		}
		want := []string{whole + whole + whole, whole + whole}[:k.want]
		opens(t, d, 0, 8, 2, 5, 1, want...)
	}
}

func TestOpenOfFarMounts(t *testing.T) {
	// Numbers of mounts are not told apart by some of their bytes alone, nor with a sign.
	for _, k := range []struct {
		mount, least, most uint32
		want               bool
	}{
		{1 << 31, 1, math.MaxUint32, true}, {math.MaxUint32, 1, math.MaxUint32, true}, {math.MaxUint32, 1, math.MaxUint32 - 1, false},
		{1 << 31, 1, 1<<31 - 1, false}, {1<<31 - 1, 1 << 31, 1 << 31, false}, {256, 1, 255, false}, {256, 1, 256, true}, {1 << 24, 2, 1 << 16, false}, {1, 256, 257, false},
	} {
		d := newDisk(t, 8)
		lay(t, d, 0, 8, 3, k.mount, "ab")
		if k.want {
			opens(t, d, 0, 8, k.least, k.most, 3, "ab")
		} else {
			opens(t, d, 0, 8, k.least, k.most, 3)
		}
	}
}

func TestOpenSectorsOfAnotherForm(t *testing.T) {
	whole := text(3, 50)
	tests := []struct {
		name    string
		sectors []string // from piece 1 on
		want    []string
	}{
		{"no data", []string{raw(1, 1, 3, 0, "")}, []string{""}},
		{"a whole piece", []string{raw(1, 1, 3, 50, whole)}, []string{whole}},
		{"a byte more than a piece", []string{raw(1, 1, 3, 51, whole)}, nil},
		{"a size of 255", []string{raw(1, 1, 3, 255, whole)}, nil},
		{"a size of 128", []string{raw(1, 1, 3, 128, "")}, nil},
		{"data behind the size", []string{raw(1, 1, 3, 2, "abc")}, nil},
		{"data behind no size", []string{raw(1, 1, 3, 0, "a")}, nil},
		{"the last byte isn't zero", []string{raw(1, 1, 3, 1, "a"+strings.Repeat("\x00", 48)+"z")}, nil},
		{"zeros as data", []string{raw(1, 1, 3, 7, "abc")}, []string{"abc\x00\x00\x00\x00"}},
		{"the flags 0", []string{raw(1, 1, 0, 50, whole)}, nil},
		{"the flags 0, and less than a piece", []string{raw(1, 1, 0, 2, "ab")}, nil},
		{"the flags 2", []string{raw(1, 1, 2, 2, "ab")}, nil},
		{"the flags 4", []string{raw(1, 1, 4, 2, "ab")}, nil},
		{"the flags 7", []string{raw(1, 1, 7, 2, "ab")}, nil},
		{"the flags 131", []string{raw(1, 1, 131, 2, "ab")}, nil},
		{"the flags 255", []string{raw(1, 1, 255, 2, "ab")}, nil},
		{"the first alone", []string{raw(1, 1, 1, 50, whole)}, nil},
		{"two", []string{raw(1, 1, 1, 50, whole), raw(2, 1, 2, 1, "x")}, []string{whole + "x"}},
		{"two whole ones", []string{raw(1, 1, 1, 50, whole), raw(2, 1, 2, 50, whole)}, []string{whole + whole}},
		{"the first less than a piece", []string{raw(1, 1, 1, 49, whole[:49]), raw(2, 1, 2, 1, "x")}, nil},
		{"the first without data", []string{raw(1, 1, 1, 0, ""), raw(2, 1, 2, 1, "x")}, nil},
		{"the first of 51 bytes", []string{raw(1, 1, 1, 51, whole), raw(2, 1, 2, 1, "x")}, nil},
		{"the last without data", []string{raw(1, 1, 1, 50, whole), raw(2, 1, 2, 0, "")}, nil},
		{"the last of 51 bytes", []string{raw(1, 1, 1, 50, whole), raw(2, 1, 2, 51, whole)}, nil},
		{"the last with data behind", []string{raw(1, 1, 1, 50, whole), raw(2, 1, 2, 1, "xy")}, nil},
		{"the last with the flags 6", []string{raw(1, 1, 1, 50, whole), raw(2, 1, 6, 1, "x")}, nil},
		{"the first with the flags 5", []string{raw(1, 1, 5, 50, whole), raw(2, 1, 2, 1, "x")}, nil},
		{"the first twice", []string{raw(1, 1, 1, 50, whole), raw(1, 1, 1, 50, whole), raw(2, 1, 2, 1, "x")}, nil},
		{"another one begins within", []string{raw(1, 1, 1, 50, whole), raw(2, 1, 1, 50, whole), raw(3, 1, 2, 1, "x")}, nil},
		{"another one within", []string{raw(1, 1, 1, 50, whole), raw(2, 1, 3, 1, "x"), raw(3, 1, 2, 1, "x")}, nil},
		{"three", []string{raw(1, 1, 1, 50, whole), raw(2, 1, 0, 50, whole), raw(3, 1, 2, 1, "x")}, []string{whole + whole + "x"}},
		{"the middle less than a piece", []string{raw(1, 1, 1, 50, whole), raw(2, 1, 0, 49, whole[:49]), raw(3, 1, 2, 1, "x")}, nil},
		{"the middle without data", []string{raw(1, 1, 1, 50, whole), raw(2, 1, 0, 0, ""), raw(3, 1, 2, 1, "x")}, nil},
		{"the middle with the flags 4", []string{raw(1, 1, 1, 50, whole), raw(2, 1, 4, 50, whole), raw(3, 1, 2, 1, "x")}, nil},
		{"without the last", []string{raw(1, 1, 1, 50, whole), raw(2, 1, 0, 50, whole)}, nil},
		{"a later number", []string{raw(1, 1, 1, 50, whole), raw(3, 1, 2, 1, "x")}, nil},
		{"an earlier number", []string{raw(1, 1, 1, 50, whole), raw(1, 1, 2, 1, "x")}, nil},
		{"a number of the round behind", []string{raw(1, 1, 1, 50, whole), raw(10, 1, 2, 1, "x")}, nil},
		{"a number of the round ahead", []string{raw(9, 1, 3, 1, "x")}, nil},
		{"the number 0", []string{raw(0, 1, 3, 1, "x")}, nil},
		{"behind a record that is there, none begins", []string{raw(1, 1, 3, 1, "x"), raw(2, 1, 2, 1, "y")}, []string{"x"}},
		{"behind a record that is there, none begins, nor ends", []string{raw(1, 1, 3, 1, "x"), raw(2, 1, 0, 50, whole), raw(3, 1, 2, 1, "y")}, []string{"x"}},
		{"behind a record that is there, a wrong one and a right one", []string{raw(1, 1, 3, 1, "x"), raw(2, 1, 3, 1, "yz"), raw(3, 1, 3, 1, "w")}, []string{"x"}},
		{"behind a record that is there, one that isn't whole", []string{raw(1, 1, 3, 1, "x"), raw(2, 1, 1, 50, whole), raw(3, 1, 0, 50, whole)}, []string{"x"}},
		{"one without data between", []string{raw(1, 1, 3, 1, "x"), raw(2, 1, 3, 0, ""), raw(3, 1, 3, 1, "w")}, []string{"x", "", "w"}},
	}
	for _, k := range tests {
		t.Run(k.name, func(t *testing.T) {
			d := newDisk(t, 16)
			for i, s := range k.sectors {
				put(t, d, 4+i, s)
			}
			opens(t, d, 3, 8, 1, 1, 1, k.want...)
		})
	}
}

// model tells what is found by laying again what the sectors say.
func model(sectors []string, least, mount uint32, head uint64) []Rec {
	var recs []Rec
	size := uint64(len(sectors))
	from := head
	for from < head+size {
		m := binary.BigEndian.Uint32([]byte(sectors[from%size][8:]))
		data, to := "", from
		for to < head+size {
			s := sectors[to%size]
			data += s[14:min(14+int(s[13]), 64)]
			to++
			if s[12]&2 != 0 {
				break
			}
		}
		want := laid(from, m, data)
		if m < least || m > mount || len(want) != int(to-from) {
			break
		}
		for i, s := range want {
			if sectors[(from+uint64(i))%size] != s {
				return recs
			}
		}
		recs = append(recs, Rec{From: from, To: to, Data: []byte(data)})
		from, least = to, m
	}
	return recs
}

// asModel asks whether what Open finds is what the model tells.
func asModel(t *testing.T, d *disk.Disk, base, size int, least, mount uint32, head uint64) int {
	t.Helper()
	sectors := []string{}
	for i := range size {
		sectors = append(sectors, at(t, d, base+i))
	}
	want := model(sectors, least, mount, head)
	datas := []string{}
	for _, r := range want {
		datas = append(datas, string(r.Data))
	}
	opens(t, d, base, size, least, mount, head, datas...)
	return len(want)
}

func TestOpenOfEachByteChanged(t *testing.T) {
	for _, n := range []int{0, 1, 49, 50, 51, 120, 150} {
		d := newDisk(t, 12)
		next := lay(t, d, 2, 10, 7, 3, text(1, n))
		end := lay(t, d, 2, 10, next, 4, text(2, n))
		for s := uint64(7); s < end; s++ {
			i := 2 + int(s%10)
			whole := at(t, d, i)
			for byt := range 64 {
				for _, x := range []byte{1, 2, 3, 7, 0x40, 0x80, 0xff} {
					b := []byte(whole)
					b[byt] ^= x
					put(t, d, i, string(b))
					asModel(t, d, 2, 10, 2, 5, 7)
				}
			}
			put(t, d, i, whole)
		}
		opens(t, d, 2, 10, 2, 5, 7, text(1, n), text(2, n))
	}
}

func TestOpenAgainstTheModel(t *testing.T) {
	r := rand.New(rand.NewSource(5))
	found := 0
	for range 2000 {
		base, size := r.Intn(4), 4+r.Intn(7)
		d := newDisk(t, 16)
		for range 8 {
			lay(t, d, base, size, uint64(1+r.Intn(9)), uint32(1+r.Intn(3)), text(r.Intn(9), r.Intn(50*min(size, 4))))
			if r.Intn(4) == 0 {
				i := base + r.Intn(size)
				b := []byte(at(t, d, i))
				b[[]int{7, 11, 12, 13, 14 + r.Intn(50)}[r.Intn(5)]] = byte(r.Intn(4))
				put(t, d, i, string(b))
			}
			for head := uint64(1); head < 6; head++ {
				least := uint32(1 + r.Intn(2))
				found += asModel(t, d, base, size, least, least+uint32(r.Intn(3)), head)
			}
		}
	}
	if found < 8000 {
		t.Errorf("%d records alone were found", found)
	}
}

func TestOpenChangesNothing(t *testing.T) {
	d := newDisk(t, 16)
	lay(t, d, 0, 8, 1, 1, text(1, 120))
	before, writes := d.Waiting(), d.Writes()
	d.Fuse(0)
	for range 3 {
		opens(t, d, 0, 8, 1, 2, 1, text(1, 120))
		opens(t, d, 0, 8, 1, 2, 4)
		opens(t, d, 8, 8, 1, 2, 1)
		refuses(t, d, 9, 8, 1, 2, 1, api.ErrArg)
	}
	if d.Waiting() != before || d.Writes() != writes || d.Syncs() != 1 || d.Down() {
		t.Errorf("%d wait, %d writes, %d syncs, Down %v", d.Waiting(), d.Writes(), d.Syncs(), d.Down())
	}
}

func TestOpenWithoutPower(t *testing.T) {
	d := newDisk(t, 8)
	lay(t, d, 0, 8, 1, 1, text(1, 120))
	d.Fuse(0)
	if e := d.Write(0, nil); e != api.ErrDown {
		t.Fatalf("Write: %d", e)
	}
	l := opens(t, d, 0, 8, 1, 2, 1, text(1, 120))
	appends(t, l, "ab", 0, api.ErrDown)
	trims(t, l, 4, api.OK)
	is(t, l, 4, 4, 8)
	refuses(t, d, 1, 8, 1, 2, 1, api.ErrArg)
}

func TestOpenIsNewMemory(t *testing.T) {
	d := newDisk(t, 16)
	datas := []string{text(1, 10), text(2, 60), "", text(3, 150), text(4, 50)}
	next := uint64(1)
	for _, data := range datas {
		next = lay(t, d, 0, 16, next, 1, data)
	}
	for i := range datas {
		l, recs, e := Open(d, 0, 16, 1, 1, 1)
		if e != api.OK || len(recs) != len(datas) {
			t.Fatalf("%d records, %d", len(recs), e)
		}
		spare := recs[i].Data[:cap(recs[i].Data)]
		for j := range spare {
			spare[j] = 0xee
		}
		for j, data := range datas {
			if j != i && string(recs[j].Data) != data {
				t.Errorf("records %d and %d share memory", i, j)
			}
		}
		rest := recs[:cap(recs)]
		for j := range rest {
			rest[j] = Rec{}
		}
		is(t, l, 1, next, 16-int(next-1))
		opens(t, d, 0, 16, 1, 1, 1, datas...)
	}
}

// P5.2

func TestAppendLaysSectors(t *testing.T) {
	for _, n := range sizes {
		for _, base := range []int{0, 3, 8} {
			for _, head := range []uint64{1, 5, 6, 7, 8, 1<<40 + 3, 1 << 62} {
				d := newDisk(t, 16)
				l := opens(t, d, base, 8, 3, 0x01020304, head)
				data := text(1, n)
				appends(t, l, data, head, api.OK)
				want := map[int]string{}
				for i, s := range laid(head, 0x01020304, data) {
					want[base+int((head+uint64(i))%8)] = s
				}
				for i := range 16 {
					s, ok := want[i]
					if !ok {
						s = old(i)
					}
					if at(t, d, i) != s {
						t.Errorf("%d bytes from %d on in a ring at %d: sector %d is %q, want %q", n, head, base, i, at(t, d, i), s)
					}
				}
				is(t, l, head, head+uint64(len(want)), 8-len(want))
				if d.Waiting() != len(want) || d.Syncs() != 1 {
					t.Errorf("%d bytes: %d wait, %d syncs", n, d.Waiting(), d.Syncs())
				}
			}
		}
	}
}

func TestAppendOneBehindTheOther(t *testing.T) {
	for _, n := range sizes {
		for _, m := range sizes {
			d := newDisk(t, 16)
			l := opens(t, d, 2, 12, 1, 1, 9)
			appends(t, l, text(1, n), 9, api.OK)
			next := 9 + uint64(Count(n))
			appends(t, l, text(2, m), next, api.OK)
			appends(t, l, "", next+uint64(Count(m)), api.OK)
			opens(t, d, 2, 12, 1, 1, 9, text(1, n), text(2, m), "")
		}
	}
}

func TestAppendBehindWhatIsThere(t *testing.T) {
	d := newDisk(t, 16)
	next := lay(t, d, 2, 12, 30, 4, text(1, 60))
	next = lay(t, d, 2, 12, next, 5, text(2, 100))
	lay(t, d, 2, 12, next+1, 5, "not found")
	l := opens(t, d, 2, 12, 4, 6, 30, text(1, 60), text(2, 100))
	appends(t, l, "ab", 34, api.OK)
	if got := at(t, d, 2+34%12); got != raw(34, 6, 3, 2, "ab") {
		t.Errorf("the piece 34: %q", got)
	}
	// What is behind is of an older mount.
	opens(t, d, 2, 12, 4, 7, 30, text(1, 60), text(2, 100), "ab")
}

func TestAppendTooLong(t *testing.T) {
	d := newDisk(t, 1000)
	l := opens(t, d, 0, 1000, 1, 1, 1)
	before := d.Writes()
	for _, n := range []int{32769, 32800, 40000, 65535, 65536, 65537, 1 << 20} {
		appends(t, l, text(1, n), 0, api.ErrBound)
	}
	is(t, l, 1, 1, 1000)
	if d.Writes() != before {
		t.Errorf("%d writes", d.Writes()-before)
	}
	appends(t, l, text(1, 32768), 1, api.OK)
	is(t, l, 1, 657, 344)
	opens(t, d, 0, 1000, 1, 1, 1, text(1, 32768))
	// ErrBound stands ahead of ErrFull, and both ahead of ErrDown.
	appends(t, l, text(1, 32769), 0, api.ErrBound)
	appends(t, l, text(1, 32768), 0, api.ErrFull)
	d.Fuse(0)
	appends(t, l, text(1, 32769), 0, api.ErrBound)
	appends(t, l, text(1, 32768), 0, api.ErrFull)
	if d.Down() {
		t.Error("what is refused was written")
	}
	appends(t, l, text(1, 17200), 0, api.ErrDown)
	appends(t, l, text(1, 32769), 0, api.ErrBound)
	appends(t, l, text(1, 32768), 0, api.ErrFull)
	is(t, l, 1, 657, 344)
}

func TestAppendIntoALittleRing(t *testing.T) {
	d := newDisk(t, 8)
	l := opens(t, d, 4, 4, 1, 1, 1)
	for _, n := range []int{201, 250, 251, 32768} {
		appends(t, l, text(1, n), 0, api.ErrFull)
	}
	appends(t, l, text(1, 32769), 0, api.ErrBound)
	if d.Waiting() != 0 {
		t.Errorf("%d wait", d.Waiting())
	}
	appends(t, l, text(1, 200), 1, api.OK)
	is(t, l, 1, 5, 0)
	appends(t, l, "", 0, api.ErrFull)
	appends(t, l, text(1, 32769), 0, api.ErrBound)
	opens(t, d, 4, 4, 1, 1, 1, text(1, 200))
}

func TestAppendTillFull(t *testing.T) {
	for size := 4; size <= 12; size++ {
		for n := 1; n <= size+2; n++ {
			d := newDisk(t, 16)
			l := opens(t, d, 16-size, size, 1, 1, 5)
			data := text(n, n*50)
			datas := []string{}
			for len(datas) < size/n {
				appends(t, l, data, 5+uint64(len(datas)*n), api.OK)
				datas = append(datas, data)
			}
			waiting := d.Waiting()
			appends(t, l, data, 0, api.ErrFull)
			is(t, l, 5, 5+uint64(len(datas)*n), size%n+size/n*n-len(datas)*n)
			if waiting != d.Waiting() {
				t.Errorf("size %d, records of %d pieces: what was refused was written", size, n)
			}
			opens(t, d, 16-size, size, 1, 1, 5, datas...)
			for range size % n {
				appends(t, l, "x", l.Next(), api.OK)
			}
			appends(t, l, "", 0, api.ErrFull)
		}
	}
}

func TestAppendWithoutPower(t *testing.T) {
	for _, n := range sizes {
		for fuse := 0; fuse <= 5; fuse++ {
			d := newDisk(t, 16)
			l := opens(t, d, 5, 8, 1, 2, 6)
			appends(t, l, "ab", 6, api.OK)
			count := Count(n)
			d.Fuse(fuse)
			if fuse >= count {
				appends(t, l, text(1, n), 7, api.OK)
				is(t, l, 6, 7+uint64(count), 7-count)
				continue
			}
			appends(t, l, text(1, n), 0, api.ErrDown)
			is(t, l, 6, 7, 7)
			appends(t, l, "", 0, api.ErrDown)
			is(t, l, 6, 7, 7)
			for i, s := range laid(7, 2, text(1, n)) {
				sector := 5 + (7+i)%8
				want := old(sector)
				if i < fuse {
					want = s
				}
				if at(t, d, sector) != want {
					t.Errorf("%d bytes and %d writes: sector %d is %q", n, fuse, sector, at(t, d, sector))
				}
			}
			// What was written of it is not found, whatever is kept.
			opens(t, d, 5, 8, 1, 2, 6, "ab")
			d.Crash([]int{1, 1, 1, 1, 1, 1, 1, 1})
			opens(t, d, 5, 8, 1, 3, 6, "ab")
		}
	}
}

func TestAppendLeavesAndForgetsItsData(t *testing.T) {
	for _, n := range []int{0, 1, 50, 51, 120} {
		whole := []byte(text(6, n+200))
		b := whole[100 : 100+n]
		d := newDisk(t, 8)
		l := opens(t, d, 0, 8, 1, 1, 1)
		if _, e := l.Append(b); e != api.OK {
			t.Errorf("Append of %d bytes: %d", n, e)
		}
		if string(whole) != text(6, n+200) {
			t.Errorf("what was handed in of %d bytes has changed", n)
		}
		want := string(b)
		for i := range whole {
			whole[i] = 0xee
		}
		opens(t, d, 0, 8, 1, 1, 1, want)
		syncs(t, d)
		opens(t, d, 0, 8, 1, 1, 1, want)
	}
}

func TestAppendNil(t *testing.T) {
	for _, b := range [][]byte{nil, {}} {
		d := newDisk(t, 8)
		l := opens(t, d, 0, 8, 1, 1, 7)
		if from, e := l.Append(b); from != 7 || e != api.OK {
			t.Errorf("Append of nothing: %d, %d", from, e)
		}
		if at(t, d, 7) != raw(7, 1, 3, 0, "") {
			t.Errorf("a record without data: %q", at(t, d, 7))
		}
		opens(t, d, 0, 8, 1, 1, 7, "")
	}
}

// P5.3

func TestTrim(t *testing.T) {
	d := newDisk(t, 16)
	l := opens(t, d, 0, 8, 1, 1, 5)
	for _, to := range []uint64{0, 1, 4, 6, 7, 1 << 62, math.MaxUint64 - 1, math.MaxUint64} {
		trims(t, l, to, api.ErrArg)
	}
	trims(t, l, 5, api.OK)
	appends(t, l, text(1, 250), 5, api.OK)
	is(t, l, 5, 10, 3)
	for _, to := range []uint64{0, 4, 11, 12, math.MaxUint64} {
		trims(t, l, to, api.ErrArg)
		is(t, l, 5, 10, 3)
	}
	trims(t, l, 5, api.OK)
	is(t, l, 5, 10, 3)
	// The log may begin within a record: which pieces it needs its owner knows.
	trims(t, l, 7, api.OK)
	is(t, l, 7, 10, 5)
	trims(t, l, 6, api.ErrArg)
	trims(t, l, 10, api.OK)
	is(t, l, 10, 10, 8)
	trims(t, l, 9, api.ErrArg)
	trims(t, l, 11, api.ErrArg)
	trims(t, l, 10, api.OK)
	if d.Waiting() != 5 {
		t.Errorf("%d wait", d.Waiting())
	}
	// What was trimmed is still there for one who opens with the older head, till it is written over.
	opens(t, d, 0, 8, 1, 1, 5, text(1, 250))
	appends(t, l, text(2, 200), 10, api.OK)
	opens(t, d, 0, 8, 1, 1, 5)
	opens(t, d, 0, 8, 1, 1, 10, text(2, 200))
}

func TestTrimOfWhatWasFound(t *testing.T) {
	d := newDisk(t, 16)
	next := lay(t, d, 0, 8, 5, 1, text(1, 120))
	lay(t, d, 0, 8, next, 1, "ab")
	l := opens(t, d, 0, 8, 1, 2, 5, text(1, 120), "ab")
	trims(t, l, 10, api.ErrArg)
	trims(t, l, 4, api.ErrArg)
	trims(t, l, 8, api.OK)
	is(t, l, 8, 9, 7)
	appends(t, l, text(2, 350), 9, api.OK)
	is(t, l, 8, 16, 0)
	opens(t, d, 0, 8, 1, 2, 8, "ab", text(2, 350))
	trims(t, l, 16, api.OK)
	is(t, l, 16, 16, 8)
}

func TestRoundTheRing(t *testing.T) {
	r := rand.New(rand.NewSource(7))
	for _, head := range []uint64{1, 1 << 33, 1 << 62} {
		d := newDisk(t, 24)
		l := opens(t, d, 5, 13, 1, 1, head)
		datas, starts := []string{}, []uint64{}
		for step := range 600 {
			data := text(step, r.Intn(230))
			next := l.Next()
			if Count(len(data)) > l.Room() {
				appends(t, l, data, 0, api.ErrFull)
				gone := 1 + r.Intn(len(datas))
				to := next
				if gone < len(starts) {
					to = starts[gone]
				}
				trims(t, l, to, api.OK)
				datas, starts = datas[gone:], starts[gone:]
			} else {
				appends(t, l, data, next, api.OK)
				datas, starts = append(datas, data), append(starts, next)
			}
			if l.Head() <= 1<<62 {
				opens(t, d, 5, 13, 1, 1, l.Head(), datas...)
			}
		}
		for i := range 24 {
			if (i < 5 || i >= 18) && at(t, d, i) != old(i) {
				t.Errorf("sector %d beside the ring isn't what it was", i)
			}
		}
	}
}

func TestNil(t *testing.T) {
	var l *Log
	is(t, l, 0, 0, 0)
	appends(t, l, "", 0, api.ErrState)
	appends(t, l, "ab", 0, api.ErrState)
	// ErrState stands ahead of the other errors.
	appends(t, l, text(1, 32769), 0, api.ErrState)
	for _, to := range []uint64{0, 1, math.MaxUint64} {
		trims(t, l, to, api.ErrState)
	}
	is(t, l, 0, 0, 0)
}

// P5.4

// keeps are the lists for a Crash by the bits of mask, n of them.
func keeps(mask, n int) []int {
	keep := []int{}
	for j := range n {
		keep = append(keep, mask>>j&1)
	}
	return keep
}

func TestACrashKeepsTheFirstRecords(t *testing.T) {
	for _, lens := range [][]int{{1, 1, 1, 1}, {60, 1, 60}, {150, 60, 1}, {1, 150, 0, 0}, {0, 0, 120, 60}} {
		datas, count := []string{}, 0
		for i, n := range lens {
			datas = append(datas, text(i, n))
			count += Count(n)
		}
		for synced := 0; synced <= len(lens); synced++ {
			for mask := range 1 << count {
				d := newDisk(t, 16)
				l := opens(t, d, 4, 8, 1, 1, 7)
				for i, data := range datas {
					if i == synced {
						syncs(t, d)
					}
					appends(t, l, data, l.Next(), api.OK)
				}
				if synced == len(lens) {
					syncs(t, d)
				}
				d.Crash(keeps(mask, count))
				want, bit := synced, 0
				for want < len(lens) && mask>>bit&(1<<Count(lens[want])-1) == 1<<Count(lens[want])-1 {
					bit += Count(lens[want])
					want++
				}
				opens(t, d, 4, 8, 1, 2, 7, datas[:want]...)
				opens(t, d, 4, 8, 1, 3, 7, datas[:want]...)
			}
		}
	}
}

func TestWhatACrashHasTornNeverComesBack(t *testing.T) {
	for first := range 1 << 5 {
		for second := range 1 << 4 {
			for _, lens := range [][]int{{1, 1, 1, 1}, {60, 60}, {150, 1}, {1, 150}, {101, 0}} {
				d := newDisk(t, 16)
				l := opens(t, d, 0, 8, 1, 1, 1)
				for i := range 5 {
					appends(t, l, fmt.Sprint("old", i), uint64(1+i), api.OK)
				}
				d.Crash(keeps(first, 5))
				datas := []string{}
				for first>>len(datas)&1 != 0 {
					datas = append(datas, fmt.Sprint("old", len(datas)))
				}
				there := len(datas)
				l = opens(t, d, 0, 8, 1, 2, 1, datas...)
				bit := 0
				for i, n := range lens {
					if Count(n) > l.Room() {
						break
					}
					appends(t, l, text(i, n), l.Next(), api.OK)
					whole := 1<<Count(n) - 1
					if len(datas) == there+i && second>>bit&whole == whole {
						datas = append(datas, text(i, n))
					}
					bit += Count(n)
				}
				d.Crash(keeps(second, 4))
				opens(t, d, 0, 8, 1, 3, 1, datas...)
			}
		}
	}
}

func TestATornRecordOfAnOlderMount(t *testing.T) {
	// Of the first mount's record the first piece is lost; a record of the second one's as long would end with its last.
	d := newDisk(t, 8)
	l := opens(t, d, 0, 8, 1, 1, 1)
	appends(t, l, text(1, 150), 1, api.OK)
	d.Crash([]int{0, 1, 1})
	l = opens(t, d, 0, 8, 1, 2, 1)
	appends(t, l, text(2, 150), 1, api.OK)
	d.Crash([]int{1, 1, 0})
	l = opens(t, d, 0, 8, 1, 3, 1)
	appends(t, l, text(3, 60), 1, api.OK)
	d.Crash([]int{1})
	opens(t, d, 0, 8, 1, 4, 1)
	// An append that the power was too short for, and one of the next mount.
	l = opens(t, d, 0, 8, 1, 5, 1)
	d.Fuse(2)
	appends(t, l, text(4, 150), 0, api.ErrDown)
	d.Crash([]int{1, 1})
	l = opens(t, d, 0, 8, 1, 6, 1)
	appends(t, l, text(5, 50), 1, api.OK)
	syncs(t, d)
	d.Crash(nil)
	opens(t, d, 0, 8, 1, 7, 1, text(5, 50))
}

// history is what the mounts of a log have found and appended, and how many of these a Sync was behind.
type history struct {
	datas  []string
	synced int
}

// finds opens the log for the next mount, and asks for the first records of the history, at least those that were synced.
func (h *history) finds(t *testing.T, d *disk.Disk, base, size int, least, mount uint32, head uint64) *Log {
	t.Helper()
	l, recs, e := Open(d, base, size, least, mount, head)
	if e != api.OK {
		t.Fatalf("Open: %d", e)
	}
	next := head
	for i, rec := range recs {
		if i >= len(h.datas) || string(rec.Data) != h.datas[i] || rec.From != next {
			t.Fatalf("mount %d: record %d of %d to %d isn't the one that was appended", mount, i, rec.From, rec.To)
		}
		next = rec.To
	}
	if len(recs) < h.synced {
		t.Fatalf("mount %d: %d records, of %d that were synced", mount, len(recs), h.synced)
	}
	is(t, l, head, next, size-int(next-head))
	h.datas = h.datas[:len(recs)]
	return l
}

// moves lets a mount append, sync and trim nothing for some steps, with the power going in between or not, and crashes.
func (h *history) moves(t *testing.T, r *rand.Rand, d *disk.Disk, l *Log, seed *int) {
	t.Helper()
	if r.Intn(3) == 0 {
		d.Fuse(r.Intn(12))
	}
	for range r.Intn(6) {
		if r.Intn(3) == 0 {
			if d.Sync() == api.OK {
				h.synced = len(h.datas)
			}
			continue
		}
		*seed++
		data := text(*seed, r.Intn(160))
		next, room := l.Next(), l.Room()
		from, e := l.Append([]byte(data))
		switch {
		case Count(len(data)) > room:
			if e != api.ErrFull {
				t.Fatalf("Append of %d bytes with room for %d: %d", len(data), room, e)
			}
		case e == api.OK && from == next:
			h.datas = append(h.datas, data)
		case e != api.ErrDown || !d.Down():
			t.Fatalf("Append: %d, %d", from, e)
		}
	}
	keep := []int{}
	for range d.Waiting() {
		keep = append(keep, r.Intn(4))
	}
	if r.Intn(4) != 0 || d.Down() {
		d.Crash(keep)
	}
}

func TestManyMounts(t *testing.T) {
	r := rand.New(rand.NewSource(11))
	found := 0
	for range 1500 {
		base, size := r.Intn(8), 4+r.Intn(20)
		d := newDisk(t, 32)
		h := &history{}
		head := uint64(1 + r.Intn(100))
		mount, seed := uint32(1), 0
		for range 10 {
			l := h.finds(t, d, base, size, 1, mount, head)
			found += len(h.datas)
			h.moves(t, r, d, l, &seed)
			mount += uint32(1 + r.Intn(3))
		}
	}
	if found < 20000 {
		t.Errorf("%d records alone were found", found)
	}
}

// P5.5

func TestANewHead(t *testing.T) {
	// Behind the new head lie pieces with right numbers, which the older mount's crash has left.
	d := newDisk(t, 16)
	l := opens(t, d, 0, 8, 1, 1, 1)
	for _, data := range []string{"a", "b", "c", "d"} {
		appends(t, l, data, l.Next(), api.OK)
	}
	d.Crash([]int{1, 0, 1, 1})
	l = opens(t, d, 0, 8, 1, 2, 1, "a")
	head := l.Next()
	trims(t, l, head, api.OK)
	is(t, l, 2, 2, 8)
	opens(t, d, 0, 8, 2, 2, head)
	// The piece 3 would be found behind the new piece 2, but for its mount.
	appends(t, l, "e", 2, api.OK)
	d.Crash([]int{1})
	l = opens(t, d, 0, 8, 2, 3, head, "e")
	appends(t, l, "f", 3, api.OK)
	d.Crash(nil)
	opens(t, d, 0, 8, 2, 4, head, "e")
	// The head lies at a piece that the first mount has left, and nothing was appended since.
	l = opens(t, d, 0, 8, 2, 5, head, "e")
	opens(t, d, 0, 8, 5, 6, l.Next())
}

func TestManyHeads(t *testing.T) {
	r := rand.New(rand.NewSource(13))
	found := 0
	for range 1500 {
		base, size := r.Intn(8), 4+r.Intn(20)
		d := newDisk(t, 32)
		h := &history{}
		head, least := uint64(1+r.Intn(100)), uint32(1)
		mount, seed := uint32(1), 0
		for range 16 {
			l := h.finds(t, d, base, size, least, mount, head)
			found += len(h.datas)
			if r.Intn(3) == 0 {
				head, least = l.Next(), mount
				trims(t, l, head, api.OK)
				h.datas, h.synced = nil, 0
			}
			h.moves(t, r, d, l, &seed)
			mount += uint32(1 + r.Intn(3))
		}
	}
	if found < 20000 {
		t.Errorf("%d records alone were found", found)
	}
}

func TestLogsApart(t *testing.T) {
	// Two rings of one disk, and one of another.
	d, other := newDisk(t, 16), newDisk(t, 16)
	a := opens(t, d, 0, 8, 1, 1, 1)
	b := opens(t, d, 8, 8, 1, 1, 1)
	c := opens(t, other, 0, 8, 1, 1, 1)
	appends(t, a, text(1, 120), 1, api.OK)
	appends(t, b, text(2, 60), 1, api.OK)
	other.Fuse(1)
	appends(t, c, text(3, 60), 0, api.ErrDown)
	appends(t, a, "a", 4, api.OK)
	appends(t, b, text(2, 300), 3, api.OK)
	appends(t, b, "", 0, api.ErrFull)
	trims(t, b, 3, api.OK)
	is(t, a, 1, 5, 4)
	is(t, b, 3, 9, 2)
	is(t, c, 1, 1, 8)
	opens(t, d, 0, 8, 1, 1, 1, text(1, 120), "a")
	opens(t, d, 8, 8, 1, 1, 1, text(2, 60), text(2, 300))
	opens(t, other, 0, 8, 1, 1, 1)
}
