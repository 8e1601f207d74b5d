package pack

import (
	"bytes"
	"math"
	"strings"
	"testing"
)

// take is one take of each kind: its name, the bytes that it takes, and whether it answers the zero.
type take struct {
	name string
	full []byte
	zero func(i *In) bool
}

func takes() []take {
	return []take{
		{"U8", []byte{9}, func(i *In) bool { return i.U8() == 0 }},
		{"U16", []byte{9, 8}, func(i *In) bool { return i.U16() == 0 }},
		{"U32", []byte{9, 8, 7, 6}, func(i *In) bool { return i.U32() == 0 }},
		{"U64", []byte{9, 8, 7, 6, 5, 4, 3, 2}, func(i *In) bool { return i.U64() == 0 }},
		{"Flag", []byte{1}, func(i *In) bool { return !i.Flag() }},
		{"Text", []byte{0, 3, 'a', 'b', 'c'}, func(i *In) bool { return i.Text() == "" }},
	}
}

// isBad tells whether an In is bad with so many bytes left, and stays so whatever is asked of it.
func isBad(t *testing.T, name string, i *In, left int) {
	t.Helper()
	for range 2 {
		if !i.Bad() || i.Left() != left || i.Done() {
			t.Errorf("%s: Bad %v, Left %d, Done %v, not bad with %d left", name, i.Bad(), i.Left(), i.Done(), left)
		}
		for _, k := range takes() {
			if !k.zero(i) {
				t.Errorf("%s: %s of a bad In isn't the zero", name, k.name)
			}
		}
	}
}

// P1.1

func TestPutNumbers(t *testing.T) {
	tests := []struct {
		name string
		put  func(o *Out)
		want []byte
	}{
		{"nothing", func(o *Out) {}, nil},
		{"U8 0", func(o *Out) { o.U8(0) }, []byte{0}},
		{"U8 most", func(o *Out) { o.U8(math.MaxUint8) }, []byte{255}},
		{"U16", func(o *Out) { o.U16(0x0102) }, []byte{1, 2}},
		{"U16 1", func(o *Out) { o.U16(1) }, []byte{0, 1}},
		{"U16 most", func(o *Out) { o.U16(math.MaxUint16) }, []byte{255, 255}},
		{"U32", func(o *Out) { o.U32(0x01020304) }, []byte{1, 2, 3, 4}},
		{"U32 1", func(o *Out) { o.U32(1) }, []byte{0, 0, 0, 1}},
		{"U32 highest bit", func(o *Out) { o.U32(1 << 31) }, []byte{128, 0, 0, 0}},
		{"U64", func(o *Out) { o.U64(0x0102030405060708) }, []byte{1, 2, 3, 4, 5, 6, 7, 8}},
		{"U64 1", func(o *Out) { o.U64(1) }, []byte{0, 0, 0, 0, 0, 0, 0, 1}},
		{"U64 most", func(o *Out) { o.U64(math.MaxUint64) }, bytes.Repeat([]byte{255}, 8)},
		{"flags", func(o *Out) { o.Flag(true); o.Flag(false) }, []byte{1, 0}},
		{"in order", func(o *Out) { o.U32(1); o.U8(2); o.Flag(true); o.U64(3); o.U16(4) },
			[]byte{0, 0, 0, 1, 2, 1, 0, 0, 0, 0, 0, 0, 0, 3, 0, 4}},
	}
	for _, k := range tests {
		o := &Out{}
		k.put(o)
		if got := o.Bytes(); !bytes.Equal(got, k.want) {
			t.Errorf("%s: %v, want %v", k.name, got, k.want)
		}
	}
}

func TestPutTexts(t *testing.T) {
	tests := []struct {
		s    string
		head []byte
	}{
		{"", []byte{0, 0}},
		{"ab", []byte{0, 2}},
		{"\x00\xff\x80", []byte{0, 3}},
		{"ä", []byte{0, 2}},
		{strings.Repeat("x", 256), []byte{1, 0}},
		{strings.Repeat("x", 65534), []byte{255, 254}},
		{strings.Repeat("x", 65535), []byte{255, 255}},
	}
	for _, k := range tests {
		o := &Out{}
		if !o.Text(k.s) {
			t.Errorf("a text of %d bytes is refused", len(k.s))
		}
		if got := o.Bytes(); !bytes.Equal(got, append(k.head, k.s...)) {
			t.Errorf("a text of %d bytes: %d bytes that are not its own", len(k.s), len(got))
		}
	}
}

func TestPutTextTooLong(t *testing.T) {
	for _, n := range []int{65536, 65537, 131072, 1 << 20} {
		o := &Out{}
		if o.Text(strings.Repeat("x", n)) || len(o.Bytes()) != 0 {
			t.Errorf("a text of %d bytes: %d bytes are put", n, len(o.Bytes()))
		}
		o.U8(7)
		if o.Text(strings.Repeat("x", n)) || !o.Text("a") {
			t.Errorf("a text of %d bytes behind a byte", n)
		}
		if got := o.Bytes(); !bytes.Equal(got, []byte{7, 0, 1, 'a'}) {
			t.Errorf("around a text of %d bytes: %v", n, got)
		}
	}
}

func TestBytesAreNewMemory(t *testing.T) {
	for n := range 70 {
		o := &Out{}
		for x := range n {
			o.U8(uint8(x))
		}
		a, b := o.Bytes(), o.Bytes()
		want := string(a)
		clear(a[:cap(a)])
		if string(b) != want || string(o.Bytes()) != want {
			t.Fatalf("%d bytes: an answer shares memory", n)
		}
		o.U16(0xeeee)
		clear(b[:cap(b)])
		if string(o.Bytes()) != want+"\xee\xee" {
			t.Fatalf("%d bytes: an answer shares its spare room", n)
		}
	}
}

func TestOutsApart(t *testing.T) {
	a, b := &Out{}, &Out{}
	a.U8(1)
	b.U8(2)
	a.Text("a")
	if !bytes.Equal(a.Bytes(), []byte{1, 0, 1, 'a'}) || !bytes.Equal(b.Bytes(), []byte{2}) {
		t.Errorf("%v and %v", a.Bytes(), b.Bytes())
	}
}

func TestNilOut(t *testing.T) {
	var o *Out
	o.U8(1)
	o.U16(1)
	o.U32(1)
	o.U64(1)
	o.Flag(true)
	if o.Text("") || o.Text("a") || o.Text(strings.Repeat("x", 65536)) || len(o.Bytes()) != 0 {
		t.Error("a nil Out gathers something")
	}
}

// P1.2

func TestTakeNumbers(t *testing.T) {
	i := To([]byte{
		0, 255,
		1, 2, 255, 255,
		1, 2, 3, 4, 255, 0, 0, 0,
		1, 2, 3, 4, 5, 6, 7, 8, 255, 255, 255, 255, 255, 255, 255, 254,
		1, 0,
	})
	if a, b := i.U8(), i.U8(); a != 0 || b != 255 {
		t.Errorf("U8: %d, %d", a, b)
	}
	if a, b := i.U16(), i.U16(); a != 0x0102 || b != 0xffff {
		t.Errorf("U16: %x, %x", a, b)
	}
	if a, b := i.U32(), i.U32(); a != 0x01020304 || b != 0xff000000 {
		t.Errorf("U32: %x, %x", a, b)
	}
	if a, b := i.U64(), i.U64(); a != 0x0102030405060708 || b != math.MaxUint64-1 {
		t.Errorf("U64: %x, %x", a, b)
	}
	if a, b := i.Flag(), i.Flag(); !a || b {
		t.Errorf("Flag: %v, %v", a, b)
	}
	if !i.Done() {
		t.Errorf("Bad %v, Left %d", i.Bad(), i.Left())
	}
}

func TestTakeTexts(t *testing.T) {
	for _, s := range []string{"", "a", "\x00\x01\xff\x80", strings.Repeat("xyz", 100), strings.Repeat("x", 65535)} {
		b := append([]byte{byte(len(s) >> 8), byte(len(s))}, s...)
		i := To(append(b, 5))
		if got := i.Text(); got != s || i.Left() != 1 {
			t.Errorf("a text of %d bytes: %d bytes, Left %d", len(s), len(got), i.Left())
		}
		if i.U8() != 5 || !i.Done() {
			t.Errorf("behind a text of %d bytes", len(s))
		}
	}
}

func TestToCopies(t *testing.T) {
	b := []byte{1, 0, 2, 'a', 'b', 9}
	i := To(b)
	if i.U8() != 1 {
		t.Error("the first byte")
	}
	for at := range b {
		b[at] = 0xee
	}
	if i.Text() != "ab" || i.U8() != 9 || !i.Done() {
		t.Error("bytes that were written over behind To were taken")
	}
}

func TestToStaysWithin(t *testing.T) {
	b := []byte{1, 2, 3, 4}
	i := To(b[1:2])
	if i.Left() != 1 || i.U8() != 2 || i.U8() != 0 || !i.Bad() {
		t.Error("an In takes from the room behind its bytes")
	}
	if !bytes.Equal(b, []byte{1, 2, 3, 4}) {
		t.Errorf("what was handed in is now %v", b)
	}
}

func TestInsApart(t *testing.T) {
	b := []byte{1, 2, 3}
	i, j := To(b), To(b)
	i.U64()
	if j.Bad() || j.U16() != 0x0102 || j.U8() != 3 || !j.Done() {
		t.Error("one In hangs on another")
	}
}

func TestThereAndBack(t *testing.T) {
	o := &Out{}
	for n := range 300 {
		x := uint64(n) * 0x9e3779b97f4a7c15
		o.U64(x)
		o.U32(uint32(x))
		o.U16(uint16(x))
		o.U8(uint8(x))
		o.Flag(n%3 == 0)
		o.Text(strings.Repeat("t", n))
	}
	i := To(o.Bytes())
	for n := range 300 {
		x := uint64(n) * 0x9e3779b97f4a7c15
		if i.U64() != x || i.U32() != uint32(x) || i.U16() != uint16(x) || i.U8() != uint8(x) {
			t.Fatalf("the numbers of round %d", n)
		}
		if i.Flag() != (n%3 == 0) || i.Text() != strings.Repeat("t", n) {
			t.Fatalf("the flag or the text of round %d", n)
		}
	}
	if !i.Done() {
		t.Errorf("Bad %v, Left %d", i.Bad(), i.Left())
	}
}

// P1.3

func TestTakesTooShort(t *testing.T) {
	for _, k := range takes() {
		for n := range k.full {
			i := To(k.full[:n])
			if !k.zero(i) {
				t.Errorf("%s of %d bytes isn't the zero", k.name, n)
			}
			isBad(t, k.name, i, n)
		}
		i := To(k.full)
		if k.zero(i) || !i.Done() {
			t.Errorf("%s of all its bytes: Bad %v, Left %d", k.name, i.Bad(), i.Left())
		}
	}
}

func TestTakesTooShortBehindOthers(t *testing.T) {
	for _, k := range takes() {
		short := k.full[:len(k.full)-1]
		i := To(append([]byte{3, 0, 1, 'z'}, short...))
		if i.U8() != 3 || i.Text() != "z" || i.Bad() {
			t.Errorf("%s: what stands ahead", k.name)
		}
		if !k.zero(i) {
			t.Errorf("%s isn't the zero", k.name)
		}
		isBad(t, k.name, i, len(short))
	}
}

func TestTextsTooShort(t *testing.T) {
	tests := [][]byte{
		{0, 1},
		{0, 5, 97},
		{1, 0, 97},
		append([]byte{255, 255}, make([]byte, 65534)...),
		append([]byte{0, 200}, make([]byte, 199)...),
	}
	for _, b := range tests {
		i := To(b)
		if s := i.Text(); s != "" {
			t.Errorf("%d bytes: a text of %d", len(b), len(s))
		}
		isBad(t, "Text", i, len(b))
	}
}

func TestFlagOfAnotherByte(t *testing.T) {
	for x := 2; x <= 255; x++ {
		i := To([]byte{byte(x), 1})
		if i.Flag() {
			t.Errorf("the flag %d is true", x)
		}
		isBad(t, "Flag", i, 2)
	}
	i := To([]byte{1, 3})
	if !i.Flag() || i.Bad() || i.Flag() {
		t.Error("the flags 1 and 3")
	}
	isBad(t, "Flag", i, 1)
}

func TestNilIn(t *testing.T) {
	var i *In
	isBad(t, "nil", i, 0)
}

// P1.4

func TestLeftAndDone(t *testing.T) {
	i := To([]byte{1, 0, 1, 0, 0, 0, 1, 0, 0, 0, 0, 0, 0, 0, 1, 1, 0, 2, 'a', 'b'})
	steps := []struct {
		name string
		take func()
		left int
	}{
		{"To", func() {}, 20},
		{"U8", func() { i.U8() }, 19},
		{"U16", func() { i.U16() }, 17},
		{"U32", func() { i.U32() }, 13},
		{"U64", func() { i.U64() }, 5},
		{"Flag", func() { i.Flag() }, 4},
		{"Text", func() { i.Text() }, 0},
	}
	for _, k := range steps {
		k.take()
		if i.Bad() || i.Left() != k.left || i.Done() != (k.left == 0) {
			t.Errorf("behind %s: Bad %v, Left %d, Done %v", k.name, i.Bad(), i.Left(), i.Done())
		}
	}
	if i.U8() != 0 {
		t.Error("a take behind the end")
	}
	isBad(t, "behind the end", i, 0)
}

func TestToNothing(t *testing.T) {
	for _, b := range [][]byte{nil, {}} {
		i := To(b)
		if i == nil || i.Bad() || i.Left() != 0 || !i.Done() {
			t.Error("an In over nothing isn't done at once")
		}
	}
}
