package key

import (
	hexa "encoding/hex"
	"fmt"
	"math"
	"math/rand"
	"regexp"
	"slices"
	"strconv"
	"strings"
	"testing"
	"unicode/utf8"

	"granary/api"
	"granary/value"
)

// noKinds are numbers of no kind, those among them that a narrower number would take for one.
var noKinds = []int{math.MinInt, -1<<32 + 1, -256, -5, -1, 0, 6, 7, 257, 1<<16 + 2, 1<<32 + 3, 1<<62 + 4, math.MaxInt}

// notUTF8 are texts that are no UTF-8.
var notUTF8 = []string{"\xff", "a\x80", "\xc0\x80", "\xc3", "\xe2\x82", "\xed\xa0\x80", "\xf4\x90\x80\x80", "\xfe", "é\xa9"}

func null() api.Value              { return api.Value{} }
func integer(n int64) api.Value    { return api.Value{Kind: api.Int, N: uint64(n)} }
func unsigned(n uint64) api.Value  { return api.Value{Kind: api.Uint, N: n} }
func boolean(n uint64) api.Value   { return api.Value{Kind: api.Bool, N: n} }
func bytesOf(s string) api.Value   { return api.Value{Kind: api.Bytes, S: s} }
func textOf(s string) api.Value    { return api.Value{Kind: api.Text, S: s} }
func times(s string, n int) string { return strings.Repeat(s, n) }

// list answers a list of values.
func list(l ...api.Value) []api.Value { return l }

// ways answers for each letter whether it is a d: "ud" is up and down.
func ways(s string) []bool {
	var down []bool
	for at := range len(s) {
		down = append(down, s[at] == 'd')
	}
	return down
}

// nulls answers a list of n nulls.
func nulls(n int) []api.Value { return make([]api.Value, n) }

// unhex answers the bytes that are told by two digits each, with blanks between where one likes.
func unhex(s string) string {
	b, err := hexa.DecodeString(strings.ReplaceAll(s, " ", ""))
	if err != nil {
		panic(err)
	}
	return string(b)
}

// turned answers each byte taken from 255.
func turned(s string) string {
	b := []byte(s)
	for at := range b {
		b[at] = 255 - b[at]
	}
	return string(b)
}

// tell answers a list in a short form.
func tell(l []api.Value) string {
	s := ""
	for _, v := range l[:min(len(l), 9)] {
		s += fmt.Sprintf("{%d %d %.70q}", v.Kind, v.N, v.S)
	}
	return fmt.Sprintf("%d: %s", len(l), s)
}

// encodes asks what Encode answers.
func encodes(t *testing.T, l []api.Value, down []bool, want string, errno api.Errno) {
	t.Helper()
	if s, e := Encode(l, down); s != want || e != errno {
		t.Errorf("Encode(%s, %.9v): %x, %d, want %x, %d", tell(l), down, s, e, want, errno)
	}
}

// decodes asks what Decode answers.
func decodes(t *testing.T, kinds []int, down []bool, s string, want []api.Value, errno api.Errno) {
	t.Helper()
	if l, e := Decode(kinds, down, s); !slices.Equal(l, want) || e != errno {
		t.Errorf("Decode(%.9v, %.9v, %.300x): %s, %d, want %s, %d", kinds, down, s, tell(l), e, tell(want), errno)
	}
}

// bad asks whether Decode refuses a text.
func bad(t *testing.T, kinds []int, down []bool, s string) {
	t.Helper()
	decodes(t, kinds, down, s, nil, api.ErrBad)
}

// thereAndBack asks whether s is the list's key, and the list is read back of it as one of these kinds.
func thereAndBack(t *testing.T, kinds []int, l []api.Value, down []bool, s string) {
	t.Helper()
	encodes(t, l, down, s, api.OK)
	decodes(t, kinds, down, s, l, api.OK)
}

func TestExamples(t *testing.T) {
	// 1
	encodes(t, list(integer(-1)), ways("u"), unhex("01 7f ff ff ff ff ff ff ff"), api.OK)
	encodes(t, list(integer(0)), ways("u"), unhex("01 80 00 00 00 00 00 00 00"), api.OK)
	encodes(t, list(null()), ways("u"), unhex("00"), api.OK)
	encodes(t, list(null()), ways("d"), unhex("ff"), api.OK)
	encodes(t, list(boolean(1)), ways("d"), unhex("fe fe"), api.OK)
	// 2
	encodes(t, list(textOf("a")), ways("u"), unhex("01 61 00 00"), api.OK)
	encodes(t, list(bytesOf("a\x00b")), ways("u"), unhex("01 61 00 ff 62 00 00"), api.OK)
	encodes(t, list(textOf("a"), unsigned(1)), ways("uu"), unhex("01 61 00 00 01 00 00 00 00 00 00 00 01"), api.OK)
	// 3
	bad(t, []int{api.Text}, ways("u"), unhex("01 61 00 01"))
	bad(t, []int{api.Bool}, ways("u"), unhex("01 02"))
	decodes(t, nil, nil, "", nil, api.OK)
	// 4
	after(t, "ab", "ac", true)
	after(t, "a\xff", "b", true)
	after(t, "\xff", "", false)
	if s := Under(""); s != (api.Span{Open: true}) {
		t.Errorf("Under of nothing: %+v", s)
	}
	// 5
	meet(t, span("a", "c"), span("b", "d"), true)
	meet(t, span("a", "b"), span("b", "c"), false)
	for _, s := range []api.Span{span("a", "c"), span("", "z"), {Open: true}, {Lo: "b", Open: true}, span("b", "a")} {
		meet(t, span("b", "a"), s, false)
	}
	if !In(span("a", "c"), "b\x00") {
		t.Error("b and a byte 0 don't lie between a and c")
	}
	meet(t, span("a", "a\x00"), span("a\x00", "c"), false)
}

// P7.1

// forms are values of each kind, each with its bytes as it goes up.
func forms() map[string]api.Value {
	return map[string]api.Value{
		"00":                  null(),
		"01 0000000000000000": integer(math.MinInt64),
		"01 0000000000000001": integer(math.MinInt64 + 1),
		"01 7fffffffffffff00": integer(-256),
		"01 7fffffffffffffff": integer(-1),
		"01 8000000000000000": integer(0),
		"01 8000000000000001": integer(1),
		"01 8102030405060708": integer(0x0102030405060708),
		"01 ffffffffffffffff": integer(math.MaxInt64),

		"01 0000000000000000 uint": unsigned(0),
		"01 0000000000000001 uint": unsigned(1),
		"01 0102030405060708 uint": unsigned(0x0102030405060708),
		"01 7fffffffffffffff uint": unsigned(math.MaxInt64),
		"01 8000000000000000 uint": unsigned(1 << 63),
		"01 ffffffffffffffff uint": unsigned(math.MaxUint64),

		"01 00": boolean(0),
		"01 01": boolean(1),

		"01 0000":                                bytesOf(""),
		"01 00ff 0000":                           bytesOf("\x00"),
		"01 00ff 00ff 0000":                      bytesOf("\x00\x00"),
		"01 00ff ff 0000":                        bytesOf("\x00\xff"),
		"01 ff 00ff 0000":                        bytesOf("\xff\x00"),
		"01 ffff 0000":                           bytesOf("\xff\xff"),
		"01 01 00ff 02 0000":                     bytesOf("\x01\x00\x02"),
		"01 6100ff6200ff00ff 0000":               bytesOf("a\x00b\x00\x00"),
		"01" + times("ab", 64) + "0000":          bytesOf(times("\xab", 64)),
		"01" + times("00ff", 64) + "0000":        bytesOf(times("\x00", 64)),
		"01" + times("0100ff", 32) + "0000":      bytesOf(times("\x01\x00", 32)),
		"01 0000 text":                           textOf(""),
		"01 61 0000 text":                        textOf("a"),
		"01 00ff 0000 text":                      textOf("\x00"),
		"01 c3a9 00ff 0000 text":                 textOf("é\x00"),
		"01 f48fbfbf 0000 text":                  textOf("\U0010ffff"),
		"01" + times("00ff", 64) + "0000 text":   textOf(times("\x00", 64)),
		"01" + times("c3a9", 32) + "0000 text":   textOf(times("é", 32)),
		"01" + times("7a", 64) + "0000 text":     textOf(times("z", 64)),
		"01" + times("7a00ff", 32) + "0000 text": textOf(times("z\x00", 32)),
	}
}

// form answers the bytes that such a form tells.
func form(s string) string {
	s, _, _ = strings.Cut(s, "uint")
	s, _, _ = strings.Cut(s, "text")
	return unhex(s)
}

// asKind answers the kind of a value; any one of null.
func asKind(v api.Value) int { return max(v.Kind, api.Int) }

func TestKeysOfEachValue(t *testing.T) {
	for s, v := range forms() {
		thereAndBack(t, []int{asKind(v)}, list(v), ways("u"), form(s))
		thereAndBack(t, []int{asKind(v)}, list(v), ways("d"), turned(form(s)))
	}
	for kind := api.Int; kind <= api.Text; kind++ {
		thereAndBack(t, []int{kind}, list(null()), ways("u"), "\x00")
		thereAndBack(t, []int{kind}, list(null()), ways("d"), "\xff")
	}
}

func TestKeysOfLists(t *testing.T) {
	thereAndBack(t, nil, nil, nil, "")
	thereAndBack(t, []int{}, list(), []bool{}, "")
	for s, v := range forms() {
		for r, w := range forms() {
			a, b := form(s), form(r)
			if len(a)+len(b) > 256 {
				continue
			}
			kinds, l := []int{asKind(v), asKind(w)}, list(v, w)
			thereAndBack(t, kinds, l, ways("uu"), a+b)
			thereAndBack(t, kinds, l, ways("du"), turned(a)+b)
			thereAndBack(t, kinds, l, ways("ud"), a+turned(b))
			thereAndBack(t, kinds, l, ways("dd"), turned(a)+turned(b))
		}
	}
	thereAndBack(t, []int{api.Int, api.Bool, api.Text, api.Uint, api.Bytes, api.Text},
		list(integer(-2), boolean(1), textOf("a"), null(), bytesOf("\x00"), textOf("")), ways("uduudd"),
		unhex("01 7ffffffffffffffe  fe fe  01 61 00 00  00  fe ff 00 ff ff  fe ff ff"))
}

func TestEncodeOfListsOfUnlikeLengths(t *testing.T) {
	for n := range 5 {
		for m := range 5 {
			if n != m {
				encodes(t, nulls(n), make([]bool, m), "", api.ErrArg)
			}
		}
	}
	encodes(t, list(integer(1)), nil, "", api.ErrArg)
	encodes(t, nil, ways("u"), "", api.ErrArg)
	encodes(t, nulls(255), make([]bool, 511), "", api.ErrArg)
}

// noValues are those that are no values.
func noValues() []api.Value {
	l := []api.Value{
		{Kind: api.Null, N: 1}, {Kind: api.Null, S: "a"},
		{Kind: api.Int, S: "a"}, {Kind: api.Uint, S: "\x00"},
		{Kind: api.Bool, N: 2}, {Kind: api.Bool, N: 256}, {Kind: api.Bool, N: 1<<32 + 1}, {Kind: api.Bool, S: "a"},
		{Kind: api.Bytes, N: 1, S: "a"}, {Kind: api.Text, N: 1, S: "a"},
		bytesOf(times("a", 65)), textOf(times("a", 65)), textOf(times("a", 63) + "é"), bytesOf(times("a", 1<<20)),
	}
	for _, s := range notUTF8 {
		l = append(l, textOf(s))
	}
	for _, kind := range noKinds {
		if kind != api.Null {
			l = append(l, api.Value{Kind: kind}, api.Value{Kind: kind, N: 1}, api.Value{Kind: kind, S: "a"})
		}
	}
	return l
}

func TestEncodeOfNoValue(t *testing.T) {
	for _, v := range noValues() {
		for _, down := range [][]bool{ways("uuu"), ways("ddd"), ways("udu")} {
			encodes(t, list(v), down[:1], "", api.ErrType)
			encodes(t, list(v, integer(1), null()), down, "", api.ErrType)
			encodes(t, list(integer(1), v, null()), down, "", api.ErrType)
			encodes(t, list(integer(1), null(), v), down, "", api.ErrType)
		}
	}
}

// full answers a list with a key of so many bytes, 203 at least, and its kinds.
func full(size int) ([]int, []api.Value) {
	l := list(textOf(times("a", 64)), bytesOf(times("\x00", 63)), integer(7))
	kinds := []int{api.Text, api.Bytes, api.Int}
	for size -= 67 + 129 + 9; size > 0; size-- {
		l = append(l, null())
		kinds = append(kinds, api.Uint)
	}
	return kinds, l
}

func TestEncodeOfLongKeys(t *testing.T) {
	for _, down := range []bool{false, true} {
		for size := 250; size < 270; size++ {
			kinds, l := full(size)
			ways := slices.Repeat([]bool{down}, len(l))
			s, e := Encode(l, ways)
			if size > 256 {
				if s != "" || e != api.ErrBound {
					t.Errorf("a key of %d bytes: %d bytes, %d", size, len(s), e)
				}
				continue
			}
			if len(s) != size || e != api.OK {
				t.Errorf("a key of %d bytes: %d bytes, %d", size, len(s), e)
			}
			decodes(t, kinds, ways, s, l, api.OK)
		}
	}
	encodes(t, nulls(256), make([]bool, 256), times("\x00", 256), api.OK)
	encodes(t, nulls(257), make([]bool, 257), "", api.ErrBound)
	encodes(t, nulls(1<<16+1), make([]bool, 1<<16+1), "", api.ErrBound)
	// 131 and 125 bytes; with one more the last text is too long, and it is so at whatever place.
	zeros, rest := bytesOf(times("\x00", 64)), bytesOf(times("\x00", 61))
	encodes(t, list(zeros, rest), ways("uu"), unhex("01"+times("00ff", 64)+"000001"+times("00ff", 61)+"0000"), api.OK)
	encodes(t, list(zeros, rest, null()), ways("uuu"), "", api.ErrBound)
	encodes(t, list(null(), zeros, rest), ways("uuu"), "", api.ErrBound)
	encodes(t, list(zeros, zeros), ways("uu"), "", api.ErrBound)
	encodes(t, list(boolean(1), zeros, bytesOf(times("\x00", 60)), null()), ways("uuuu"), "", api.ErrBound)
}

// The error that the chapter names first is the answer.
func TestEncodesFirstError(t *testing.T) {
	long := list(textOf(times("a", 64)), textOf(times("a", 64)), textOf(times("a", 64)), textOf(times("a", 64)))
	for _, v := range noValues() {
		encodes(t, list(v), nil, "", api.ErrArg)
		encodes(t, append(slices.Clone(long), v), make([]bool, 4), "", api.ErrArg)
		encodes(t, append(slices.Clone(long), v), make([]bool, 6), "", api.ErrArg)
		encodes(t, append(slices.Clone(long), v), make([]bool, 5), "", api.ErrType)
		encodes(t, append(list(v), long...), make([]bool, 5), "", api.ErrType)
		encodes(t, append(nulls(1000), v), make([]bool, 1001), "", api.ErrType)
	}
	encodes(t, long, make([]bool, 3), "", api.ErrArg)
	encodes(t, long, make([]bool, 4), "", api.ErrBound)
}

// P7.2

func TestDecodeOfWrongKindsAndLengths(t *testing.T) {
	for n := range 5 {
		for m := range 5 {
			if n != m {
				decodes(t, slices.Repeat([]int{api.Int}, n), make([]bool, m), times("\x00", n), nil, api.ErrArg)
			}
		}
	}
	decodes(t, nil, ways("u"), "", nil, api.ErrArg)
	decodes(t, []int{api.Int}, nil, "", nil, api.ErrArg)
	for _, kind := range noKinds {
		decodes(t, []int{kind}, ways("u"), "\x00", nil, api.ErrArg)
		decodes(t, []int{kind}, ways("d"), "\xff", nil, api.ErrArg)
		decodes(t, []int{kind}, ways("u"), "", nil, api.ErrArg)
		decodes(t, []int{api.Text, kind}, ways("uu"), "\x00\x00", nil, api.ErrArg)
		decodes(t, []int{kind, api.Bool}, ways("du"), "\xff\x01\x01", nil, api.ErrArg)
		// Behind what isn't there too, and ahead of each other error.
		decodes(t, []int{api.Bool, kind}, ways("uu"), "\x01\x02", nil, api.ErrArg)
		decodes(t, []int{api.Bool, kind}, ways("uu"), "\x00", nil, api.ErrArg)
		decodes(t, []int{kind}, ways("u"), times("\x00", 257), nil, api.ErrArg)
		decodes(t, []int{kind}, ways("uu"), times("\x00", 257), nil, api.ErrArg)
	}
	decodes(t, []int{api.Int}, ways("uu"), times("\x00", 257), nil, api.ErrArg)
}

func TestDecodeOfLongKeys(t *testing.T) {
	ints := slices.Repeat([]int{api.Int}, 300)
	for size := 250; size <= 260; size++ {
		want, errno := nulls(size), api.OK
		if size > 256 {
			want, errno = nil, api.ErrBad
		}
		decodes(t, ints[:size], make([]bool, size), times("\x00", size), want, errno)
		decodes(t, ints[:size], slices.Repeat([]bool{true}, size), times("\xff", size), want, errno)
	}
	bad(t, ints[:1], ways("u"), times("\x00", 1<<20))
	bad(t, slices.Repeat([]int{api.Text}, 1<<16), make([]bool, 1<<16), times("\x00", 256))
}

func TestDecodeOfNoKey(t *testing.T) {
	of := func(kind int, l ...string) {
		for _, s := range l {
			s = unhex(s)
			bad(t, []int{kind}, ways("u"), s)
			bad(t, []int{kind}, ways("d"), turned(s))
			bad(t, []int{api.Bool, kind}, ways("uu"), "\x00"+s)
			bad(t, []int{kind, api.Bool}, ways("uu"), s+"\x01\x01")
			bad(t, []int{api.Bool, kind}, ways("ud"), "\x01\x01"+turned(s))
		}
	}
	for kind := api.Int; kind <= api.Text; kind++ {
		// A first byte that isn't 0 or 1, too little, and too much.
		of(kind, "", "02", "ff", "fe", "80", "0000", "0001", "02 0000000000000000", "02 00", "02 00 00", "ff ff", "ff 0000")
	}
	for _, kind := range []int{api.Int, api.Uint} {
		of(kind, "01", "01 00", "01 00000000000000", "01 000000000000000000", "01 ffffffffffffff", "01 8000000000000000 ff")
	}
	of(api.Bool, "01", "01 02", "01 03", "01 80", "01 81", "01 fe", "01 ff", "01 00 02", "01 01 02")
	for _, kind := range []int{api.Bytes, api.Text} {
		of(kind, "01", "01 00", "01 61", "01 61 00", "01 61 00 01", "01 61 00 fe", "01 61 00 61 00 00", "01 00 ff", "01 00 ff 00",
			"01 61 00 00 02", "01 61 00 00 ff", "01 00 00 ff", "01 00 01 00 00", "01 00 80", "01 00 fe 00 00",
			"01"+times("61", 65)+"0000", "01"+times("61", 253)+"0000", "01"+times("00ff", 65)+"0000", "01"+times("61", 64), "01"+times("61", 64)+"00")
	}
	for _, s := range notUTF8 {
		of(api.Text, "01"+hexa.EncodeToString([]byte(s))+"0000")
		decodes(t, []int{api.Bytes}, ways("u"), "\x01"+s+"\x00\x00", list(bytesOf(s)), api.OK)
	}
	of(api.Text, "01"+times("c3a9", 32)+"61 0000", "01"+times("61", 63)+"c3a9 0000")
	for _, s := range []string{"\x00", "\x01", "\xff", "a", times("\x00", 256)} {
		bad(t, nil, nil, s)
	}
	for _, way := range []string{"u", "d"} {
		bad(t, []int{api.Int}, ways(way), "")
		bad(t, []int{api.Int, api.Int}, ways(way+way), "\x00")
		bad(t, []int{api.Int, api.Int}, ways(way+way), "\xff")
	}
	// What goes up is no key of what goes down.
	bad(t, []int{api.Int}, ways("d"), "\x00")
	bad(t, []int{api.Int}, ways("u"), "\xff")
	bad(t, []int{api.Bool}, ways("d"), "\x01\x01")
	bad(t, []int{api.Bool}, ways("u"), "\xfe\xfe")
}

// The form of each kind's keys in digits, up and down, but for how long a text is, and whether it is UTF-8.
const (
	numberUp   = `00|01([0-9a-f]{16})`
	numberDown = `ff|fe([0-9a-f]{16})`
	boolUp     = `00|01(00|01)`
	boolDown   = `ff|fe(ff|fe)`
	textUp     = `00|01((?:0[1-9a-f]|[1-9a-f][0-9a-f]|00ff)*)0000`
	textDown   = `ff|fe((?:f[0-9a-e]|[0-9a-e][0-9a-f]|ff00)*)ffff`
)

// grammar answers the form of keys of lists of these kinds.
func grammar(kinds []int, down []bool) *regexp.Regexp {
	s := ""
	for at, kind := range kinds {
		part := [6][2]string{{}, {numberUp, numberDown}, {numberUp, numberDown}, {boolUp, boolDown}, {textUp, textDown}, {textUp, textDown}}[kind]
		if down[at] {
			s += "(" + part[1] + ")"
		} else {
			s += "(" + part[0] + ")"
		}
	}
	return regexp.MustCompile("^" + s + "$")
}

// part answers the value that the digits of a part's bytes, the first one left out, tell; false: there is none.
func part(kind int, down bool, digits string) (api.Value, bool) {
	s := unhex(digits)
	if down {
		s = turned(s)
	}
	n, _ := strconv.ParseUint(hexa.EncodeToString([]byte(s)), 16, 64)
	switch kind {
	case api.Int:
		return integer(int64(n - 1<<63)), true
	case api.Uint:
		return unsigned(n), true
	case api.Bool:
		return boolean(n), true
	}
	s = strings.ReplaceAll(s, "\x00\xff", "\x00")
	return api.Value{Kind: kind, S: s}, len(s) <= 64 && (kind == api.Bytes || utf8.ValidString(s))
}

// model asks whether Decode answers of s what the grammar, that of these kinds, says.
func model(t *testing.T, g *regexp.Regexp, kinds []int, down []bool, s string) {
	t.Helper()
	digits := hexa.EncodeToString([]byte(s))
	m := g.FindStringSubmatch(digits)
	if m == nil {
		bad(t, kinds, down, s)
		return
	}
	var want []api.Value
	for at, kind := range kinds {
		v := null()
		if whole := m[1+2*at]; len(whole) > 2 {
			var ok bool
			if v, ok = part(kind, down[at], m[2+2*at]); !ok {
				bad(t, kinds, down, s)
				return
			}
		}
		want = append(want, v)
	}
	thereAndBack(t, kinds, want, down, s)
}

func TestDecodeOfAllShortTexts(t *testing.T) {
	const letters = "\x00\x01\x02a\xc3\xa9\xfe\xff"
	shapes := []struct {
		kinds []int
		ways  string
	}{
		{nil, ""}, {[]int{api.Bool}, "u"}, {[]int{api.Bool}, "d"}, {[]int{api.Bytes}, "u"}, {[]int{api.Bytes}, "d"},
		{[]int{api.Text}, "u"}, {[]int{api.Text}, "d"}, {[]int{api.Int}, "u"}, {[]int{api.Bool, api.Bool}, "ud"},
		{[]int{api.Bytes, api.Bool}, "uu"}, {[]int{api.Bool, api.Text}, "du"}, {[]int{api.Text, api.Bytes}, "ud"},
		{[]int{api.Bytes, api.Text}, "du"}, {[]int{api.Int, api.Uint, api.Bool}, "udu"}, {[]int{api.Bool, api.Bytes, api.Bool}, "udd"},
	}
	for _, shape := range shapes {
		down := ways(shape.ways)
		g := grammar(shape.kinds, down)
		level := []string{""}
		for range 6 {
			var next []string
			for _, s := range level {
				model(t, g, shape.kinds, down, s)
				for at := range len(letters) {
					next = append(next, s+letters[at:at+1])
				}
			}
			if t.Failed() {
				return
			}
			level = next
		}
	}
}

func TestDecodeOfKeysOneByteOff(t *testing.T) {
	for _, l := range [][]api.Value{
		list(integer(-256)), list(unsigned(1 << 63)), list(bytesOf("a\x00\xff")), list(textOf("aé\x00")), list(boolean(0)),
		list(integer(7), textOf("é"), boolean(1)), list(null(), bytesOf(""), null(), unsigned(0)),
		list(textOf(times("a", 64)), null()), list(bytesOf(times("\x00", 64))),
	} {
		var kinds []int
		for _, v := range l {
			kinds = append(kinds, asKind(v))
		}
		for _, way := range []string{"uuuu", "dddd", "udud"} {
			down := ways(way)[:len(l)]
			g := grammar(kinds, down)
			s, _ := Encode(l, down)
			for at := range len(s) {
				model(t, g, kinds, down, s[:at])
				model(t, g, kinds, down, s[at:])
				model(t, g, kinds, down, s[:at]+s[at+1:])
				for b := range 256 {
					c := string([]byte{byte(b)})
					model(t, g, kinds, down, s[:at]+c+s[at:])
					model(t, g, kinds, down, s[:at]+c+s[at+1:])
				}
			}
			for b := range 256 {
				model(t, g, kinds, down, s+string([]byte{byte(b)}))
			}
		}
	}
}

// P7.3

// rising answers values of a kind, and null, in their order.
func rising(kind int) []api.Value {
	l := list(null())
	switch kind {
	case api.Int:
		for _, n := range []int64{math.MinInt64, math.MinInt64 + 1, -1 << 32, -257, -256, -255, -1, 0, 1, 127, 128, 255, 256, 1 << 40, math.MaxInt64} {
			l = append(l, integer(n))
		}
	case api.Uint:
		for _, n := range []uint64{0, 1, 127, 128, 255, 256, 1 << 32, math.MaxInt64, 1 << 63, math.MaxUint64 - 1, math.MaxUint64} {
			l = append(l, unsigned(n))
		}
	case api.Bool:
		l = append(l, boolean(0), boolean(1))
	case api.Bytes:
		for _, s := range []string{
			"", "\x00", "\x00\x00", "\x00\x00\xff", "\x00\x01", "\x00\xff", "\x00\xff\x00", "\x01", "\x01\x00", "a", "a\x00", "a\x00\x00", "a\x00\xff",
			"a\x01", "aa", "ab", "a\xfe", "a\xff", "a\xff\x00", "a\xff\xff", "b", "\xfe", "\xff", "\xff\x00", "\xff\xff", times("\xff", 64),
		} {
			l = append(l, bytesOf(s))
		}
	case api.Text:
		for _, s := range []string{"", "\x00", "\x00\x00", "\x00a", "\x01", "A", "a", "a\x00", "a\x00b", "aa", times("a", 64), "ab", "b", "\x7f", "é", "\ue000", "\U00010000"} {
			l = append(l, textOf(s))
		}
	}
	return l
}

// order answers -1, 0, 1 as one list comes ahead of another, is it, comes behind it.
func order(a, b []api.Value, down []bool) int {
	for at := range a {
		c := value.Cmp(a[at], b[at])
		if c != 0 && down[at] {
			return -c
		}
		if c != 0 {
			return c
		}
	}
	return 0
}

// inOrder asks whether two lists' keys stand as the lists do.
func inOrder(t *testing.T, a, b []api.Value, down []bool) {
	t.Helper()
	x, e := Encode(a, down)
	y, f := Encode(b, down)
	if e != api.OK || f != api.OK || strings.Compare(x, y) != order(a, b, down) {
		t.Errorf("%s and %s, %v: %x, %x", tell(a), tell(b), down, x, y)
	}
}

func TestKeysOfEachKindInOrder(t *testing.T) {
	for kind := api.Int; kind <= api.Text; kind++ {
		l := rising(kind)
		for at := range l[1:] {
			if value.Cmp(l[at], l[at+1]) != -1 {
				t.Fatalf("%s don't rise", tell(l[at:]))
			}
		}
		for _, a := range l {
			for _, b := range l {
				inOrder(t, list(a), list(b), ways("u"))
				inOrder(t, list(a), list(b), ways("d"))
			}
		}
	}
}

func TestKeysOfListsInOrder(t *testing.T) {
	// A few of each kind, those among them of which one begins with another.
	few := [][]api.Value{
		1: list(null(), integer(-1), integer(0), integer(255)),
		2: list(null(), unsigned(0), unsigned(1), unsigned(1<<63)),
		3: list(null(), boolean(0), boolean(1)),
		4: list(null(), bytesOf(""), bytesOf("\x00"), bytesOf("\x00\xff"), bytesOf("\xff"), bytesOf("\xff\x00")),
		5: list(null(), textOf(""), textOf("\x00"), textOf("a"), textOf("a\x00"), textOf("aa")),
	}
	for first := api.Int; first <= api.Text; first++ {
		for second := api.Int; second <= api.Text; second++ {
			var lists [][]api.Value
			for _, v := range few[first] {
				for _, w := range few[second] {
					lists = append(lists, list(v, w))
				}
			}
			for _, a := range lists {
				for _, b := range lists {
					for _, way := range []string{"uu", "ud", "du", "dd"} {
						inOrder(t, a, b, ways(way))
					}
				}
			}
		}
	}
}

func TestKeysOfLongListsInOrder(t *testing.T) {
	r := rand.New(rand.NewSource(7))
	for range 20000 {
		var a, b []api.Value
		var down []bool
		for range 1 + r.Intn(3) {
			l := rising(api.Int + r.Intn(5))
			v := l[r.Intn(len(l))]
			w := v
			if r.Intn(3) == 0 {
				w = l[r.Intn(len(l))]
			}
			a, b, down = append(a, v), append(b, w), append(down, r.Intn(2) == 0)
		}
		inOrder(t, a, b, down)
	}
}

func TestKeysThatBeginWithAnother(t *testing.T) {
	r := rand.New(rand.NewSource(8))
	for range 2000 {
		var l []api.Value
		var down []bool
		front := ""
		for range 5 {
			values := rising(api.Int + r.Intn(5))
			l, down = append(l, values[r.Intn(len(values))]), append(down, r.Intn(2) == 0)
			s, e := Encode(l, down)
			if e == api.ErrBound {
				break
			}
			if e != api.OK || !strings.HasPrefix(s, front) || s == front {
				t.Fatalf("%s, %v: %x, %d, behind %x", tell(l), down, s, e, front)
			}
			front = s
		}
	}
}

// P7.4

// after asks what After and Under answer.
func after(t *testing.T, s, want string, ok bool) {
	t.Helper()
	if got, is := After(s); got != want || is != ok {
		t.Errorf("After(%.40q): %.40q, %v, want %.40q, %v", s, got, is, want, ok)
	}
	if got := Under(s); got != (api.Span{Lo: s, Hi: want, Open: !ok}) {
		t.Errorf("Under(%.40q): %s", s, tellSpan(got))
	}
}

func TestAfter(t *testing.T) {
	after(t, "", "", false)
	after(t, "a", "b", true)
	after(t, "\x00", "\x01", true)
	after(t, "\x00\x00", "\x00\x01", true)
	after(t, "a\x00", "a\x01", true)
	after(t, "\x7f", "\x80", true)
	after(t, "\x80", "\x81", true)
	after(t, "\xfd", "\xfe", true)
	after(t, "\xfe", "\xff", true)
	after(t, "\xfe\xff", "\xff", true)
	after(t, "a\xfe", "a\xff", true)
	after(t, "a\xff\xff", "b", true)
	after(t, "a\xffa", "a\xffb", true)
	after(t, "a\xff\x00\xff", "a\xff\x01", true)
	after(t, "\xff\x00", "\xff\x01", true)
	after(t, "\xffa\xff", "\xffb", true)
	after(t, "\xff\xff", "", false)
	after(t, "é", "ê", true)
	after(t, "\xc3", "\xc4", true)
	after(t, "a\x80\xff", "a\x81", true)
	after(t, times("\xff", 256), "", false)
	after(t, times("\xff", 1<<20), "", false)
	after(t, "a"+times("\xff", 255), "b", true)
	after(t, "a"+times("\xff", 1<<20), "b", true)
	after(t, times("a", 256), times("a", 255)+"b", true)
	after(t, times("a", 1<<20), times("a", 1<<20-1)+"b", true)
	for b := range 255 {
		s, next := string([]byte{byte(b)}), string([]byte{byte(b + 1)})
		after(t, s, next, true)
		after(t, "\xff"+s+"\xff", "\xff"+next, true)
	}
}

// short answers all keys of these letters with at most so many bytes.
func short(letters string, size int) []string {
	l := []string{""}
	for from := 0; size > 0; size-- {
		to := len(l)
		for _, s := range l[from:to] {
			for at := range len(letters) {
				l = append(l, s+letters[at:at+1])
			}
		}
		from = to
	}
	return l
}

func TestAfterAndUnderOfShortKeys(t *testing.T) {
	keys := short("\x00\x01ab\xfe\xff", 4)
	for _, s := range short("\x00a\xfe\xff", 3) {
		next, ok := After(s)
		if ok && !slices.Contains(keys, next) {
			t.Errorf("After(%q): %q", s, next)
		}
		under := Under(s)
		for _, k := range keys {
			begins := strings.HasPrefix(k, s)
			if In(under, k) != begins {
				t.Errorf("%q lies in Under(%q): not %v", k, s, begins)
			}
			if behind := !begins && k > s; behind != (ok && k >= next) {
				t.Errorf("After(%q): %q, %v, and %q", s, next, ok, k)
			}
		}
	}
}

func TestUnderOfAListsKey(t *testing.T) {
	for kind := api.Int; kind <= api.Text; kind++ {
		l := rising(kind)
		for _, down := range [][]bool{ways("uu"), ways("dd")} {
			for _, v := range l {
				s, _ := Encode(list(v), down[:1])
				for _, w := range l {
					k, _ := Encode(list(w, integer(3)), down)
					if In(Under(s), k) != (v == w) {
						t.Errorf("the key of %s and more lies under that of %s: not %v", tell(list(w)), tell(list(v)), v == w)
					}
				}
			}
		}
	}
}

// P7.5

func span(lo, hi string) api.Span { return api.Span{Lo: lo, Hi: hi} }

// tellSpan answers a span in a short form.
func tellSpan(s api.Span) string { return fmt.Sprintf("{%.40q %.40q %v}", s.Lo, s.Hi, s.Open) }

// meet asks what Meet answers, either way round.
func meet(t *testing.T, a, b api.Span, want bool) {
	t.Helper()
	if Meet(a, b) != want || Meet(b, a) != want {
		t.Errorf("Meet(%s, %s): %v, %v, want %v", tellSpan(a), tellSpan(b), Meet(a, b), Meet(b, a), want)
	}
}

func TestIn(t *testing.T) {
	open := func(lo, hi string) api.Span { return api.Span{Lo: lo, Hi: hi, Open: true} }
	for _, c := range []struct {
		s    api.Span
		k    string
		want bool
	}{
		{span("a", "c"), "a", true}, {span("a", "c"), "b", true}, {span("a", "c"), "b\xff\xff", true}, {span("a", "c"), "a\x00", true},
		{span("a", "c"), "c", false}, {span("a", "c"), "c\x00", false}, {span("a", "c"), "", false}, {span("a", "c"), "`\xff", false}, {span("a", "c"), "\xff", false},
		{span("a", "a"), "a", false}, {span("a", "a\x00"), "a", true}, {span("a", "a\x00"), "a\x00", false}, {span("b", "a"), "a", false}, {span("b", "a"), "b", false},
		{span("", ""), "", false}, {span("", ""), "a", false}, {span("", "\x00"), "", true}, {span("", "\x00"), "\x00", false}, {span("a", ""), "a", false}, {span("a", ""), "b", false},
		{open("", ""), "", true}, {open("", ""), "\xff\xff", true}, {open("a", ""), "a", true}, {open("a", ""), "z", true}, {open("a", ""), "", false}, {open("a", ""), "A", false},
		{open("b", "a"), "b", true}, {open("a", "b"), "b", true}, {open("a", "b"), "c", true}, {open("b", "c"), "a", false}, {open("a", "a"), "a", true},
		{span("\x7f", "\x81"), "\x80", true}, {span("\x01", "\xff"), "\x80", true}, {span("\x80", "\x01"), "\x90", false},
		{span("\ue000", "\U00010001"), "\U00010000", true},
		{open("a", ""), times("a", 1000), true}, {span("a", "b"), "a" + times("\xff", 1000), true},
	} {
		if In(c.s, c.k) != c.want {
			t.Errorf("In(%s, %.40q): not %v", tellSpan(c.s), c.k, c.want)
		}
	}
}

func TestMeet(t *testing.T) {
	all := api.Span{Open: true}
	meet(t, all, all, true)
	meet(t, all, span("a", "b"), true)
	meet(t, all, span("a", "a"), false)
	meet(t, all, span("", "\x00"), true)
	meet(t, all, api.Span{}, false)
	meet(t, api.Span{}, api.Span{}, false)
	meet(t, span("a", "b"), span("a", "b"), true)
	meet(t, span("a", "d"), span("b", "c"), true)
	meet(t, span("a", "b"), span("c", "d"), false)
	meet(t, span("a", "b\x00"), span("b", "c"), true)
	meet(t, span("a", "d"), span("b", "b"), false)
	meet(t, span("a", "d"), span("c", "b"), false)
	meet(t, span("a", "b"), api.Span{Lo: "b", Open: true}, false)
	meet(t, span("a", "b"), api.Span{Lo: "a\xff\xff", Open: true}, true)
	meet(t, span("a", "b"), api.Span{Lo: "a", Hi: "", Open: true}, true)
	meet(t, api.Span{Lo: "a", Hi: "a", Open: true}, api.Span{Lo: "z", Hi: "b", Open: true}, true)
	meet(t, span("a", "b"), span(times("a", 1000), "b"), true)
}

func TestMeetAndInOfShortKeys(t *testing.T) {
	keys := short("\x00a\xff", 3)
	ends := short("\x00a\xff", 2)
	var spans []api.Span
	for _, lo := range ends {
		for _, hi := range ends {
			spans = append(spans, span(lo, hi))
		}
		spans = append(spans, api.Span{Lo: lo, Open: true}, api.Span{Lo: lo, Hi: "a", Open: true})
	}
	for _, a := range spans {
		for _, b := range spans {
			both := false
			for _, k := range keys {
				inA := strings.Compare(k, a.Lo) >= 0 && (a.Open || strings.Compare(k, a.Hi) < 0)
				inB := strings.Compare(k, b.Lo) >= 0 && (b.Open || strings.Compare(k, b.Hi) < 0)
				both = both || inA && inB
				if In(a, k) != inA {
					t.Fatalf("In(%s, %q): not %v", tellSpan(a), k, inA)
				}
			}
			if Meet(a, b) != both {
				t.Fatalf("Meet(%s, %s): not %v", tellSpan(a), tellSpan(b), both)
			}
		}
	}
}

// Rule 3: what is handed in stays as it is, its spare room too, and what is answered is new memory.
func TestArgumentsStay(t *testing.T) {
	room := list(integer(1), textOf("a\x00"), null(), integer(9), integer(9))
	downs, kinds := ways("uduuu"), []int{api.Int, api.Text, api.Bool, api.Int, api.Int}
	l, down, of := slices.Clone(room)[:3], slices.Clone(downs)[:3], slices.Clone(kinds)[:3]
	s, e := Encode(l, down)
	if e != api.OK {
		t.Fatal(e)
	}
	first, _ := Decode(of, down, s)
	for at := range first[:cap(first)] {
		first[:cap(first)][at] = integer(5)
	}
	decodes(t, of, down, s, room[:3], api.OK)
	encodes(t, room[:3], downs[:3], s, api.OK)
	if !slices.Equal(l[:5], room) || !slices.Equal(down[:5], downs) || !slices.Equal(of[:5], kinds) {
		t.Error("an argument was changed")
	}
}
