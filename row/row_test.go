package row

import (
	hexa "encoding/hex"
	"fmt"
	"math"
	"math/rand"
	"regexp"
	"slices"
	"strconv"
	"strings"
	"testing"
	"unicode/utf8"

	"granary/api"
	"granary/value"
)

// notUTF8 are texts that are no UTF-8.
var notUTF8 = []string{"\xff", "a\x80", "\xc0\x80", "\xc3", "\xe2\x82", "\xed\xa0\x80", "\xf4\x90\x80\x80", "é\xa9"}

// outside are numbers that are no place of a column, those among them that a narrower number would take for one.
var outside = []int{math.MinInt, -1 << 32, -256, -24, -1, 24, 25, 255, 256, 257, 1 << 16, 1<<32 + 1, 1 << 62, math.MaxInt}

func null() api.Value              { return api.Value{} }
func integer(n int64) api.Value    { return api.Value{Kind: api.Int, N: uint64(n)} }
func unsigned(n uint64) api.Value  { return api.Value{Kind: api.Uint, N: n} }
func boolean(n uint64) api.Value   { return api.Value{Kind: api.Bool, N: n} }
func bytesOf(s string) api.Value   { return api.Value{Kind: api.Bytes, S: s} }
func textOf(s string) api.Value    { return api.Value{Kind: api.Text, S: s} }
func times(s string, n int) string { return strings.Repeat(s, n) }

// list answers a list of values.
func list(l ...api.Value) []api.Value { return l }

// column answers a column without nulls, whose Default is the kind's least.
func column(name string, kind, most int) api.Column {
	return api.Column{Name: name, Kind: kind, Max: most, Default: api.Value{Kind: kind}}
}

// nullable answers a column with nulls, whose Default is null.
func nullable(name string, kind, most int) api.Column {
	return api.Column{Name: name, Kind: kind, Max: most, Nulls: true}
}

// with answers the column with another Default.
func with(c api.Column, v api.Value) api.Column {
	c.Default = v
	return c
}

// two are the columns of the chapter's examples.
func two() []api.Column {
	return []api.Column{column("a", api.Int, 0), with(nullable("t", api.Text, 4), textOf("d"))}
}

// five are columns of all kinds, the second and the fourth with nulls.
func five() []api.Column {
	return []api.Column{
		with(column("i", api.Int, 0), integer(-2)), nullable("u", api.Uint, 0), with(column("b", api.Bool, 0), boolean(1)),
		with(nullable("x", api.Bytes, 3), bytesOf("\x00\xff")), with(column("t", api.Text, 64), textOf("é")),
	}
}

// many answers n columns of Text with nulls, of up to 64 bytes each.
func many(n int) []api.Column {
	var cols []api.Column
	for at := range n {
		cols = append(cols, nullable("c"+strconv.Itoa(at), api.Text, 64))
	}
	return cols
}

// long answers the values of a row of many's columns that has so many bytes, and as many columns as it needs.
func long(size int) []api.Value {
	var l []api.Value
	for left := size - 1; left > 0; {
		n := min(left, 67)
		if left-n == 1 || left-n == 2 {
			n -= 3
		}
		l = append(l, textOf(times("z", n-3)))
		left -= n
	}
	return l
}

// noColumns are columns that may not be, each with value.Column's error.
func noColumns() []api.Column {
	return []api.Column{
		column("", api.Int, 0), column("9", api.Int, 0), column("A", api.Int, 0), column("a-", api.Int, 0), column(times("a", 17), api.Int, 0),
		column("", api.Int, 1), {}, {Name: "a"}, nullable("a", 6, 0), nullable("a", -1, 0), nullable("a", 257, 0), nullable("a", 6, 1), nullable("a", math.MinInt, 0),
		column("a", api.Int, 1), column("a", api.Uint, -1), column("a", api.Bool, 64), column("a", api.Bytes, 0), column("a", api.Text, 65),
		column("a", api.Text, -1), column("a", api.Bytes, math.MaxInt), {Name: "a", Kind: api.Text, Max: 65},
		{Name: "a", Kind: api.Int}, {Name: "a", Kind: api.Text, Max: 4}, with(column("a", api.Int, 0), unsigned(0)),
		with(column("a", api.Bool, 0), boolean(2)), with(nullable("a", api.Text, 4), textOf("\xff")), with(column("a", api.Text, 4), textOf("abcde")),
		with(nullable("a", api.Bytes, 63), bytesOf(times("a", 64))), with(nullable("a", api.Int, 0), api.Value{N: 1}),
	}
}

// wrongLists are lists that aren't columns: too few, too many, or with one that may not be.
func wrongLists() [][]api.Column {
	lists := [][]api.Column{nil, {}, many(25), many(26), many(256), many(257), many(280)}
	for _, c := range noColumns() {
		lists = append(lists, []api.Column{c}, append(five(), c), append([]api.Column{c}, five()...), append(many(23), c), slices.Insert(five(), 2, c))
	}
	return lists
}

// unhex answers the bytes that are told by two digits each, with blanks between where one likes.
func unhex(s string) string {
	b, err := hexa.DecodeString(strings.ReplaceAll(s, " ", ""))
	if err != nil {
		panic(err)
	}
	return string(b)
}

// tell answers a list of values in a short form.
func tell(l []api.Value) string {
	s := ""
	for _, v := range l[:min(len(l), 9)] {
		s += fmt.Sprintf("{%d %d %.70q}", v.Kind, v.N, v.S)
	}
	return fmt.Sprintf("%d: %s", len(l), s)
}

// tellColumns answers a list of columns likewise.
func tellColumns(cols []api.Column) string {
	s := ""
	for _, c := range cols[:min(len(cols), 9)] {
		s += fmt.Sprintf("{%.20q %d %d %v %s}", c.Name, c.Kind, c.Max, c.Nulls, tell(list(c.Default)))
	}
	return fmt.Sprintf("%d: %s", len(cols), s)
}

// fits asks what Fits answers.
func fits(t *testing.T, cols []api.Column, l []api.Value, want api.Errno) {
	t.Helper()
	if e := Fits(cols, l); e != want {
		t.Errorf("Fits(%s, %s): %d, want %d", tellColumns(cols), tell(l), e, want)
	}
}

// encodes asks what Encode answers.
func encodes(t *testing.T, cols []api.Column, l []api.Value, want string, errno api.Errno) {
	t.Helper()
	if s, e := Encode(cols, l); s != want || e != errno {
		t.Errorf("Encode(%s, %s): %x, %d, want %x, %d", tellColumns(cols), tell(l), s, e, want, errno)
	}
}

// refuses asks whether Fits and Encode refuse a row with the same error.
func refuses(t *testing.T, cols []api.Column, l []api.Value, errno api.Errno) {
	t.Helper()
	fits(t, cols, l, errno)
	encodes(t, cols, l, "", errno)
}

// decodes asks what Decode answers.
func decodes(t *testing.T, cols []api.Column, s string, want []api.Value, errno api.Errno) {
	t.Helper()
	if l, e := Decode(cols, s); !slices.Equal(l, want) || e != errno {
		t.Errorf("Decode(%s, %.520x): %s, %d, want %s, %d", tellColumns(cols), s, tell(l), e, tell(want), errno)
	}
}

// bad asks whether Decode refuses a text, and Place with it, whatever column is asked for.
func bad(t *testing.T, cols []api.Column, s string) {
	t.Helper()
	decodes(t, cols, s, nil, api.ErrBad)
	for _, col := range []int{-1, 0, len(cols) - 1, len(cols)} {
		places(t, cols, s, col, 0, api.ErrBad)
	}
}

// thereAndBack asks whether s is the row's bytes, and the row is read back of them.
func thereAndBack(t *testing.T, cols []api.Column, l []api.Value, s string) {
	t.Helper()
	fits(t, cols, l, api.OK)
	encodes(t, cols, l, s, api.OK)
	decodes(t, cols, s, l, api.OK)
}

// grown asks what Grown answers.
func grown(t *testing.T, n int, c api.Column, want api.Msg, errno api.Errno) {
	t.Helper()
	if m, e := Grown(n, c); m != want || e != errno {
		t.Errorf("Grown(%d, %s): %#v, %d, want %#v, %d", n, tellColumns([]api.Column{c}), m, e, want, errno)
	}
}

// places asks what Place answers.
func places(t *testing.T, cols []api.Column, s string, col, want int, errno api.Errno) {
	t.Helper()
	if at, e := Place(cols, s, col); at != want || e != errno {
		t.Errorf("Place(%s, %.520x, %d): %d, %d, want %d, %d", tellColumns(cols), s, col, at, e, want, errno)
	}
}

func TestExamples(t *testing.T) {
	// 1
	one := unhex("02 00 0000000000000001 00 0001 78")
	thereAndBack(t, two(), list(integer(1), textOf("x")), one)
	thereAndBack(t, two(), list(integer(1), null()), unhex("02 00 0000000000000001 01"))
	refuses(t, two(), list(null(), textOf("x")), api.ErrType)
	refuses(t, two(), list(integer(1), textOf("abcde")), api.ErrBound)
	refuses(t, two(), list(integer(1)), api.ErrArg)
	// 2
	decodes(t, two(), unhex("01 00 0000000000000001"), list(integer(1), textOf("d")), api.OK)
	bad(t, two(), unhex("03 00 0000000000000001 00 0001 78"))
	bad(t, two(), unhex("03 00 0000000000000001 00 0001 78 01"))
	bad(t, two(), one+"\x00")
	bad(t, two(), unhex("02 00 0000000000000001 00 0005 6162636465"))
	// 3
	grown(t, 1, two()[1], api.Msg{Kind: api.MsgGrow, Off: 1, Val: unhex("00 0001 64")}, api.OK)
	places(t, two(), one, 0, 2, api.OK)
	places(t, two(), one, 1, 0, api.ErrType)
}

// P8.1

func TestRowsOfNoColumns(t *testing.T) {
	for _, cols := range wrongLists() {
		// Neither a right row, nor a wrong value, nor another number of values makes a difference.
		var right []api.Value
		for _, c := range cols {
			right = append(right, c.Default)
		}
		refuses(t, cols, right, api.ErrArg)
		refuses(t, cols, nil, api.ErrArg)
		refuses(t, cols, list(api.Value{Kind: 9}), api.ErrArg)
		refuses(t, cols, make([]api.Value, len(cols)), api.ErrArg)
		for _, s := range []string{"", "\x00", "\x01\x01", unhex("01 00 0000000000000001"), "\xff", times("\x01", 513)} {
			decodes(t, cols, s, nil, api.ErrArg)
			for _, col := range []int{-1, 0, len(cols) - 1, len(cols)} {
				places(t, cols, s, col, 0, api.ErrArg)
			}
		}
	}
}

func TestNumberOfColumns(t *testing.T) {
	for n := 1; n <= 24; n++ {
		s := string([]byte{byte(n)}) + times("\x01", n)
		thereAndBack(t, many(n), make([]api.Value, n), s)
		bad(t, many(n), string([]byte{byte(n + 1)})+times("\x01", n+1))
	}
	// Columns with one name are right ones, each for itself.
	same := []api.Column{column("a", api.Bool, 0), column("a", api.Bool, 0)}
	thereAndBack(t, same, list(boolean(1), boolean(0)), unhex("02 0001 0000"))
}

func TestRowsOfAnotherLength(t *testing.T) {
	right := list(integer(1), unsigned(1), boolean(1), bytesOf(""), textOf(""))
	for n := range 5 {
		refuses(t, five(), right[:n], api.ErrArg)
		refuses(t, five()[:n], right, api.ErrArg)
	}
	refuses(t, five(), nil, api.ErrArg)
	refuses(t, five(), append(right, null()), api.ErrArg)
	refuses(t, many(1), make([]api.Value, 257), api.ErrArg)
	refuses(t, many(24), make([]api.Value, 25), api.ErrArg)
	refuses(t, many(24), make([]api.Value, 1<<16), api.ErrArg)
	// The length is looked at ahead of the values.
	refuses(t, five(), list(null()), api.ErrArg)
	refuses(t, two(), list(api.Value{Kind: 9}), api.ErrArg)
	refuses(t, two(), list(integer(1), textOf("abcde"), null()), api.ErrArg)
}

// anyValues are values of all kinds, and what is none.
func anyValues() []api.Value {
	l := list(null(), integer(0), integer(-1), unsigned(0), unsigned(math.MaxUint64), boolean(0), boolean(1), boolean(2),
		api.Value{N: 1}, api.Value{S: "a"}, api.Value{Kind: api.Int, S: "a"}, api.Value{Kind: api.Uint, S: "\x00"}, api.Value{Kind: api.Bool, S: "a"},
		api.Value{Kind: api.Bytes, N: 1}, api.Value{Kind: api.Text, N: 1, S: "a"}, api.Value{Kind: 6}, api.Value{Kind: -1}, api.Value{Kind: 257})
	for _, n := range []int{0, 1, 3, 4, 63, 64, 65, 1000} {
		l = append(l, bytesOf(times("\xff", n)), textOf(times("a", n)))
	}
	for _, s := range notUTF8 {
		l = append(l, textOf(s), bytesOf(s))
	}
	return l
}

// row answers values that fit five's columns.
func row() []api.Value {
	return list(integer(-3), null(), boolean(0), bytesOf("\x00"), textOf("a"))
}

func TestRowsWithAnyValue(t *testing.T) {
	cols := five()
	for at, c := range cols {
		for _, v := range anyValues() {
			l := row()
			l[at] = v
			fits(t, cols, l, value.Fits(c, v))
			if e := value.Fits(c, v); e != api.OK {
				encodes(t, cols, l, "", e)
			}
		}
	}
}

func TestTheFirstError(t *testing.T) {
	cols := five()
	for first := range cols {
		for second := first + 1; second < len(cols); second++ {
			l := row()
			l[first], l[second] = boolean(2), api.Value{Kind: 6}
			refuses(t, cols, l, api.ErrType)
		}
	}
	refuses(t, cols, list(integer(1), null(), boolean(1), bytesOf("abcd"), null()), api.ErrBound)
	refuses(t, cols, list(integer(1), null(), boolean(1), null(), textOf(times("a", 65))), api.ErrType)
	refuses(t, cols, list(integer(1), null(), boolean(2), bytesOf("abcd"), textOf("")), api.ErrType)
	refuses(t, cols, list(integer(1), null(), boolean(1), bytesOf("abcd"), textOf("")), api.ErrBound)
	refuses(t, cols, list(null(), null(), boolean(1), bytesOf("abcd"), textOf("")), api.ErrType)
}

// P8.2

// form is a value in a column, and the bytes that stand for it in a row.
type form struct {
	c     api.Column
	v     api.Value
	bytes string
}

// forms are values in columns of all kinds.
func forms() []form {
	number := func(kind int, n uint64, s string) []form {
		v := api.Value{Kind: kind, N: n}
		return []form{{column("a", kind, 0), v, s}, {nullable("a", kind, 0), v, s}}
	}
	text := func(kind, most int, l, s string) []form {
		v := api.Value{Kind: kind, S: l}
		return []form{{column("a", kind, most), v, s}, {nullable("a", kind, most), v, s}}
	}
	var l []form
	for kind := api.Int; kind <= api.Uint; kind++ {
		l = slices.Concat(l, number(kind, 0, "00 0000000000000000"), number(kind, 1, "00 0000000000000001"),
			number(kind, 0x0102030405060708, "00 0102030405060708"), number(kind, math.MaxUint64, "00 ffffffffffffffff"),
			number(kind, 1<<63, "00 8000000000000000"), number(kind, 1<<63-1, "00 7fffffffffffffff"))
	}
	l = slices.Concat(l, number(api.Bool, 0, "00 00"), number(api.Bool, 1, "00 01"))
	for kind := api.Bytes; kind <= api.Text; kind++ {
		l = slices.Concat(l, text(kind, 1, "", "00 0000"), text(kind, 1, "a", "00 0001 61"), text(kind, 4, "a\x00\x01", "00 0003 610001"),
			text(kind, 64, times("z", 64), "00 0040"+times("7a", 64)), text(kind, 2, "é", "00 0002 c3a9"))
	}
	l = append(l, text(api.Bytes, 3, "\xff\x80\x00", "00 0003 ff8000")...)
	for kind := api.Int; kind <= api.Bool; kind++ {
		l = append(l, form{nullable("a", kind, 0), null(), "01"})
	}
	return append(l, form{nullable("a", api.Bytes, 1), null(), "01"}, form{nullable("a", api.Text, 64), null(), "01"})
}

func TestBytesOfEachValue(t *testing.T) {
	for _, f := range forms() {
		thereAndBack(t, []api.Column{f.c}, list(f.v), unhex("01"+f.bytes))
		for _, g := range forms() {
			thereAndBack(t, []api.Column{f.c, g.c}, list(f.v, g.v), unhex("02"+f.bytes+g.bytes))
		}
	}
}

func TestBytesOfManyValues(t *testing.T) {
	r := rand.New(rand.NewSource(1))
	all := forms()
	for n := 1; n <= 24; n++ {
		for range 50 {
			var cols []api.Column
			var l []api.Value
			s := string([]byte{byte(n)})
			for range n {
				f := all[r.Intn(len(all))]
				cols, l, s = append(cols, f.c), append(l, f.v), s+unhex(f.bytes)
			}
			if len(s) <= 512 {
				thereAndBack(t, cols, l, s)
			} else {
				fits(t, cols, l, api.OK)
				encodes(t, cols, l, "", api.ErrBound)
				bad(t, cols, s)
			}
		}
	}
}

func TestLongRows(t *testing.T) {
	for size := 480; size <= 540; size++ {
		l := long(size)
		cols := many(len(l))
		s := string([]byte{byte(len(l))})
		for _, v := range l {
			s += "\x00\x00" + string([]byte{byte(len(v.S))}) + v.S
		}
		if len(s) != size {
			t.Fatalf("a row of %d bytes has %d", size, len(s))
		}
		if size <= 512 {
			thereAndBack(t, cols, l, s)
			continue
		}
		fits(t, cols, l, api.OK)
		encodes(t, cols, l, "", api.ErrBound)
		bad(t, cols, s)
		// The error of a value comes ahead, wherever it stands.
		for at := range l {
			wrong := slices.Clone(l)
			wrong[at] = integer(1)
			refuses(t, cols, wrong, api.ErrType)
		}
	}
	l := slices.Repeat(list(textOf(times("z", 64))), 24)
	fits(t, many(24), l, api.OK)
	encodes(t, many(24), l, "", api.ErrBound)
	thereAndBack(t, slices.Repeat([]api.Column{column("a", api.Int, 0)}, 24), slices.Repeat(list(integer(-1)), 24), "\x18"+times("\x00"+times("\xff", 8), 24))
	bad(t, many(24), times("\x01", 1<<20))
}

func TestRowsWithFewerColumns(t *testing.T) {
	cols, l := five(), row()
	for n := 1; n <= 5; n++ {
		s, e := Encode(cols[:n], l[:n])
		if e != api.OK {
			t.Fatal(n, e)
		}
		want := slices.Clone(l[:n])
		for _, c := range cols[n:] {
			want = append(want, c.Default)
		}
		decodes(t, cols, s, want, api.OK)
		// What stands there has to be whole, and of as many columns as it says.
		for m := range 256 {
			if m != n {
				bad(t, cols, string([]byte{byte(m)})+s[1:])
			}
		}
		for m := 1; m < n; m++ {
			bad(t, cols[:m], s)
		}
	}
	// The bound is of the bytes that are there alone.
	cols = append([]api.Column{nullable("a", api.Int, 0)}, slices.Repeat([]api.Column{with(column("t", api.Text, 64), textOf(times("y", 64)))}, 23)...)
	decodes(t, cols, "\x01\x01", append(list(null()), slices.Repeat(list(textOf(times("y", 64))), 23)...), api.OK)
}

func TestDecodeOfNoRow(t *testing.T) {
	of := func(c api.Column, l ...string) {
		for _, s := range l {
			s = unhex(s)
			bad(t, []api.Column{c}, "\x01"+s)
			bad(t, append([]api.Column{c}, many(2)...), "\x01"+s)
			bad(t, append(many(1), c), "\x02\x01"+s)
			bad(t, append([]api.Column{c}, many(1)...), "\x02"+s+"\x01")
		}
	}
	for kind := api.Int; kind <= api.Text; kind++ {
		most := 0
		if kind >= api.Bytes {
			most = 2
		}
		of(column("a", kind, most), "", "01", "0101", "02", "ff", "00", "80 00", "02 0000000000000000", "02 0000")
		of(nullable("a", kind, most), "", "01 00", "0101", "01 0000000000000001", "02", "ff", "00", "80 00", "02 0000000000000000", "02 0000")
	}
	for _, kind := range []int{api.Int, api.Uint} {
		of(column("a", kind, 0), "00 00000000000000", "00 000000000000000000", "00 00000000000000 01 02", "00 ffffffffffffff")
	}
	of(column("a", api.Bool, 0), "00 02", "00 03", "00 ff", "00 80", "00 01 00", "00 0001", "00 0000000000000001")
	for _, kind := range []int{api.Bytes, api.Text} {
		of(column("a", kind, 2), "00 00", "00 0001", "00 0002 61", "00 0000 61", "00 0001 6161", "00 0003 616161", "00 0100 61", "00 ffff 61", "00 61 00 00")
		of(column("a", kind, 64), "00 0041"+times("61", 65), "00 0040"+times("61", 63), "00 0040"+times("61", 65), "00 0100"+times("61", 256))
		of(column("a", kind, 63), "00 0040"+times("61", 64))
	}
	for _, s := range notUTF8 {
		body := "00 000" + strconv.Itoa(len(s)) + hexa.EncodeToString([]byte(s))
		of(column("a", api.Text, 64), body)
		decodes(t, []api.Column{column("a", api.Bytes, 64)}, unhex("01"+body), list(bytesOf(s)), api.OK)
	}
	for _, s := range []string{"", "\x00", "\x00\x01", "\xff", "\x19" + times("\x01", 25), "\x18" + times("\x01", 23), "\x18" + times("\x01", 25)} {
		bad(t, many(24), s)
	}
}

// grammar answers the form in digits of rows of just these columns, but for what is UTF-8.
func grammar(cols []api.Column) *regexp.Regexp {
	g := "^" + fmt.Sprintf("%02x", len(cols))
	for _, c := range cols {
		part := "00[0-9a-f]{16}"
		switch c.Kind {
		case api.Bool:
			part = "00(?:00|01)"
		case api.Bytes, api.Text:
			var sizes []string
			for size := range c.Max + 1 {
				sizes = append(sizes, fmt.Sprintf("%04x[0-9a-f]{%d}", size, 2*size))
			}
			part = "00(?:" + strings.Join(sizes, "|") + ")"
		}
		if c.Nulls {
			part += "|01"
		}
		g += "(" + part + ")"
	}
	return regexp.MustCompile(g + "$")
}

// grammars answers those of the first one of the columns, of the first two, and so on.
func grammars(cols []api.Column) []*regexp.Regexp {
	var l []*regexp.Regexp
	for n := range cols {
		l = append(l, grammar(cols[:n+1]))
	}
	return l
}

// part answers the value that these digits tell; false: there is none.
func part(kind int, digits string) (api.Value, bool) {
	if digits == "01" {
		return null(), true
	}
	digits = digits[2:]
	if kind <= api.Bool {
		n, _ := strconv.ParseUint(digits, 16, 64)
		return api.Value{Kind: kind, N: n}, true
	}
	s := unhex(digits[4:])
	return api.Value{Kind: kind, S: s}, kind == api.Bytes || utf8.ValidString(s)
}

// meant answers the values that s tells by the grammars; false: it is no row.
func meant(all []*regexp.Regexp, cols []api.Column, s string) ([]api.Value, bool) {
	digits := hexa.EncodeToString([]byte(s))
	for _, g := range all {
		m := g.FindStringSubmatch(digits)
		if m == nil {
			continue
		}
		var l []api.Value
		for at, d := range m[1:] {
			v, ok := part(cols[at].Kind, d)
			if !ok {
				return nil, false
			}
			l = append(l, v)
		}
		return l, true
	}
	return nil, false
}

// model asks whether Decode answers of s what the grammars, those of these columns, say.
func model(t *testing.T, all []*regexp.Regexp, cols []api.Column, s string) {
	t.Helper()
	l, ok := meant(all, cols, s)
	if !ok || len(s) > 512 {
		decodes(t, cols, s, nil, api.ErrBad)
		return
	}
	encodes(t, cols[:len(l)], l, s, api.OK)
	for _, c := range cols[len(l):] {
		l = append(l, c.Default)
	}
	decodes(t, cols, s, l, api.OK)
}

func TestDecodeOfAllShortTexts(t *testing.T) {
	const letters = "\x00\x01\x02\xc3\xa9"
	boolean, booleans := column("b", api.Bool, 0), nullable("b", api.Bool, 0)
	for _, cols := range [][]api.Column{
		{boolean}, {booleans}, {column("x", api.Bytes, 2)}, {nullable("x", api.Bytes, 1)}, {column("t", api.Text, 2)}, {nullable("t", api.Text, 3)},
		{boolean, booleans}, {booleans, nullable("t", api.Text, 2)}, {nullable("x", api.Bytes, 2), boolean, booleans}, {nullable("i", api.Int, 0), column("t", api.Text, 2)},
	} {
		all := grammars(cols)
		level := []string{"\x00", "\x01", "\x02", "\x03", "\x04", "\xff"}
		model(t, all, cols, "")
		for range 7 {
			var next []string
			for _, s := range level {
				model(t, all, cols, s)
				for at := range len(letters) {
					next = append(next, s+letters[at:at+1])
				}
			}
			if t.Failed() {
				return
			}
			level = next
		}
	}
}

func TestDecodeOfRowsOneByteOff(t *testing.T) {
	cols := five()
	all := grammars(cols)
	for _, l := range [][]api.Value{
		row(), row()[:1], row()[:2], row()[:4], list(integer(math.MinInt64), unsigned(1<<63), boolean(1), null(), textOf("aé\x00")),
		list(integer(0), unsigned(0), boolean(0), bytesOf("\x01\x00\xff"), textOf("")), list(integer(1), unsigned(2), boolean(1), bytesOf("")),
	} {
		s, e := Encode(cols[:len(l)], l)
		if e != api.OK {
			t.Fatal(tell(l), e)
		}
		model(t, all, cols, s)
		for at := range len(s) {
			model(t, all, cols, s[:at])
			model(t, all, cols, s[at:])
			model(t, all, cols, s[:at]+s[at+1:])
			for b := range 256 {
				c := string([]byte{byte(b)})
				model(t, all, cols, s[:at]+c+s[at:])
				model(t, all, cols, s[:at]+c+s[at+1:])
			}
			if t.Failed() {
				return
			}
		}
		for b := range 256 {
			model(t, all, cols, s+string([]byte{byte(b)}))
		}
	}
}

// P8.3

func TestGrown(t *testing.T) {
	for _, f := range forms() {
		for n := 1; n <= 23; n++ {
			grown(t, n, with(f.c, f.v), api.Msg{Kind: api.MsgGrow, Off: n, Val: unhex(f.bytes)}, api.OK)
		}
	}
}

func TestGrownOfWrongNumbers(t *testing.T) {
	for _, n := range append(outside, 0) {
		grown(t, n, two()[1], api.Msg{}, api.ErrArg)
		for _, c := range noColumns() {
			grown(t, n, c, api.Msg{}, api.ErrArg)
		}
	}
}

func TestGrownByNoColumn(t *testing.T) {
	for _, c := range noColumns() {
		want := value.Column(c)
		if want == api.OK {
			t.Fatalf("%s is a column", tellColumns([]api.Column{c}))
		}
		for n := 1; n <= 23; n++ {
			grown(t, n, c, api.Msg{}, want)
		}
	}
	grown(t, 1, column("", 9, 70), api.Msg{}, api.ErrArg)
	grown(t, 1, column("a", 9, 70), api.Msg{}, api.ErrType)
	grown(t, 1, with(column("a", api.Text, 70), null()), api.Msg{}, api.ErrBound)
	grown(t, 1, with(column("a", api.Text, 7), null()), api.Msg{}, api.ErrType)
}

// P8.4

// grow answers a row's bytes as the message changes them.
func grow(t *testing.T, s string, m api.Msg) string {
	t.Helper()
	if m.Kind != api.MsgGrow || m.Off != int(s[0]) || m.Key != "" || m.Txn != 0 || m.Num != 0 || m.Seq != 0 {
		t.Fatalf("%#v doesn't change %x", m, s)
	}
	return string([]byte{s[0] + 1}) + s[1:] + m.Val
}

// grows asks whether a row of these columns is as it was, but for one column more.
func grows(t *testing.T, cols []api.Column, l []api.Value, c api.Column) {
	t.Helper()
	s, e := Encode(cols, l)
	m, f := Grown(len(cols), c)
	if e != api.OK || f != api.OK {
		t.Fatalf("%s: %d, %d", tell(l), e, f)
	}
	whole := grow(t, s, m)
	more, want := append(slices.Clone(cols), c), append(slices.Clone(l), c.Default)
	decodes(t, more, s, want, api.OK)
	if len(whole) <= 512 {
		thereAndBack(t, more, want, whole)
	} else {
		fits(t, more, want, api.OK)
		encodes(t, more, want, "", api.ErrBound)
		bad(t, more, whole)
	}
}

func TestRowsGrowByEachColumn(t *testing.T) {
	for _, f := range forms() {
		for _, g := range forms() {
			grows(t, []api.Column{f.c}, list(f.v), with(g.c, g.v))
		}
		grows(t, five(), row(), with(f.c, f.v))
	}
}

func TestRowsGrowToTheFull(t *testing.T) {
	r := rand.New(rand.NewSource(4))
	all := forms()
	for range 300 {
		first := all[r.Intn(len(all))]
		cols, l := []api.Column{first.c}, list(first.v)
		s, _ := Encode(cols, l)
		for len(cols) < 24 {
			f := all[r.Intn(len(all))]
			if len(s)+len(unhex(f.bytes)) > 512 {
				break
			}
			c := with(f.c, f.v)
			grows(t, cols, l, c)
			m, _ := Grown(len(cols), c)
			s, cols, l = grow(t, s, m), append(cols, c), append(l, f.v)
			thereAndBack(t, cols, l, s)
		}
		// What was encoded ahead of all that answers the same.
		s, _ = Encode(cols[:1], l[:1])
		decodes(t, cols, s, l, api.OK)
	}
}

func TestLongRowsGrow(t *testing.T) {
	for size := 440; size <= 512; size++ {
		l := long(size)
		cols := many(len(l))
		grows(t, cols, l, nullable("n", api.Bool, 0))
		grows(t, cols, l, column("b", api.Bool, 0))
		grows(t, cols, l, column("i", api.Int, 0))
		grows(t, cols, l, with(column("t", api.Text, 64), textOf(times("y", 64))))
	}
}

// P8.5

// sizeOf answers how many bytes stand for a value.
func sizeOf(v api.Value) int {
	return []int{1, 9, 9, 2, 3 + len(v.S), 3 + len(v.S)}[v.Kind]
}

// placesOf asks for the places of all columns of a row that has the first n of its list.
func placesOf(t *testing.T, cols []api.Column, l []api.Value, n int) {
	t.Helper()
	s, e := Encode(cols[:n], l[:n])
	if e != api.OK {
		t.Fatalf("%s: %d", tell(l), e)
	}
	at := 1
	for col := range cols {
		if col >= n || l[col].Kind != api.Int && l[col].Kind != api.Uint {
			places(t, cols, s, col, 0, api.ErrType)
		} else {
			places(t, cols, s, col, at+1, api.OK)
			want, _ := Decode(cols, s)
			want[col].N = 0x0102030405060708
			decodes(t, cols, s[:at+1]+"\x01\x02\x03\x04\x05\x06\x07\x08"+s[at+9:], want, api.OK)
		}
		if col < n {
			at += sizeOf(l[col])
		}
	}
	for _, col := range append(outside, len(cols), len(cols)+1) {
		places(t, cols, s, col, 0, api.ErrArg)
	}
}

func TestPlaces(t *testing.T) {
	for n := 1; n <= 5; n++ {
		placesOf(t, five(), row(), n)
		placesOf(t, five(), list(integer(1), unsigned(2), boolean(1), null(), textOf("")), n)
	}
	for _, f := range forms() {
		for _, g := range forms() {
			cols, l := []api.Column{f.c, g.c, column("i", api.Int, 0), nullable("u", api.Uint, 0)}, list(f.v, g.v, integer(5), unsigned(6))
			for n := 1; n <= 4; n++ {
				placesOf(t, cols, l, n)
			}
		}
	}
}

func TestPlacesInLongRows(t *testing.T) {
	var ints []api.Value
	for at := range 24 {
		ints = append(ints, integer(int64(at)))
	}
	placesOf(t, slices.Repeat([]api.Column{column("i", api.Int, 0)}, 24), ints, 24)
	l := append(long(503), integer(7))
	cols := append(many(len(l)-1), column("i", api.Int, 0))
	placesOf(t, cols, l, len(l))
	s, _ := Encode(cols, l)
	places(t, cols, s, len(l)-1, 504, api.OK)
}

func TestPlacesOfNoNumber(t *testing.T) {
	// A number that a row hasn't got has a Default, but no place.
	cols := []api.Column{column("i", api.Int, 0), with(column("j", api.Int, 0), integer(5)), nullable("u", api.Uint, 0)}
	s := unhex("01 00 0000000000000001")
	places(t, cols, s, 0, 2, api.OK)
	places(t, cols, s, 1, 0, api.ErrType)
	places(t, cols, s, 2, 0, api.ErrType)
	places(t, cols, s, 3, 0, api.ErrArg)
	places(t, cols[:1], s, 1, 0, api.ErrArg)
	s = unhex("03 00 0000000000000001 00 0000000000000002 01")
	places(t, cols, s, 1, 11, api.OK)
	places(t, cols, s, 2, 0, api.ErrType)
	places(t, cols, s[:19]+unhex("00 0000000000000003"), 2, 20, api.OK)
	bad(t, cols, s+"\x00")
	bad(t, cols, "")
}

// What is handed in, and what is answered

func TestArgumentsStay(t *testing.T) {
	cols, l := append(five(), column("spare", api.Int, 0)), append(row(), integer(9))
	colsWere, lWas := slices.Clone(cols), slices.Clone(l)
	Fits(cols[:5], l[:5])
	s, _ := Encode(cols[:5], l[:5])
	short, _ := Encode(cols[:2], l[:2])
	Decode(cols[:5], s)
	Decode(cols[:5], short)
	Decode(cols[:2], s)
	Place(cols[:5], s, 0)
	if !slices.Equal(cols, colsWere) || !slices.Equal(l, lWas) {
		t.Errorf("now %s and %s", tellColumns(cols), tell(l))
	}
}

func TestAnswersAreNewMemory(t *testing.T) {
	cols := five()
	for n := 1; n <= 5; n++ {
		s, _ := Encode(cols[:n], row()[:n])
		a, _ := Decode(cols, s)
		b, _ := Decode(cols, s)
		want := slices.Clone(b)
		clear(a[:cap(a)])
		c, _ := Decode(cols, s)
		if !slices.Equal(b, want) || !slices.Equal(c, want) || !slices.Equal(cols, five()) {
			t.Errorf("a row of %d columns: an answer shares memory", n)
		}
	}
}
