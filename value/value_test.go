package value

import (
	hexa "encoding/hex"
	"fmt"
	"math"
	"math/big"
	"math/rand"
	"regexp"
	"slices"
	"strings"
	"testing"
	"unicode/utf8"

	"granary/api"
)

// kinds are numbers of no kind, those among them that a narrower number would take for one.
var kinds = []int{math.MinInt, -1<<32 + 1, -4096, -256, -5, -1, 6, 7, 100, 257, 1<<16 + 2, 1<<32 + 3, 1<<62 + 4, math.MaxInt}

// notUTF8 are texts that are no UTF-8.
var notUTF8 = []string{"\xff", "a\x80", "\xc0\x80", "\xc3", "\xe2\x82", "a\xe2\x82b", "\xed\xa0\x80", "\xf4\x90\x80\x80", "\xf0\x80\x80\x80", "\xfe", "é\xa9"}

func null() api.Value              { return api.Value{} }
func integer(n int64) api.Value    { return api.Value{Kind: api.Int, N: uint64(n)} }
func unsigned(n uint64) api.Value  { return api.Value{Kind: api.Uint, N: n} }
func boolean(n uint64) api.Value   { return api.Value{Kind: api.Bool, N: n} }
func bytesOf(s string) api.Value   { return api.Value{Kind: api.Bytes, S: s} }
func textOf(s string) api.Value    { return api.Value{Kind: api.Text, S: s} }
func times(s string, n int) string { return strings.Repeat(s, n) }

// values are values of all kinds, each told by its text.
func values() map[string]api.Value {
	m := map[string]api.Value{
		"null":                  null(),
		"0":                     integer(0),
		"1":                     integer(1),
		"-1":                    integer(-1),
		"-5":                    integer(-5),
		"10":                    integer(10),
		"-10":                   integer(-10),
		"4294967296":            integer(1 << 32),
		"-2147483649":           integer(math.MinInt32 - 1),
		"9223372036854775807":   integer(math.MaxInt64),
		"-9223372036854775807":  integer(math.MinInt64 + 1),
		"-9223372036854775808":  integer(math.MinInt64),
		"0u":                    unsigned(0),
		"1u":                    unsigned(1),
		"5u":                    unsigned(5),
		"100u":                  unsigned(100),
		"9223372036854775808u":  unsigned(1 << 63),
		"18446744073709551615u": unsigned(math.MaxUint64),
		"true":                  boolean(1),
		"false":                 boolean(0),
		"x":                     bytesOf(""),
		"x6100":                 bytesOf("a\x00"),
		"x00ff7f80":             bytesOf("\x00\xff\x7f\x80"),
		"xabcdef":               bytesOf("\xab\xcd\xef"),
		`""`:                    textOf(""),
		`"a"`:                   textOf("a"),
		`"a\20b"`:               textOf("a b"),
		`"\22"`:                 textOf(`"`),
		`"\5c"`:                 textOf(`\`),
		`"\5c22"`:               textOf(`\22`),
		`"\5c\22"`:              textOf(`\"`),
		`"!#[]~"`:               textOf("!#[]~"),
		`"\00\1f\20\7f"`:        textOf("\x00\x1f \x7f"),
		`"\c3\a9"`:              textOf("é"),
		`"\f4\8f\bf\bf"`:        textOf("\U0010ffff"),
		`"null"`:                textOf("null"),
		`"5u"`:                  textOf("5u"),
		`"x61"`:                 textOf("x61"),
	}
	m["x"+times("fe", 64)] = bytesOf(times("\xfe", 64))
	m[`"`+times("z", 64)+`"`] = textOf(times("z", 64))
	m[`"`+times(`\0a`, 64)+`"`] = textOf(times("\n", 64))
	m[`"`+times(`\c3\a9`, 32)+`"`] = textOf(times("é", 32))
	return m
}

// others are those that are no values.
func others() []api.Value {
	l := []api.Value{
		{Kind: api.Null, N: 1},
		{Kind: api.Null, N: 1 << 32},
		{Kind: api.Null, N: math.MaxUint64},
		{Kind: api.Null, S: "a"},
		{Kind: api.Null, S: "\x00"},
		{Kind: api.Int, S: "a"},
		{Kind: api.Int, N: 7, S: "\x00"},
		{Kind: api.Int, N: 7, S: "7"},
		{Kind: api.Uint, S: "a"},
		{Kind: api.Uint, N: 7, S: "\x00"},
		{Kind: api.Bool, N: 2},
		{Kind: api.Bool, N: 256},
		{Kind: api.Bool, N: 1<<32 + 1},
		{Kind: api.Bool, N: math.MaxUint64},
		{Kind: api.Bool, S: "a"},
		{Kind: api.Bool, N: 1, S: "true"},
		{Kind: api.Bytes, N: 1},
		{Kind: api.Bytes, N: 1, S: "a"},
		{Kind: api.Bytes, N: math.MaxUint64, S: "a"},
		bytesOf(times("a", 65)),
		bytesOf(times("a", 1000)),
		bytesOf(times("a", 1<<20)),
		{Kind: api.Text, N: 1},
		{Kind: api.Text, N: 1, S: "a"},
		{Kind: api.Text, N: math.MaxUint64, S: "a"},
		textOf(times("a", 65)),
		textOf(times("é", 33)),
		textOf(times("a", 63) + "é"),
		textOf(times("a", 1<<20)),
		textOf(times("a", 63) + "\xff"),
	}
	for _, s := range notUTF8 {
		l = append(l, textOf(s))
	}
	for _, kind := range kinds {
		l = append(l, api.Value{Kind: kind}, api.Value{Kind: kind, N: 1}, api.Value{Kind: kind, S: "a"})
	}
	return l
}

// tell answers a value, or what is none, in a short form without bytes that can't be read.
func tell(v api.Value) string { return fmt.Sprintf("{%d %d %.80q}", v.Kind, v.N, v.S) }

// tellColumn answers a column likewise.
func tellColumn(c api.Column) string {
	return fmt.Sprintf("{%.40q %d %d %v %s}", c.Name, c.Kind, c.Max, c.Nulls, tell(c.Default))
}

// parses asks what Parse answers of a text.
func parses(t *testing.T, s string, want api.Value, errno api.Errno) {
	t.Helper()
	if v, e := Parse(s); v != want || e != errno {
		t.Errorf("Parse(%.300q): %s, %d, want %s, %d", s, tell(v), e, tell(want), errno)
	}
}

// fits asks what Fits answers.
func fits(t *testing.T, c api.Column, v api.Value, want api.Errno) {
	t.Helper()
	if e := Fits(c, v); e != want {
		t.Errorf("Fits(%s, %s): %d, want %d", tellColumn(c), tell(v), e, want)
	}
}

// column asks what Column answers.
func column(t *testing.T, c api.Column, want api.Errno) {
	t.Helper()
	if e := Column(c); e != want {
		t.Errorf("Column(%s): %d, want %d", tellColumn(c), e, want)
	}
}

func TestExamples(t *testing.T) {
	for s, v := range map[string]api.Value{
		"-5":       integer(-5),
		"5u":       unsigned(5),
		"true":     boolean(1),
		"x6100":    bytesOf("a\x00"),
		`"a\20b"`:  textOf("a b"),
		"null":     null(),
		"x":        bytesOf(""),
		"10":       integer(10),
		`"\c3\bc"`: textOf("ü"),
	} {
		if got := Text(v); got != s {
			t.Errorf("Text(%s): %q, want %q", tell(v), got, s)
		}
		parses(t, s, v, api.OK)
	}
	for _, s := range []string{"9223372036854775808", "-9223372036854775809", "18446744073709551616u", "", "-", "u", "nul", `"`} {
		parses(t, s, null(), api.ErrBad)
	}
	if Cmp(null(), integer(-1)) != -1 || Cmp(integer(-1), integer(1)) != -1 || Cmp(textOf("a"), textOf("ab")) != -1 || Cmp(integer(9), unsigned(1)) != -1 {
		t.Error("example 3")
	}
	a := api.Column{Name: "a", Kind: api.Int}
	fits(t, a, null(), api.ErrType)
	fits(t, a, unsigned(1), api.ErrType)
	tt := api.Column{Name: "t", Kind: api.Text, Max: 2}
	fits(t, tt, textOf("abc"), api.ErrBound)
	fits(t, tt, textOf("\xff"), api.ErrType)
	column(t, api.Column{Name: "a", Kind: api.Int, Max: 1, Default: integer(0)}, api.ErrBound)
	column(t, api.Column{Name: "9", Kind: api.Int, Default: integer(0)}, api.ErrArg)
	column(t, a, api.ErrType)
}

// P6.1

func TestValid(t *testing.T) {
	for s, v := range values() {
		if !Valid(v) {
			t.Errorf("%s, with the text %q, is no value", tell(v), s)
		}
	}
	for _, v := range others() {
		if Valid(v) {
			t.Errorf("%s is a value", tell(v))
		}
	}
}

func TestValidOfEachKindsNumbersAndLengths(t *testing.T) {
	for kind := -2; kind <= 8; kind++ {
		for _, n := range []uint64{0, 1, 2, 3, 1 << 31, 1 << 63, math.MaxUint64} {
			for _, size := range []int{0, 1, 2, 63, 64, 65, 66, 128, 256, 320} {
				want := false
				switch kind {
				case 0:
					want = n == 0 && size == 0
				case 1, 2:
					want = size == 0
				case 3:
					want = n < 2 && size == 0
				case 4, 5:
					want = n == 0 && size < 65
				}
				if Valid(api.Value{Kind: kind, N: n, S: times("a", size)}) != want {
					t.Errorf("kind %d, N %d, %d bytes: not %v", kind, n, size, want)
				}
			}
		}
	}
}

func TestValidTextIsUTF8(t *testing.T) {
	for a := range 256 {
		for b := range 256 {
			s := string([]byte{byte(a), byte(b)})
			if !Valid(bytesOf(s)) || Valid(textOf(s)) != utf8.ValidString(s) {
				t.Fatalf("%x", s)
			}
		}
	}
	for _, s := range notUTF8 {
		if !Valid(bytesOf(s)) {
			t.Errorf("the Bytes %x are no value", s)
		}
	}
}

// sorted answers values, and those that are none, in their order.
func sorted() []api.Value {
	least, most := uint64(1<<63), uint64(1<<63-1)
	return []api.Value{
		{Kind: math.MinInt, N: math.MaxUint64, S: "z"},
		{Kind: -2, S: "b"},
		{Kind: -1},
		{Kind: -1, S: "a"},
		{Kind: -1, N: 1 << 63},
		{Kind: api.Null},
		{Kind: api.Null, S: "a"},
		{Kind: api.Null, N: 1},
		{Kind: api.Null, N: most},
		{Kind: api.Null, N: least},
		{Kind: api.Int, N: least},
		{Kind: api.Int, N: least, S: "a"},
		{Kind: api.Int, N: least + 1},
		integer(-256), integer(-2), integer(-1),
		{Kind: api.Int, N: math.MaxUint64, S: "z"},
		integer(0), integer(1),
		{Kind: api.Int, N: 1, S: "\x00"},
		{Kind: api.Int, N: 1, S: "a"},
		integer(2), integer(255), integer(256),
		{Kind: api.Int, N: most},
		{Kind: api.Int, N: most, S: "\xff"},
		unsigned(0),
		{Kind: api.Uint, S: "a"},
		unsigned(1), unsigned(255), unsigned(256), unsigned(most), unsigned(least), unsigned(math.MaxUint64),
		boolean(0),
		{Kind: api.Bool, S: "z"},
		boolean(1), boolean(2), boolean(least), boolean(math.MaxUint64),
		bytesOf(""), bytesOf("\x00"), bytesOf("\x00\x00"), bytesOf("\x00\xff"), bytesOf("\x01"),
		bytesOf("A"), bytesOf("a"), bytesOf("a\x00"), bytesOf("aa"), bytesOf("ab"), bytesOf("b"),
		bytesOf("\x7f"), bytesOf("\x80"), bytesOf("\xff"), bytesOf("\xff\xff"), bytesOf(times("\xff", 65)),
		{Kind: api.Bytes, N: 1},
		{Kind: api.Bytes, N: least, S: "a"},
		textOf(""), textOf("\x00"), textOf(" "), textOf("A"), textOf("a"), textOf("a\x00"), textOf("aa"),
		textOf("ab"), textOf("b"), textOf("é"), textOf("\ue000"), textOf("\U00010000"), textOf("\xff"),
		{Kind: api.Text, N: 1},
		{Kind: 6},
		{Kind: 6, S: "a"},
		{Kind: 6, S: "b"},
		{Kind: 6, N: most},
		{Kind: 6, N: least},
		{Kind: math.MaxInt},
	}
}

func TestCmp(t *testing.T) {
	l := sorted()
	for i, a := range l {
		for j, b := range l {
			want := 0
			if i < j {
				want = -1
			} else if i > j {
				want = 1
			}
			if got := Cmp(a, b); got != want {
				t.Errorf("Cmp(%s, %s): %d, want %d", tell(a), tell(b), got, want)
			}
		}
	}
}

func TestCmpSorts(t *testing.T) {
	l := sorted()
	r := rand.New(rand.NewSource(6))
	for range 20 {
		mixed := slices.Clone(l)
		r.Shuffle(len(mixed), func(i, j int) { mixed[i], mixed[j] = mixed[j], mixed[i] })
		slices.SortFunc(mixed, Cmp)
		if !slices.Equal(mixed, l) {
			t.Fatal("values that are sorted by Cmp don't stand in their order")
		}
	}
}

func TestName(t *testing.T) {
	for s, want := range map[string]bool{
		"":                               false,
		"a":                              true,
		"z":                              true,
		"m":                              true,
		"a0":                             true,
		"a9":                             true,
		"a_":                             true,
		"az":                             true,
		"by_name":                        true,
		"x__9":                           true,
		"null":                           true,
		"abcdefghijklmnop":               true,
		"q123456789012345":               true,
		"a_______________":               true,
		"q1234567890123456":              false,
		"abcdefghijklmnopq":              false,
		"A":                              false,
		"_":                              false,
		"_a":                             false,
		"0":                              false,
		"9a":                             false,
		"aB":                             false,
		"abC":                            false,
		"a-":                             false,
		"a b":                            false,
		" a":                             false,
		"a ":                             false,
		"a\n":                            false,
		"a\x00":                          false,
		"\x00":                           false,
		"é":                              false,
		"aé":                             false,
		"a\xff":                          false,
		"aaaaaaaaaaaaaaé":                false,
		times("a", 1<<20):                false,
		times("a", 16) + "\x00":          false,
		"abcdefghijklmno" + "\u0301"[1:]: false,
	} {
		if Name(s) != want {
			t.Errorf("Name(%.40q): not %v", s, want)
		}
	}
}

func TestNameOfEachByte(t *testing.T) {
	const first = "abcdefghijklmnopqrstuvwxyz"
	for b := range 256 {
		s := string([]byte{byte(b)})
		if Name(s) != strings.Contains(first, s) {
			t.Errorf("Name(%q): %v", s, Name(s))
		}
		for size := 1; size < 20; size++ {
			for _, at := range []int{0, size / 2, size - 1} {
				long := "a" + times("b", at) + s + times("c", size-1-at)
				if want := size < 16 && strings.Contains(first+"0123456789_", s); Name(long) != want {
					t.Errorf("Name(%q): not %v", long, want)
				}
			}
		}
	}
}

// P6.2

func TestFitsByKind(t *testing.T) {
	for kind := -1; kind <= 7; kind++ {
		for s, v := range values() {
			c := api.Column{Name: "c", Kind: kind, Max: 64}
			want := api.OK
			if v.Kind == api.Null || v.Kind != kind {
				want = api.ErrType
			}
			fits(t, c, v, want)
			c.Nulls = true
			if s == "null" {
				want = api.OK
			}
			fits(t, c, v, want)
		}
	}
}

func TestFitsOfNoValue(t *testing.T) {
	for _, v := range others() {
		for _, most := range []int{math.MinInt, 0, 1, 64, math.MaxInt} {
			c := api.Column{Name: "c", Kind: v.Kind, Max: most}
			fits(t, c, v, api.ErrType)
			c.Nulls = true
			fits(t, c, v, api.ErrType)
		}
	}
}

func TestFitsByLength(t *testing.T) {
	for _, most := range []int{math.MinInt, math.MinInt32, -64, -1, 0, 1, 2, 3, 63, 64, 65, 1000, math.MaxInt32, math.MaxInt} {
		for size := range 65 {
			want := api.OK
			if size > most {
				want = api.ErrBound
			}
			fits(t, api.Column{Kind: api.Bytes, Max: most}, bytesOf(times("\xff", size)), want)
			fits(t, api.Column{Kind: api.Text, Max: most}, textOf(times("t", size)), want)
			fits(t, api.Column{Kind: api.Text, Max: most, Nulls: true}, textOf(times("t", size)), want)
			fits(t, api.Column{Kind: api.Bytes, Max: most}, textOf(times("t", size)), api.ErrType)
			fits(t, api.Column{Kind: api.Text, Max: most}, bytesOf(times("t", size)), api.ErrType)
		}
	}
	// Max counts bytes.
	fits(t, api.Column{Kind: api.Text, Max: 1}, textOf("é"), api.ErrBound)
	fits(t, api.Column{Kind: api.Text, Max: 2}, textOf("é"), api.OK)
}

func TestFitsLooksAtMaxOfLengthsAlone(t *testing.T) {
	for _, most := range []int{math.MinInt, -1, 0, 1, math.MaxInt} {
		for _, v := range []api.Value{integer(math.MinInt64), unsigned(math.MaxUint64), boolean(0), boolean(1)} {
			fits(t, api.Column{Kind: v.Kind, Max: most}, v, api.OK)
		}
		for kind := range 6 {
			fits(t, api.Column{Kind: kind, Max: most, Nulls: true}, null(), api.OK)
			fits(t, api.Column{Kind: kind, Max: most}, null(), api.ErrType)
		}
	}
}

func TestFitsOfAnyColumn(t *testing.T) {
	for _, name := range []string{"", "9", "A b", times("a", 1000)} {
		for _, v := range append(others(), null(), integer(3)) {
			c := api.Column{Name: name, Kind: api.Int, Max: 9, Default: v}
			fits(t, c, integer(3), api.OK)
			fits(t, c, null(), api.ErrType)
			fits(t, c, unsigned(3), api.ErrType)
		}
	}
	for _, kind := range append(kinds, api.Null) {
		fits(t, api.Column{Kind: kind, Nulls: true}, null(), api.OK)
		fits(t, api.Column{Kind: kind}, null(), api.ErrType)
		for _, v := range values() {
			if v.Kind != api.Null {
				fits(t, api.Column{Kind: kind, Max: 64, Nulls: true}, v, api.ErrType)
			}
		}
	}
}

// P6.3

func TestColumn(t *testing.T) {
	for _, c := range []api.Column{
		{Name: "a", Kind: api.Int, Default: integer(0)},
		{Name: "a", Kind: api.Int, Default: integer(-7)},
		{Name: "by_name_12345678", Kind: api.Int, Nulls: true, Default: integer(7)},
		{Name: "a", Kind: api.Int, Nulls: true},
		{Name: "a", Kind: api.Uint, Default: unsigned(math.MaxUint64)},
		{Name: "a", Kind: api.Bool, Default: boolean(1)},
		{Name: "a", Kind: api.Bytes, Max: 1, Default: bytesOf("")},
		{Name: "a", Kind: api.Bytes, Max: 1, Default: bytesOf("\xff")},
		{Name: "a", Kind: api.Bytes, Max: 64, Default: bytesOf(times("a", 64))},
		{Name: "a", Kind: api.Bytes, Max: 64, Nulls: true},
		{Name: "a", Kind: api.Text, Max: 1, Default: textOf("a")},
		{Name: "a", Kind: api.Text, Max: 64, Default: textOf(times("é", 32))},
		{Name: "a", Kind: api.Text, Max: 3, Nulls: true, Default: textOf("abc")},
	} {
		column(t, c, api.OK)
	}
}

func TestColumnsBound(t *testing.T) {
	for kind := range 6 {
		for _, most := range []int{math.MinInt, -1 << 32, -64, -1, 0, 1, 2, 63, 64, 65, 256, 1 << 32, 1<<32 + 1, math.MaxInt} {
			want := api.OK
			switch {
			case kind == api.Null:
				want = api.ErrType
			case kind >= api.Bytes && (most < 1 || most > 64), kind < api.Bytes && most != 0:
				want = api.ErrBound
			}
			column(t, api.Column{Name: "a", Kind: kind, Max: most, Nulls: true}, want)
		}
	}
}

func TestColumnsDefault(t *testing.T) {
	for kind := api.Int; kind <= api.Text; kind++ {
		for _, most := range []int{1, 2, 5, 64} {
			c := api.Column{Name: "a", Kind: kind}
			if kind >= api.Bytes {
				c.Max = most
			}
			for _, v := range values() {
				for _, c.Nulls = range []bool{false, true} {
					c.Default = v
					column(t, c, Fits(c, v))
				}
			}
			for _, v := range others() {
				c.Default = v
				column(t, c, api.ErrType)
			}
		}
	}
	column(t, api.Column{Name: "a", Kind: api.Text, Max: 2, Default: textOf("abc")}, api.ErrBound)
	column(t, api.Column{Name: "a", Kind: api.Bytes, Max: 63, Default: bytesOf(times("a", 64))}, api.ErrBound)
	column(t, api.Column{Name: "a", Kind: api.Text, Max: 2}, api.ErrType)
	column(t, api.Column{Name: "a", Kind: api.Text, Max: 2, Default: bytesOf("a")}, api.ErrType)
}

// The error that the chapter names first is the answer.
func TestColumnsFirstError(t *testing.T) {
	wrong := api.Column{Kind: api.Null, Max: 65, Default: api.Value{Kind: 9}}
	for _, name := range []string{"", "9", "A", "a b", times("a", 17)} {
		c := wrong
		c.Name = name
		column(t, c, api.ErrArg)
		column(t, api.Column{Name: name, Kind: api.Int, Default: integer(0)}, api.ErrArg)
	}
	for _, kind := range append(kinds, api.Null) {
		c := wrong
		c.Name, c.Kind = "a", kind
		column(t, c, api.ErrType)
		c.Max, c.Nulls, c.Default = 0, true, null()
		column(t, c, api.ErrType)
	}
	for _, kind := range []int{api.Int, api.Uint, api.Bool, api.Bytes, api.Text} {
		c := wrong
		c.Name, c.Kind = "a", kind
		column(t, c, api.ErrBound)
	}
}

// P6.4

func TestTexts(t *testing.T) {
	for s, v := range values() {
		if got := Text(v); got != s {
			t.Errorf("Text(%s): %q, want %q", tell(v), got, s)
		}
		parses(t, s, v, api.OK)
	}
}

func TestTextOfNoValue(t *testing.T) {
	for _, v := range others() {
		if s := Text(v); s != "" {
			t.Errorf("Text(%s): %.300q", tell(v), s)
		}
	}
}

func TestTextOfEachByte(t *testing.T) {
	for b := range 256 {
		s := string([]byte{byte(b)})
		two := fmt.Sprintf("x%02x", b)
		if got := Text(bytesOf(s)); got != two {
			t.Errorf("the Bytes %q: %q", s, got)
		}
		parses(t, two, bytesOf(s), api.OK)
		escaped := fmt.Sprintf(`"a\%02xb"`, b)
		plain := `"a` + s + `b"`
		switch {
		case b > 127:
			parses(t, escaped, null(), api.ErrBad)
			parses(t, plain, null(), api.ErrBad)
		case b < 33 || b > 126 || b == '"' || b == '\\':
			if got := Text(textOf("a" + s + "b")); got != escaped {
				t.Errorf("the Text %q: %q", s, got)
			}
			parses(t, escaped, textOf("a"+s+"b"), api.OK)
			parses(t, plain, null(), api.ErrBad)
		default:
			if got := Text(textOf("a" + s + "b")); got != plain {
				t.Errorf("the Text %q: %q", s, got)
			}
			parses(t, plain, textOf("a"+s+"b"), api.OK)
			parses(t, escaped, null(), api.ErrBad)
		}
	}
}

func TestTextOfEachRune(t *testing.T) {
	for r := rune(0x80); r <= utf8.MaxRune; r += 0x35 {
		if !utf8.ValidRune(r) {
			continue
		}
		want := `"`
		for _, b := range []byte(string(r)) {
			want += fmt.Sprintf(`\%02x`, b)
		}
		want += `"`
		if got := Text(textOf(string(r))); got != want {
			t.Fatalf("%q: %q, want %q", r, got, want)
		}
		parses(t, want, textOf(string(r)), api.OK)
		parses(t, `"`+string(r)+`"`, null(), api.ErrBad)
	}
}

func TestParseBad(t *testing.T) {
	for _, s := range []string{
		"+1", "007", "-0", "1U", "x6", "X61", `"a b"`, `"\41"`,
		"", " ", "\x00", "\n", "-", "--1", "-01", "00", "0x1", "1_000", "1e3", "1.0", "1 ", " 1", "0b1", "0o7", "1\n",
		"9223372036854775808", "-9223372036854775809", "99999999999999999999", "-99999999999999999999",
		"u", "uu", "5uu", "-1u", "-0u", "+1u", "00u", "07u", "1_0u", " 1u", "1 u", "18446744073709551616u", "99999999999999999999u",
		"nul", "Null", "NULL", "null ", "nulll", "nullu", "True", "TRUE", "true ", "truee", "tru", "t", "f", "False", "falsey", "False ",
		"a", "abc", "id", "-x", "-null", "-true", "é", "\xff",
		"x0", "x612", "x6G", "xg6", "xAB", "xaB", "xAb", "x 61", "x61 ", "x-1", "x+1", "xx61", "0x61", "x6_", "x_6", "x6u", "x\"",
		"x" + times("61", 65), "x" + times("61", 64) + "6", "x" + times("61", 1<<16),
		`"`, `"""`, `"a`, `a"`, `"a"b`, `"a"b"`, `"\"`, `"\\"`, `"\""`, `"\2"`, `"\22`, `"\5C"`, `"\2G"`, `"\G2"`, `"\ 2"`, `"\+2"`, `"\-2"`, `"\x41"`, `"\61"`, `"\7e"`, `"\21"`, `"\n"`,
		`"a""`, `""a"`, `" "`, `"` + "\t" + `"`, `"` + "\x7f" + `"`, `"é"`, `"` + "\xff" + `"`, `"\ff"`, `"a\80"`, `"\c3"`, `"\c3\28"`, `"\ed\a0\80"`, `"\c0\80"`, `"\C3\A9"`,
		`"` + times("z", 65) + `"`, `"` + times(`\0a`, 65) + `"`, `"` + times(`\0a`, 64) + `z"`, `"` + times(`\c3\a9`, 32) + `\00"`, `"` + times("z", 1<<16) + `"`,
		`'a'`, "`a`", `x""`, `""u`, `"1"u`, "nil",
	} {
		parses(t, s, null(), api.ErrBad)
	}
}

// The forms of texts, but for how great a number is, how many bytes there are, and whether a Text is UTF-8.
var (
	formInt   = regexp.MustCompile(`^(0|-?[1-9][0-9]*)$`)
	formUint  = regexp.MustCompile(`^(0|[1-9][0-9]*)u$`)
	formBytes = regexp.MustCompile(`^x(([0-9a-f][0-9a-f])*)$`)
	formText  = regexp.MustCompile(`^"(([!#-\[\]-~]|\\([01][0-9a-f]|20|22|5c|7f|[89a-f][0-9a-f]))*)"$`)
	formByte  = regexp.MustCompile(`\\..`)
)

// model answers the value whose text s is, and whether there is one, by the forms.
func model(s string) (api.Value, bool) {
	if v, ok := map[string]api.Value{"null": null(), "true": boolean(1), "false": boolean(0)}[s]; ok {
		return v, true
	}
	if formInt.MatchString(s) {
		n, _ := new(big.Int).SetString(s, 10)
		return integer(n.Int64()), n.IsInt64()
	}
	if m := formUint.FindStringSubmatch(s); m != nil {
		n, _ := new(big.Int).SetString(m[1], 10)
		return unsigned(n.Uint64()), n.IsUint64()
	}
	if m := formBytes.FindStringSubmatch(s); m != nil {
		b, _ := hexa.DecodeString(m[1])
		return bytesOf(string(b)), len(b) <= 64
	}
	if m := formText.FindStringSubmatch(s); m != nil {
		b := formByte.ReplaceAllStringFunc(m[1], func(s string) string {
			b, _ := hexa.DecodeString(s[1:])
			return string(b)
		})
		return textOf(b), len(b) <= 64 && utf8.ValidString(b)
	}
	return null(), false
}

// asModel asks whether Parse answers of s what the model does; else the test ends.
func asModel(t *testing.T, s string) {
	t.Helper()
	if want, ok := model(s); ok {
		parses(t, s, want, api.OK)
	} else {
		parses(t, s, null(), api.ErrBad)
	}
	if t.Failed() {
		t.FailNow()
	}
}

func TestParseOfAllShortTexts(t *testing.T) {
	for _, of := range []string{"019-+u x", "xu0a9FgX", `"\0125c!`, `"\c389ab`, "trueflas", "nulx \"-"} {
		level := []string{""}
		for range 6 {
			var next []string
			for _, s := range level {
				asModel(t, s)
				for at := range len(of) {
					next = append(next, s+of[at:at+1])
				}
			}
			level = next
		}
	}
}

func TestParseOfTextsOneByteOff(t *testing.T) {
	for s := range values() {
		for at := range len(s) {
			asModel(t, s[:at])
			asModel(t, s[at:])
			asModel(t, s[:at]+s[at+1:])
			for b := range 256 {
				c := string([]byte{byte(b)})
				asModel(t, s[:at]+c+s[at:])
				asModel(t, s[:at]+c+s[at+1:])
			}
		}
		for b := range 256 {
			asModel(t, s+string([]byte{byte(b)}))
		}
	}
}

func TestNumbersThereAndBack(t *testing.T) {
	r := rand.New(rand.NewSource(6))
	for range 20000 {
		n := r.Uint64() >> r.Intn(64)
		for _, n := range []uint64{n, -n, n - 1, ^n} {
			u, i := fmt.Sprint(n)+"u", fmt.Sprint(int64(n))
			if Text(unsigned(n)) != u || Text(integer(int64(n))) != i {
				t.Fatalf("%d: %q, %q", n, Text(unsigned(n)), Text(integer(int64(n))))
			}
			parses(t, u, unsigned(n), api.OK)
			parses(t, i, integer(int64(n)), api.OK)
		}
	}
}

func TestBytesThereAndBack(t *testing.T) {
	r := rand.New(rand.NewSource(7))
	for range 20000 {
		b := make([]byte, r.Intn(65))
		for at := range b {
			b[at] = byte(r.Intn(256))
		}
		v := bytesOf(string(b))
		if want := fmt.Sprintf("x%x", b); Text(v) != want {
			t.Fatalf("%x: %q", b, Text(v))
		}
		parses(t, Text(v), v, api.OK)
		for at := range b {
			b[at] &= 0x7f
		}
		v = textOf(string(b))
		parses(t, Text(v), v, api.OK)
	}
}

func TestUnlikeValuesHaveUnlikeTexts(t *testing.T) {
	texts := map[string]api.Value{}
	add := func(v api.Value) {
		s := Text(v)
		if had, ok := texts[s]; ok && had != v {
			t.Errorf("%q is the text of %s and of %s", s, tell(had), tell(v))
		}
		texts[s] = v
	}
	for _, v := range sorted() {
		if Valid(v) {
			add(v)
		}
	}
	for _, s := range []string{"", "0", "5", "5u", "null", "true", "x", "x61", `"`, `""`, `\`, `\5c`, "61", " "} {
		add(bytesOf(s))
		add(textOf(s))
	}
}
