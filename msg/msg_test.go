package msg

import (
	"encoding/binary"
	"fmt"
	"math"
	"math/big"
	"math/rand"
	"slices"
	"strings"
	"testing"
	"unsafe"

	"granary/api"
)

// notKinds are numbers that are no kind of a message, those among them that a narrower number would take for one.
var notKinds = []int{math.MinInt, -1 << 32, -256, -255, -2, -1, 0, 7, 8, 256, 257, 262, 1 << 16, 1<<32 + 1, 1<<32 + 6, 1 << 62, math.MaxInt}

// anyOffs are Offs at the edges of all that the chapter names, and far outside.
var anyOffs = []int{math.MinInt, math.MinInt + 8, -1 << 32, -257, -256, -9, -8, -7, -1, 0, 1, 2, 253, 254, 255, 256, 257, 503, 504, 505, 511, 512, 513, 1 << 16, 1 << 32, math.MaxInt - 8, math.MaxInt - 7, math.MaxInt}

// transactions are some numbers of transactions, 0 ahead of them.
var transactions = []uint64{0, 1, 7, 8, 7 + 1<<32, math.MaxUint64}

func times(s string, n int) string { return strings.Repeat(s, n) }

func put(txn uint64, s string) api.Msg { return api.Msg{Kind: api.MsgPut, Txn: txn, Val: s} }
func del(txn uint64) api.Msg           { return api.Msg{Kind: api.MsgDel, Txn: txn} }
func commit(txn uint64) api.Msg        { return api.Msg{Kind: api.MsgCommit, Txn: txn} }
func abort(txn uint64) api.Msg         { return api.Msg{Kind: api.MsgAbort, Txn: txn} }

func add(txn uint64, off int, n uint64) api.Msg {
	return api.Msg{Kind: api.MsgAdd, Txn: txn, Off: off, Num: n}
}

func grow(off int, s string) api.Msg { return api.Msg{Kind: api.MsgGrow, Off: off, Val: s} }

// of answers the message for this key.
func of(key string, m api.Msg) api.Msg {
	m.Key = key
	return m
}

// has answers the entry with a value committed.
func has(s string) api.Entry { return api.Entry{Key: "k", Has: true, Val: s} }

// none answers the entry with nothing in it but the key.
func none() api.Entry { return api.Entry{Key: "k"} }

// made answers the entry of which a transaction has made a value.
func made(e api.Entry, txn uint64, s string) api.Entry {
	e.Txn, e.New, e.NewVal = txn, true, s
	return e
}

// unmade answers the entry that a transaction has deleted.
func unmade(e api.Entry, txn uint64) api.Entry {
	e.Txn, e.New, e.NewVal = txn, false, ""
	return e
}

// tell answers an entry in a short form.
func tell(e api.Entry) string {
	return fmt.Sprintf("{%.20q %v %.30q, by %d: %v %.30q}", e.Key, e.Has, e.Val, e.Txn, e.New, e.NewVal)
}

// tellMsg answers a message in a short form.
func tellMsg(m api.Msg) string {
	return fmt.Sprintf("{seq %d kind %d %.20q by %d %.30q (%d bytes) %d %d}", m.Seq, m.Kind, m.Key, m.Txn, m.Val, len(m.Val), m.Off, m.Num)
}

// checks asks what Check answers.
func checks(t *testing.T, m api.Msg, want api.Errno) {
	t.Helper()
	if e := Check(m); e != want {
		t.Errorf("Check(%s): %d, want %d", tellMsg(m), e, want)
	}
}

// applies asks what Apply answers.
func applies(t *testing.T, e api.Entry, m api.Msg, want api.Entry) {
	t.Helper()
	if got := Apply(e, m); got != want {
		t.Errorf("Apply(%s, %s): %s, want %s", tell(e), tellMsg(m), tell(got), tell(want))
	}
}

// views asks what View answers.
func views(t *testing.T, e api.Entry, txn uint64, want string, there bool) {
	t.Helper()
	if s, ok := View(e, txn); s != want || ok != there {
		t.Errorf("View(%s, %d): %.30q, %v, want %.30q, %v", tell(e), txn, s, ok, want, there)
	}
}

// folds asks what Fold answers.
func folds(t *testing.T, e api.Entry, l []api.Msg, want api.Entry) {
	t.Helper()
	if got := Fold(e, l); got != want {
		s := ""
		for _, m := range l[:min(len(l), 9)] {
			s += tellMsg(m)
		}
		t.Errorf("Fold(%s, %d: %s): %s, want %s", tell(e), len(l), s, tell(got), tell(want))
	}
}

func TestExamples(t *testing.T) {
	// 1
	e := has("1")
	by7 := made(e, 7, "2")
	applies(t, e, put(7, "2"), by7)
	views(t, by7, 7, "2", true)
	views(t, by7, 8, "1", true)
	views(t, by7, 0, "1", true)
	applies(t, by7, put(8, "3"), by7)
	applies(t, by7, commit(7), has("2"))
	applies(t, by7, abort(7), has("1"))
	// 2
	gone := unmade(e, 7)
	applies(t, e, del(7), gone)
	views(t, gone, 7, "", false)
	views(t, gone, 0, "1", true)
	applies(t, gone, commit(7), none())
	if Gone(gone) || !Gone(Apply(gone, commit(7))) {
		t.Error("Gone")
	}
	// 3
	nine := "\x09" + times("\x00", 8)
	applies(t, has(nine), add(0, 1, 2), has("\x09"+times("\x00", 7)+"\x02"))
	applies(t, has(nine), add(0, 2, 2), has(nine))
	applies(t, has(nine), grow(9, "x"), has("\x0a"+times("\x00", 8)+"x"))
	applies(t, has(nine), grow(8, "x"), has(nine))
}

// P9.1

// rule says which fields a right message of a kind may have, its Key and Val not being too long.
type rule struct {
	off               int // from 0 up to this one
	num, val, key     bool
	txnZero, txnOther bool
}

// rules answers those of all kinds.
func rules() map[int]rule {
	return map[int]rule{
		1: {0, false, true, true, true, true},
		2: {0, false, false, true, true, true},
		3: {504, true, false, true, true, true},
		4: {254, false, true, false, true, false},
		5: {0, false, false, true, false, true},
		6: {0, false, false, true, false, true},
	}
}

// expected answers what Check should.
func expected(m api.Msg) api.Errno {
	r, ok := rules()[m.Kind]
	if !ok {
		return api.ErrArg
	}
	if len(m.Key) > 256 || len(m.Val) > 512 {
		return api.ErrBound
	}
	off := m.Off >= 0 && m.Off <= r.off
	rest := (m.Num == 0 || r.num) && (m.Val == "" || r.val) && (m.Key == "" || r.key)
	if txn := m.Txn == 0 && r.txnZero || m.Txn != 0 && r.txnOther; off && rest && txn {
		return api.OK
	}
	return api.ErrArg
}

func TestCheckOfAllFields(t *testing.T) {
	keys := []string{"", "\x00", "k", times("\xff", 256), times("k", 257), times("k", 1<<16)}
	vals := []string{"", "\x00", "v", times("\xff", 511), times("v", 512), times("v", 513), times("v", 1<<16)}
	kinds := append([]int{1, 2, 3, 4, 5, 6}, notKinds...)
	right := map[int]int{}
	for _, kind := range kinds {
		for _, key := range keys {
			for _, val := range vals {
				for _, off := range anyOffs {
					for _, txn := range []uint64{0, 1, 1 << 32, math.MaxUint64} {
						for _, num := range []uint64{0, 1, 1 << 32, math.MaxUint64} {
							m := api.Msg{Kind: kind, Key: key, Txn: txn, Val: val, Off: off, Num: num}
							checks(t, m, expected(m))
							if expected(m) == api.OK {
								right[kind]++
							}
						}
					}
				}
			}
		}
		if t.Failed() {
			return
		}
	}
	if len(right) != 6 {
		t.Errorf("right messages of each kind: %v", right)
	}
}

func TestCheckOfRightMessages(t *testing.T) {
	for _, txn := range transactions {
		for _, m := range []api.Msg{put(txn, ""), put(txn, "v"), put(txn, times("v", 512)), del(txn), add(txn, 0, 0), add(txn, 504, math.MaxUint64)} {
			checks(t, m, api.OK)
			checks(t, of("k", m), api.OK)
			checks(t, of(times("k", 256), m), api.OK)
			checks(t, of(times("k", 257), m), api.ErrBound)
		}
	}
	for _, m := range []api.Msg{commit(1), commit(math.MaxUint64), abort(1), abort(1 << 63)} {
		checks(t, m, api.OK)
		checks(t, of(times("k", 256), m), api.OK)
		checks(t, of(times("k", 257), m), api.ErrBound)
	}
	for off := range 255 {
		checks(t, grow(off, ""), api.OK)
		checks(t, grow(off, times("v", 512)), api.OK)
		checks(t, grow(off, times("v", 513)), api.ErrBound)
	}
	for off := range 505 {
		checks(t, add(0, off, 1), api.OK)
	}
}

func TestCheckTakesAnySeq(t *testing.T) {
	for _, seq := range []uint64{0, 1, 1 << 63, math.MaxUint64} {
		for _, m := range []api.Msg{put(7, "v"), del(0), add(7, 1, 1), grow(9, "v"), commit(7), abort(7)} {
			m.Seq = seq
			checks(t, m, api.OK)
		}
		for _, kind := range notKinds {
			checks(t, api.Msg{Seq: seq, Kind: kind}, api.ErrArg)
		}
	}
}

func TestCheckOfWrongMessages(t *testing.T) {
	for _, kind := range notKinds {
		// The kind is looked at ahead of the lengths.
		checks(t, api.Msg{Kind: kind, Key: times("k", 257), Val: times("v", 513)}, api.ErrArg)
	}
	// The lengths are looked at ahead of the fields.
	for _, m := range []api.Msg{del(0), add(0, 0, 1), grow(0, "v"), commit(1), abort(1)} {
		m.Val = times("v", 513)
		checks(t, m, api.ErrBound)
		m.Key = times("k", 257)
		checks(t, m, api.ErrBound)
		m.Val, m.Off = "", -1
		checks(t, m, api.ErrBound)
	}
	for _, m := range []api.Msg{
		{Kind: api.MsgPut, Off: 1}, {Kind: api.MsgPut, Num: 1}, {Kind: api.MsgDel, Off: -1}, {Kind: api.MsgDel, Num: 1}, {Kind: api.MsgDel, Val: "v"},
		add(0, -1, 1), add(0, 505, 1), {Kind: api.MsgAdd, Val: "v"}, grow(-1, "v"), grow(255, "v"), of("k", grow(0, "v")),
		{Kind: api.MsgGrow, Num: 1}, {Kind: api.MsgGrow, Txn: 1}, commit(0), abort(0),
		{Kind: api.MsgCommit, Txn: 1, Off: 1}, {Kind: api.MsgCommit, Txn: 1, Num: 1}, {Kind: api.MsgCommit, Txn: 1, Val: "v"},
		{Kind: api.MsgAbort, Txn: 1, Off: 1}, {Kind: api.MsgAbort, Txn: 1, Num: 1}, {Kind: api.MsgAbort, Txn: 1, Val: "v"},
	} {
		checks(t, m, api.ErrArg)
	}
}

// P9.2

func TestCommittedAtOnce(t *testing.T) {
	number := times("\x00", 7) + "\x05"
	for _, e := range []api.Entry{none(), has(""), has("1"), has(number)} {
		applies(t, e, put(0, "2"), has("2"))
		applies(t, e, put(0, ""), has(""))
		applies(t, e, del(0), none())
		// What a transaction has made of it stays.
		applies(t, made(e, 7, number), put(0, "2"), made(has("2"), 7, number))
		applies(t, made(e, 7, number), del(0), made(none(), 7, number))
		applies(t, unmade(e, 7), put(0, "2"), unmade(has("2"), 7))
		applies(t, unmade(e, 7), del(0), unmade(none(), 7))
	}
	applies(t, has(number), add(0, 0, 2), has(times("\x00", 7)+"\x07"))
	applies(t, made(has(number), 7, number), add(0, 0, 2), made(has(times("\x00", 7)+"\x07"), 7, number))
	applies(t, made(has("1"), 7, number), add(0, 0, 2), made(has("1"), 7, number))
	applies(t, unmade(has(number), 7), add(0, 0, 2), unmade(has(times("\x00", 7)+"\x07"), 7))
	applies(t, none(), add(0, 0, 2), none())
}

func TestFirstByATransaction(t *testing.T) {
	number := times("\x00", 7) + "\x05"
	for _, txn := range transactions[1:] {
		for _, e := range []api.Entry{none(), has(""), has("1"), has(number)} {
			applies(t, e, put(txn, "2"), made(e, txn, "2"))
			applies(t, e, put(txn, ""), made(e, txn, ""))
			applies(t, e, del(txn), unmade(e, txn))
		}
		// An Add begins with what is committed, and ties the entry even where it can change nothing.
		applies(t, has(number), add(txn, 0, 2), made(has(number), txn, times("\x00", 7)+"\x07"))
		applies(t, has(number), add(txn, 1, 2), made(has(number), txn, number))
		applies(t, has("1"), add(txn, 0, 2), made(has("1"), txn, "1"))
		applies(t, has(""), add(txn, 0, 2), made(has(""), txn, ""))
		applies(t, none(), add(txn, 0, 2), unmade(none(), txn))
		applies(t, has(number), add(txn, math.MaxInt, 2), made(has(number), txn, number))
	}
}

func TestAgainByTheTransaction(t *testing.T) {
	number := times("\x00", 7) + "\x05"
	for _, e := range []api.Entry{none(), has(""), has("1")} {
		applies(t, made(e, 7, "2"), put(7, "3"), made(e, 7, "3"))
		applies(t, made(e, 7, "2"), del(7), unmade(e, 7))
		applies(t, made(e, 7, number), add(7, 0, 2), made(e, 7, times("\x00", 7)+"\x07"))
		applies(t, made(e, 7, "2"), add(7, 0, 2), made(e, 7, "2"))
		applies(t, unmade(e, 7), put(7, "3"), made(e, 7, "3"))
		applies(t, unmade(e, 7), del(7), unmade(e, 7))
		applies(t, unmade(e, 7), add(7, 0, 2), unmade(e, 7))
	}
	// What is committed plays no part any more.
	applies(t, unmade(has(number), 7), add(7, 0, 2), unmade(has(number), 7))
	applies(t, made(has(number), 7, "2"), add(7, 0, 2), made(has(number), 7, "2"))
}

func TestByAnotherTransaction(t *testing.T) {
	number := times("\x00", 8)
	for _, own := range transactions[1:] {
		for _, other := range transactions[1:] {
			if other == own {
				continue
			}
			for _, e := range []api.Entry{made(has(number), own, number), unmade(has(number), own), made(none(), own, "2"), unmade(none(), own)} {
				for _, m := range []api.Msg{put(other, "3"), del(other), add(other, 0, 2), commit(other), abort(other)} {
					applies(t, e, m, e)
				}
			}
		}
	}
}

func TestGrow(t *testing.T) {
	for first := range 256 {
		s := string([]byte{byte(first)})
		after := string([]byte{byte((first + 1) % 256)})
		for _, tail := range []string{"", "\x00", "tail"} {
			applies(t, has(s+tail), grow(first, "x"), has(after+tail+"x"))
			applies(t, has(s+tail), grow(first, ""), has(after+tail))
			for _, off := range anyOffs {
				if off != first {
					applies(t, has(s+tail), grow(off, "x"), has(s+tail))
				}
			}
		}
	}
	for _, off := range anyOffs {
		applies(t, has(""), grow(off, "x"), has(""))
		applies(t, none(), grow(off, "x"), none())
	}
}

func TestGrowOfBothValues(t *testing.T) {
	applies(t, made(has("\x01a"), 7, "\x01b"), grow(1, "x"), made(has("\x02ax"), 7, "\x02bx"))
	applies(t, made(has("\x02a"), 7, "\x01b"), grow(1, "x"), made(has("\x02a"), 7, "\x02bx"))
	applies(t, made(has("\x01a"), 7, "\x02b"), grow(1, "x"), made(has("\x02ax"), 7, "\x02b"))
	applies(t, made(none(), 7, "\x01b"), grow(1, "x"), made(none(), 7, "\x02bx"))
	applies(t, unmade(has("\x01a"), 7), grow(1, "x"), unmade(has("\x02ax"), 7))
	applies(t, unmade(none(), 7), grow(1, "x"), unmade(none(), 7))
	// One of the two may be too long.
	applies(t, made(has("\x01"+times("a", 511)), 7, "\x01b"), grow(1, "x"), made(has("\x01"+times("a", 511)), 7, "\x02bx"))
	// Its Txn, which a right one hasn't got, plays no part.
	for _, txn := range transactions {
		m := grow(1, "x")
		m.Txn = txn
		applies(t, has("\x01a"), m, has("\x02ax"))
		applies(t, made(has("\x01a"), 7, "\x01b"), m, made(has("\x02ax"), 7, "\x02bx"))
	}
}

func TestGrowToTheFull(t *testing.T) {
	for size := 1; size <= 600; size++ {
		s := "\x01" + times("a", size-1)
		for _, more := range []int{0, 1, 2, 511 - size, 512 - size, 513 - size, 511, 512, 513} {
			if more < 0 {
				continue
			}
			want := s
			if size+more <= 512 {
				want = "\x02" + s[1:] + times("x", more)
			}
			applies(t, has(s), grow(1, times("x", more)), has(want))
			applies(t, made(none(), 7, s), grow(1, times("x", more)), made(none(), 7, want))
		}
	}
}

// sum answers a value in which a number was added to the one at off, by numbers without a bound.
func sum(s string, off int, n uint64) string {
	a := new(big.Int).SetBytes([]byte(s[off : off+8]))
	a.Add(a, new(big.Int).SetUint64(n))
	a.Mod(a, new(big.Int).Lsh(big.NewInt(1), 64))
	return s[:off] + string(a.FillBytes(make([]byte, 8))) + s[off+8:]
}

func TestAddIsModulo(t *testing.T) {
	numbers := []uint64{0, 1, 2, 255, 256, 1<<32 - 1, 1 << 32, 1<<63 - 1, 1 << 63, 0x0102030405060708, math.MaxUint64 - 1, math.MaxUint64}
	for _, a := range numbers {
		s := string(binary.BigEndian.AppendUint64([]byte("ab"), a)) + "c"
		for _, b := range numbers {
			want := string(binary.BigEndian.AppendUint64([]byte("ab"), a+b)) + "c"
			applies(t, has(s), add(0, 2, b), has(want))
			applies(t, has(s), add(7, 2, b), made(has(s), 7, want))
		}
	}
	applies(t, has(times("\xff", 8)), add(0, 0, 1), has(times("\x00", 8)))
	// The bytes around the number stay.
	applies(t, has(times("\xff", 10)), add(0, 1, 1), has("\xff"+times("\x00", 8)+"\xff"))
}

func TestAddAtAllPlaces(t *testing.T) {
	for size := range 40 {
		s := times("\xfe\x01\x80", 14)[:size]
		for off := range 45 {
			want := s
			if off+8 <= size {
				want = sum(s, off, 0x8000_0000_0000_ff02)
			}
			applies(t, has(s), add(0, off, 0x8000_0000_0000_ff02), has(want))
			applies(t, made(has("1"), 7, s), add(7, off, 0x8000_0000_0000_ff02), made(has("1"), 7, want))
		}
	}
	long := times("abc", 171)[:512]
	for _, off := range []int{0, 1, 503, 504} {
		applies(t, has(long), add(0, off, 3), has(sum(long, off, 3)))
	}
	for _, off := range []int{505, 511, 512, 513, 1 << 32, math.MaxInt - 8, math.MaxInt - 7, math.MaxInt} {
		applies(t, has(long), add(0, off, 3), has(long))
	}
	// A value that is too long for a tree is one all the same, and so is an Add at a place that Check doesn't let pass.
	longer := times("abc", 400)
	applies(t, has(longer), add(0, 1192, 3), has(sum(longer, 1192, 3)))
	applies(t, has(longer), add(0, 1193, 3), has(longer))
}

func TestAddAheadOfAllBytes(t *testing.T) {
	s := times("\x01", 20)
	for _, off := range anyOffs {
		if off >= 0 {
			continue
		}
		for _, txn := range transactions {
			// Nothing: the entry isn't tied to the transaction either.
			for _, e := range []api.Entry{none(), has(s), made(has(s), 7, s), unmade(has(s), 7), made(none(), 7, s)} {
				applies(t, e, add(txn, off, 1), e)
			}
		}
	}
}

func TestCommit(t *testing.T) {
	for _, txn := range transactions[1:] {
		for _, e := range []api.Entry{none(), has(""), has("1")} {
			applies(t, made(e, txn, "2"), commit(txn), has("2"))
			applies(t, made(e, txn, ""), commit(txn), has(""))
			applies(t, unmade(e, txn), commit(txn), none())
			applies(t, made(e, txn, "2"), abort(txn), e)
			applies(t, unmade(e, txn), abort(txn), e)
			// Nothing was made of it.
			applies(t, e, commit(txn), e)
			applies(t, e, abort(txn), e)
		}
	}
	// A transaction 0 has made nothing, and ends nothing.
	for _, e := range []api.Entry{none(), has(""), has("1"), made(has("1"), 7, "2"), unmade(has("1"), 7)} {
		applies(t, e, commit(0), e)
		applies(t, e, abort(0), e)
	}
}

func TestApplyOfNoKind(t *testing.T) {
	for _, kind := range notKinds {
		for _, txn := range transactions {
			for _, e := range []api.Entry{none(), has("\x01a"), made(has("\x01a"), 7, "\x01b"), unmade(has("\x01a"), 7)} {
				applies(t, e, api.Msg{Kind: kind, Key: "k", Txn: txn, Val: "x", Off: 1, Num: 1}, e)
			}
		}
	}
}

func TestApplyLooksAtNoKey(t *testing.T) {
	for _, key := range []string{"", "k", "l", times("k", 257)} {
		for _, m := range messages() {
			e := has("\x01" + times("\x00", 8))
			e.Key = key
			want := Apply(e, m)
			if want.Key != key {
				t.Errorf("Apply(%s, %s): the key %.20q", tell(e), tellMsg(m), want.Key)
			}
			for _, other := range []string{"", "k", "m", times("m", 300)} {
				applies(t, e, of(other, m), want)
			}
		}
	}
}

func TestApplyPutsRight(t *testing.T) {
	wrong := api.Entry{Key: "k", Val: "a", New: true, NewVal: "b"}
	for _, m := range []api.Msg{{}, {Kind: 7}, add(7, -1, 1), del(0), commit(0), commit(7), abort(7), grow(97, "x"), grow(98, "x"), add(0, 0, 1)} {
		applies(t, wrong, m, none())
	}
	applies(t, wrong, put(0, "2"), has("2"))
	applies(t, wrong, put(7, "2"), made(none(), 7, "2"))
	applies(t, wrong, del(7), unmade(none(), 7))
	// What stands there without a meaning isn't a value that could be added to.
	wrong.Val, wrong.NewVal = times("\x00", 8), times("\x00", 8)
	applies(t, wrong, add(7, 0, 1), unmade(none(), 7))
	wrong.Txn, wrong.New = 7, false
	applies(t, wrong, add(7, 0, 1), unmade(none(), 7))
	applies(t, wrong, commit(7), none())
	applies(t, wrong, grow(0, "x"), unmade(none(), 7))
	wrong.Has = true
	applies(t, wrong, add(7, 0, 1), unmade(has(times("\x00", 8)), 7))
	applies(t, wrong, commit(7), none())
	applies(t, wrong, abort(7), has(times("\x00", 8)))
}

// plain is an entry told more plainly: a value that isn't there is nil.
type plain struct {
	key             string
	committed, made *string
	txn             uint64
}

// plainOf answers what an entry says.
func plainOf(e api.Entry) plain {
	p := plain{key: e.Key, txn: e.Txn}
	if e.Has {
		p.committed = &e.Val
	}
	if e.Txn != 0 && e.New {
		p.made = &e.NewVal
	}
	return p
}

// entry answers the right entry that says it.
func (p plain) entry() api.Entry {
	e := api.Entry{Key: p.key, Txn: p.txn}
	if p.committed != nil {
		e.Has, e.Val = true, *p.committed
	}
	if p.made != nil {
		e.New, e.NewVal = true, *p.made
	}
	return e
}

// makes answers what a message makes of a value, by the table of the chapter.
func makes(v *string, m api.Msg) *string {
	switch {
	case m.Kind == 1:
		return &m.Val
	case m.Kind == 2 || v == nil:
		return nil
	case m.Kind == 3 && m.Off >= 0 && len(*v) >= 8 && m.Off <= len(*v)-8:
		s := sum(*v, m.Off, m.Num)
		return &s
	case m.Kind == 4 && *v != "" && m.Off == int((*v)[0]) && len(*v+m.Val) <= 512:
		b := append([]byte(*v), m.Val...)
		b[0] = byte(m.Off + 1)
		s := string(b)
		return &s
	}
	return v
}

// model answers what Apply should, sentence by sentence.
func model(e api.Entry, m api.Msg) api.Entry {
	p := plainOf(e)
	if m.Kind < 1 || m.Kind > 6 || m.Kind == 3 && m.Off < 0 {
		return p.entry()
	}
	if m.Kind == 4 {
		p.committed = makes(p.committed, m)
		if p.txn != 0 {
			p.made = makes(p.made, m)
		}
		return p.entry()
	}
	if m.Kind >= 5 {
		if p.txn != m.Txn || m.Txn == 0 {
			return p.entry()
		}
		if m.Kind == 5 {
			p.committed = p.made
		}
		p.made, p.txn = nil, 0
		return p.entry()
	}
	if m.Txn == 0 {
		p.committed = makes(p.committed, m)
		return p.entry()
	}
	if p.txn == 0 {
		p.made, p.txn = p.committed, m.Txn
	}
	if p.txn == m.Txn {
		p.made = makes(p.made, m)
	}
	return p.entry()
}

// entries answers entries of all forms, right ones and others.
func entries() []api.Entry {
	vals := []string{"", "\x01", "\x02a", "\x01" + times("\xff", 7), "\x02" + times("\x00", 8), "\xff" + times("b", 510), "\x01" + times("a", 511), "\x01" + times("a", 599)}
	var l []api.Entry
	for _, there := range []bool{false, true} {
		for _, val := range vals {
			for _, txn := range []uint64{0, 7, 8} {
				for _, newer := range []bool{false, true} {
					for _, newVal := range vals {
						l = append(l, api.Entry{Key: "k", Has: there, Val: val, Txn: txn, New: newer, NewVal: newVal})
					}
				}
			}
		}
	}
	return l
}

// messages answers messages of all kinds, right ones and others.
func messages() []api.Msg {
	var l []api.Msg
	for _, kind := range []int{-1, 0, 1, 2, 3, 4, 5, 6, 7, 257} {
		for _, txn := range []uint64{0, 7, 9} {
			for _, off := range []int{math.MinInt, -8, -1, 0, 1, 2, 255, 256, 257, 504, math.MaxInt - 7, math.MaxInt} {
				for _, val := range []string{"", "x", times("x", 513)} {
					l = append(l, api.Msg{Seq: 3, Kind: kind, Key: "k", Txn: txn, Val: val, Off: off, Num: 1<<63 + 1})
				}
			}
		}
	}
	return l
}

func TestApplyOfAnyEntryAndMessage(t *testing.T) {
	all := messages()
	for _, e := range entries() {
		for _, m := range all {
			applies(t, e, m, model(e, m))
		}
		if t.Failed() {
			return
		}
	}
}

// P9.3

func TestGone(t *testing.T) {
	for _, e := range entries() {
		if want := !e.Has && e.Txn == 0; Gone(e) != want {
			t.Errorf("Gone(%s): %v", tell(e), !want)
		}
	}
	for _, txn := range transactions[1:] {
		if Gone(unmade(none(), txn)) || Gone(made(none(), txn, "")) || Gone(unmade(has(""), txn)) {
			t.Errorf("gone, though by %d", txn)
		}
	}
	if !Gone(api.Entry{}) || !Gone(none()) || Gone(has("")) {
		t.Error("Gone")
	}
}

func TestViews(t *testing.T) {
	for _, by := range transactions[1:] {
		for _, txn := range transactions {
			e := made(has("1"), by, "2")
			f := unmade(has("1"), by)
			g := made(none(), by, "2")
			if txn == by {
				views(t, e, txn, "2", true)
				views(t, f, txn, "", false)
				views(t, g, txn, "2", true)
				views(t, made(has("1"), by, ""), txn, "", true)
			} else {
				views(t, e, txn, "1", true)
				views(t, f, txn, "1", true)
				views(t, g, txn, "", false)
			}
			views(t, unmade(none(), by), txn, "", false)
		}
	}
	for _, txn := range transactions {
		views(t, has("1"), txn, "1", true)
		views(t, has(""), txn, "", true)
		views(t, none(), txn, "", false)
	}
}

func TestViewsOfAnyEntry(t *testing.T) {
	for _, e := range entries() {
		for _, txn := range transactions {
			p := plainOf(e)
			v := p.committed
			if txn != 0 && txn == e.Txn {
				v = p.made
			}
			if v == nil {
				views(t, e, txn, "", false)
			} else {
				views(t, e, txn, *v, true)
			}
		}
	}
}

// P9.4

func TestFold(t *testing.T) {
	l := []api.Msg{
		of("k", put(0, "\x01a")), of("j", put(0, "\x05")), of("k", put(7, "\x01b")), grow(1, "x"), of("k\x00", del(7)), of("", del(0)), of("k", put(8, "c")),
		of("k", commit(7)), of("K", abort(7)), of("k", add(0, 0, 1)), grow(2, "y"),
	}
	for n, want := range []api.Entry{
		none(), has("\x01a"), has("\x01a"), made(has("\x01a"), 7, "\x01b"), made(has("\x02ax"), 7, "\x02bx"), made(has("\x02ax"), 7, "\x02bx"),
		made(has("\x02ax"), 7, "\x02bx"), made(has("\x02ax"), 7, "\x02bx"), has("\x02bx"), has("\x02bx"), has("\x02bx"), has("\x03bxy"),
	} {
		folds(t, none(), l[:n], want)
	}
	folds(t, has("1"), nil, has("1"))
	folds(t, api.Entry{}, []api.Msg{put(0, "2")}, api.Entry{Has: true, Val: "2"})
	// The order is the list's, not that of the Seqs.
	first, second := of("k", put(0, "1")), of("k", put(0, "2"))
	first.Seq, second.Seq = 9, 8
	folds(t, none(), []api.Msg{first, second}, has("2"))
}

func TestFoldOfGrowsForAllKeys(t *testing.T) {
	// A Grow is for each key, whatever stands in it.
	for _, key := range []string{"", "k", "l", times("k", 300)} {
		folds(t, has("\x01a"), []api.Msg{of(key, grow(1, "x"))}, has("\x02ax"))
	}
	for _, kind := range append([]int{1, 2, 3, 5, 6}, notKinds...) {
		for _, key := range []string{"", "j", "K", "k\x00", "kk", times("k", 300)} {
			for _, txn := range []uint64{0, 7, 8} {
				e := made(has("\x01"+times("a", 8)), 7, "\x01"+times("b", 8))
				folds(t, e, []api.Msg{{Kind: kind, Key: key, Txn: txn, Off: 1, Num: 1}}, e)
			}
		}
	}
}

func TestFoldOfNoMessage(t *testing.T) {
	for _, e := range entries() {
		folds(t, e, nil, e)
		folds(t, e, []api.Msg{of("j", put(0, "2")), of("", del(7))}, e)
		// One that does nothing to any value puts the entry right all the same.
		folds(t, e, []api.Msg{{Key: "k"}}, model(e, api.Msg{}))
	}
}

// chance answers any message, mostly a right one, for one of three keys.
func chance(r *rand.Rand) api.Msg {
	key := []string{"", "k", "l"}[r.Intn(3)]
	txn := []uint64{0, 7, 8, 9}[r.Intn(4)]
	m := []api.Msg{
		put(txn, "\x01"+times("a", r.Intn(20))), put(txn, times("\xff", r.Intn(20))), del(txn), add(txn, r.Intn(6), r.Uint64()), add(txn, r.Intn(6)-3, 1),
		grow(r.Intn(5), times("g", r.Intn(200))), commit(txn), abort(txn), {Kind: r.Intn(9) - 1, Txn: txn, Off: r.Intn(3), Num: 1},
	}[r.Intn(9)]
	return of(key, m)
}

func TestFoldIsApplyStepByStep(t *testing.T) {
	r := rand.New(rand.NewSource(9))
	for range 3000 {
		var l []api.Msg
		want := map[string]api.Entry{"": {}, "k": {Key: "k"}, "l": {Key: "l"}}
		for range r.Intn(60) {
			m := chance(r)
			l = append(l, m)
			for key, e := range want {
				if m.Kind == 4 || m.Key == key {
					want[key] = model(e, m)
				}
			}
		}
		for key, e := range want {
			folds(t, api.Entry{Key: key}, l, e)
			// Half of the messages first, and the others of what they made.
			half := Fold(api.Entry{Key: key}, l[:len(l)/2])
			folds(t, half, l[len(l)/2:], e)
		}
		if t.Failed() {
			return
		}
	}
}

// P9.5

// writes answers messages of a transaction, without its end.
func writes(txn uint64) []api.Msg {
	return []api.Msg{
		of("k", put(txn, "\x01"+times("a", 7))), of("k", put(txn, "")), of("k", del(txn)), of("k", add(txn, 0, math.MaxUint64)), of("k", add(txn, 1, 1)),
		of("k", add(txn, -1, 1)), of("j", put(txn, "j")),
	}
}

// runs answers all lists of at most so many of these messages.
func runs(l []api.Msg, most int) [][]api.Msg {
	all := [][]api.Msg{nil}
	for from := 0; most > 0; most-- {
		to := len(all)
		for _, ahead := range all[from:to] {
			for _, m := range l {
				all = append(all, append(slices.Clone(ahead), m))
			}
		}
		from = to
	}
	return all
}

// untouched answers entries that no transaction has in hand.
func untouched() []api.Entry {
	return []api.Entry{none(), has(""), has("\x01"), has("\x01" + times("\x00", 7)), has("\x02" + times("\xff", 8)), has("\x01" + times("a", 511))}
}

func TestNothingIsLeftBehindAnAbort(t *testing.T) {
	for _, e := range untouched() {
		for _, l := range runs(writes(7), 4) {
			folds(t, e, append(slices.Clone(l), of("k", abort(7))), e)
		}
	}
}

func TestACommitIsAsDoneAtOnce(t *testing.T) {
	by7, by0 := runs(writes(7), 4), runs(writes(0), 4)
	for _, e := range untouched() {
		for at, l := range by7 {
			folds(t, e, append(slices.Clone(l), of("k", commit(7))), Fold(e, by0[at]))
		}
	}
}

func TestOthersAroundATransaction(t *testing.T) {
	ahead := [][]api.Msg{nil, {of("k", put(0, "\x01"))}, {of("k", put(8, "\x01"+times("b", 9))), of("k", commit(8))}, {of("k", put(8, "b")), of("k", abort(8))}}
	behind := [][]api.Msg{nil, {of("k", put(8, "\x01"))}, {of("k", add(8, 0, 5)), grow(1, "y"), of("k", commit(8))}, {of("k", del(0)), of("k", put(9, "c"))}}
	by7, by0 := runs(writes(7), 3), runs(writes(0), 3)
	for _, e := range untouched() {
		for _, first := range ahead {
			for _, last := range behind {
				alone := Fold(e, slices.Concat(first, last))
				for at, l := range by7 {
					folds(t, e, slices.Concat(first, l, []api.Msg{of("k", abort(7))}, last), alone)
					folds(t, e, slices.Concat(first, l, []api.Msg{of("k", commit(7))}, last), Fold(e, slices.Concat(first, by0[at], last)))
				}
			}
		}
	}
}

func TestOthersWithinATransaction(t *testing.T) {
	// What another one would write meanwhile does nothing, its end neither; what is done for other keys plays no part.
	between := []api.Msg{of("k", put(8, "c")), of("k", del(9)), of("k", add(8, 0, 1)), of("k", commit(8)), of("k", abort(9)), of("j", put(0, "j")), of("j", abort(7))}
	for _, e := range untouched() {
		for _, m := range writes(7)[:5] {
			for _, n := range writes(7) {
				for _, other := range between {
					l := []api.Msg{m, other, n}
					folds(t, e, append(l, of("k", abort(7))), e)
					folds(t, e, append(l, of("k", commit(7))), Fold(e, []api.Msg{m, n, of("k", commit(7))}))
				}
			}
		}
	}
	// A Grow is for both values, so it stays behind either end.
	e := has("\x01a")
	l := []api.Msg{of("k", put(7, "\x01b")), grow(1, "x")}
	folds(t, e, append(l, of("k", abort(7))), has("\x02ax"))
	folds(t, e, append(l, of("k", commit(7))), has("\x02bx"))
}

// What is handed in, and what is answered

func TestArgumentsStay(t *testing.T) {
	l := append(runs(writes(7), 1)[1], of("k", grow(0, "x")), of("k", commit(7)), of("k", put(0, "2")))
	were := slices.Clone(l)
	Fold(has("1"), l[:2])
	if !slices.Equal(l, were) {
		t.Error("a list was changed")
	}
}

// sharing tells whether two texts have bytes in common.
func sharing(a, b string) bool {
	if a == "" || b == "" {
		return false
	}
	return unsafe.StringData(a) == unsafe.StringData(b)
}

func TestAnswersAreNewMemory(t *testing.T) {
	for _, e := range entries() {
		old := []string{e.Key, e.Val, e.NewVal}
		for _, m := range []api.Msg{{}, put(0, "2"), put(7, "2"), del(7), add(7, 0, 1), grow(2, ""), commit(7), abort(7)} {
			m.Key = "k"
			handed := append(old, m.Key, m.Val)
			var answered []string
			for _, a := range []api.Entry{Apply(e, m), Fold(e, []api.Msg{m}), Fold(e, nil)} {
				answered = append(answered, a.Key, a.Val, a.NewVal)
			}
			seen, _ := View(e, m.Txn)
			for _, a := range append(answered, seen) {
				if slices.ContainsFunc(handed, func(h string) bool { return sharing(a, h) }) {
					t.Fatalf("%s, %s: an answer shares memory", tell(e), tellMsg(m))
				}
			}
			if sharing(answered[1], answered[2]) {
				t.Fatalf("%s, %s: two parts of an answer share memory", tell(e), tellMsg(m))
			}
		}
	}
}
