package node

import (
	"bytes"
	"encoding/binary"
	"fmt"
	"math"
	"math/rand"
	"slices"
	"strings"
	"testing"

	"granary/api"
	"granary/msg"
)

func times(s string, n int) string { return strings.Repeat(s, n) }

// name answers the key number n; they rise.
func name(n int) string { return fmt.Sprintf("k%05d", n) }

// leaf answers the leaf with these entries.
func leaf(l ...api.Entry) api.Node { return api.Node{Leaf: true, Entries: l} }

// inner answers the inner node with the kids 1, 2 and so on and these pivots, for whose first kids these messages wait.
func inner(pivots []string, bufs ...[]api.Msg) api.Node {
	n := api.Node{Pivots: pivots, Bufs: make([][]api.Msg, len(pivots)+1)}
	copy(n.Bufs, bufs)
	for at := range n.Bufs {
		n.Kids = append(n.Kids, uint64(at+1))
	}
	return n
}

// has answers the entry with a value committed.
func has(key, val string) api.Entry { return api.Entry{Key: key, Has: true, Val: val} }

// made answers the entry of which a transaction has made a value.
func made(e api.Entry, txn uint64, val string) api.Entry {
	e.Txn, e.New, e.NewVal = txn, true, val
	return e
}

// unmade answers the entry that a transaction has deleted.
func unmade(e api.Entry, txn uint64) api.Entry {
	e.Txn = txn
	return e
}

func put(seq uint64, key, val string) api.Msg {
	return api.Msg{Seq: seq, Kind: api.MsgPut, Key: key, Val: val}
}

func grow(seq uint64) api.Msg { return api.Msg{Seq: seq, Kind: api.MsgGrow, Off: 3, Val: "g"} }

// puts answers count messages for a key.
func puts(key string, count int) []api.Msg {
	var l []api.Msg
	for at := range count {
		l = append(l, put(uint64(at), key, ""))
	}
	return l
}

// names answers so many keys that rise.
func names(count int) []string {
	var l []string
	for at := range count {
		l = append(l, name(at))
	}
	return l
}

// full answers so many entries that rise.
func full(count int) []api.Entry {
	var l []api.Entry
	for at := range count {
		l = append(l, has(name(at), "v"))
	}
	return l
}

// tell answers a node in a short form.
func tell(n api.Node) string {
	s := fmt.Sprintf("{leaf %v, %d entries, %d pivots, %d kids, %d bufs:", n.Leaf, len(n.Entries), len(n.Pivots), len(n.Kids), len(n.Bufs))
	for _, e := range n.Entries[:min(len(n.Entries), 4)] {
		s += fmt.Sprintf(" {%.20q (%d) %v %.20q (%d), by %d: %v %.20q (%d)}", e.Key, len(e.Key), e.Has, e.Val, len(e.Val), e.Txn, e.New, e.NewVal, len(e.NewVal))
	}
	for _, p := range n.Pivots[:min(len(n.Pivots), 4)] {
		s += fmt.Sprintf(" %.20q (%d)", p, len(p))
	}
	s += fmt.Sprint(" ", n.Kids[:min(len(n.Kids), 4)])
	for _, buf := range n.Bufs[:min(len(n.Bufs), 4)] {
		s += fmt.Sprintf(" [%d:", len(buf))
		for _, m := range buf[:min(len(buf), 4)] {
			s += fmt.Sprintf(" {%d: %d %.20q (%d) by %d %.20q (%d) %d %d}", m.Seq, m.Kind, m.Key, len(m.Key), m.Txn, m.Val, len(m.Val), m.Off, m.Num)
		}
		s += "]"
	}
	return s + "}"
}

// same tells whether two nodes are the same; a list that is nil is an empty one.
func same(a, b api.Node) bool {
	return a.Leaf == b.Leaf && slices.Equal(a.Entries, b.Entries) && slices.Equal(a.Pivots, b.Pivots) && slices.Equal(a.Kids, b.Kids) && slices.EqualFunc(a.Bufs, b.Bufs, slices.Equal)
}

// model tells what Right should, sentence by sentence.
func model(n api.Node) bool {
	if n.Leaf {
		ok := len(n.Pivots) == 0 && len(n.Kids) == 0 && len(n.Bufs) == 0 && len(n.Entries) <= 255
		for at, e := range n.Entries {
			ok = ok && len(e.Key) <= 256 && len(e.Val) <= 512 && len(e.NewVal) <= 512
			ok = ok && (e.Has || e.Val == "") && (e.Txn != 0 || !e.New) && (e.New || e.NewVal == "") && (e.Has || e.Txn != 0)
			ok = ok && (at == 0 || strings.Compare(n.Entries[at-1].Key, e.Key) < 0)
		}
		return ok
	}
	ok := len(n.Entries) == 0 && len(n.Kids) >= 1 && len(n.Kids) <= 64 && len(n.Pivots)+1 == len(n.Kids) && len(n.Bufs) == len(n.Kids)
	for _, kid := range n.Kids {
		ok = ok && kid != 0
	}
	for at, p := range n.Pivots {
		ok = ok && len(p) <= 256 && (at == 0 || strings.Compare(n.Pivots[at-1], p) < 0)
	}
	waiting := 0
	for kid, buf := range n.Bufs {
		for at, m := range buf {
			waiting++
			ok = ok && msg.Check(m) == api.OK && (at == 0 || buf[at-1].Seq < m.Seq) && waiting <= 1024
			// Between the pivots around its kid, the one ahead of it being in.
			if ok && m.Kind != 4 {
				ok = (kid == 0 || m.Key >= n.Pivots[kid-1]) && (kid == len(n.Pivots) || m.Key < n.Pivots[kid])
			}
		}
	}
	return ok
}

// textBytes answers a text as it is laid.
func textBytes(b []byte, s string) []byte {
	return append(binary.BigEndian.AppendUint16(b, uint16(len(s))), s...)
}

// flagByte answers a flag as it is laid.
func flagByte(b []byte, x bool) []byte {
	if x {
		return append(b, 1)
	}
	return append(b, 0)
}

// lay answers the bytes of any node, as the chapter has them; they may say nothing, if it isn't right.
func lay(n api.Node) []byte {
	b := flagByte(nil, n.Leaf)
	if n.Leaf {
		b = binary.BigEndian.AppendUint16(b, uint16(len(n.Entries)))
		for _, e := range n.Entries {
			b = textBytes(flagByte(textBytes(b, e.Key), e.Has), e.Val)
			b = textBytes(flagByte(binary.BigEndian.AppendUint64(b, e.Txn), e.New), e.NewVal)
		}
		return b
	}
	b = binary.BigEndian.AppendUint16(b, uint16(len(n.Kids)))
	for _, kid := range n.Kids {
		b = binary.BigEndian.AppendUint64(b, kid)
	}
	for _, p := range n.Pivots {
		b = textBytes(b, p)
	}
	for _, buf := range n.Bufs {
		b = binary.BigEndian.AppendUint16(b, uint16(len(buf)))
		for _, m := range buf {
			b = append(binary.BigEndian.AppendUint64(b, m.Seq), byte(m.Kind))
			b = textBytes(binary.BigEndian.AppendUint64(textBytes(b, m.Key), m.Txn), m.Val)
			b = binary.BigEndian.AppendUint64(binary.BigEndian.AppendUint16(b, uint16(m.Off)), m.Num)
		}
	}
	return b
}

// reader reads bytes from the front on; missing: some weren't there, or a flag was none.
type reader struct {
	b       []byte
	missing bool
}

func (r *reader) next(n int) []byte {
	if r.missing || n > len(r.b) {
		r.missing = true
		return make([]byte, 8)
	}
	b := r.b[:n]
	r.b = r.b[n:]
	return b
}

func (r *reader) one() int      { return int(r.next(1)[0]) }
func (r *reader) two() int      { return int(binary.BigEndian.Uint16(r.next(2))) }
func (r *reader) eight() uint64 { return binary.BigEndian.Uint64(r.next(8)) }
func (r *reader) text() string  { return string(r.next(r.two())) }

func (r *reader) flag() bool {
	x := r.one()
	r.missing = r.missing || x > 1
	return x == 1
}

// read answers the node, right or not, that all of these bytes say; false: they say none.
func read(b []byte) (api.Node, bool) {
	r := &reader{b: b}
	n := api.Node{Leaf: r.flag()}
	count := r.two()
	if n.Leaf {
		for at := 0; at < count && !r.missing; at++ {
			var e api.Entry
			e.Key = r.text()
			e.Has = r.flag()
			e.Val = r.text()
			e.Txn = r.eight()
			e.New = r.flag()
			e.NewVal = r.text()
			n.Entries = append(n.Entries, e)
		}
		return n, !r.missing && len(r.b) == 0
	}
	for at := 0; at < count && !r.missing; at++ {
		n.Kids = append(n.Kids, r.eight())
	}
	for at := 1; at < count && !r.missing; at++ {
		n.Pivots = append(n.Pivots, r.text())
	}
	for at := 0; at < count && !r.missing; at++ {
		var buf []api.Msg
		for left := r.two(); left > 0 && !r.missing; left-- {
			var m api.Msg
			m.Seq = r.eight()
			m.Kind = r.one()
			m.Key = r.text()
			m.Txn = r.eight()
			m.Val = r.text()
			m.Off = r.two()
			m.Num = r.eight()
			buf = append(buf, m)
		}
		n.Bufs = append(n.Bufs, buf)
	}
	return n, !r.missing && len(r.b) == 0
}

// isRight asks what Right answers, and that Encode says the same.
func isRight(t *testing.T, n api.Node, want bool) {
	t.Helper()
	if Right(n) != want {
		t.Errorf("Right(%s): %v", tell(n), !want)
	}
	if _, errno := Encode(n); (errno != api.ErrArg) != want {
		t.Errorf("Encode(%s): %d", tell(n), errno)
	}
}

// routes asks what Route answers.
func routes(t *testing.T, n api.Node, key string, want int) {
	t.Helper()
	if kid := Route(n, key); kid != want {
		t.Errorf("Route(%s, %.20q): %d, want %d", tell(n), key, kid, want)
	}
}

// encodes asks for these bytes, or for an error without bytes.
func encodes(t *testing.T, n api.Node, want []byte, errno api.Errno) {
	t.Helper()
	if b, e := Encode(n); !bytes.Equal(b, want) || e != errno {
		t.Errorf("Encode(%s): %.60x (%d), %d, want %.60x (%d), %d", tell(n), b, len(b), e, want, len(want), errno)
	}
}

// decodes asks for this node, or for an error without a node.
func decodes(t *testing.T, b []byte, want api.Node, errno api.Errno) {
	t.Helper()
	if n, e := Decode(b); !same(n, want) || e != errno {
		t.Errorf("Decode(%.60x (%d)): %s, %d, want %s, %d", b, len(b), tell(n), e, tell(want), errno)
	}
}

// isBad asks Decode to refuse bytes.
func isBad(t *testing.T, b []byte) {
	t.Helper()
	decodes(t, b, api.Node{}, api.ErrBad)
}

// decodesAsRead asks Decode for what a plainer reader makes of the bytes, and whether it was a right node.
func decodesAsRead(t *testing.T, b []byte) bool {
	t.Helper()
	n, ok := read(b)
	if ok = ok && len(b) <= 32768 && model(n); !ok {
		isBad(t, b)
		return false
	}
	decodes(t, b, n, api.OK)
	encodes(t, n, b, api.OK)
	return true
}

func TestExamples(t *testing.T) {
	// 1
	encodes(t, leaf(), []byte{1, 0, 0}, api.OK)
	decodes(t, []byte{1, 0, 0}, leaf(), api.OK)
	one := []byte{1, 0, 1, 0, 1, 'k', 1, 0, 1, 'v', 0, 0, 0, 0, 0, 0, 0, 0, 0, 0, 0}
	encodes(t, leaf(has("k", "v")), one, api.OK)
	decodes(t, one, leaf(has("k", "v")), api.OK)
	// 2
	n := api.Node{Kids: []uint64{5, 6}, Pivots: []string{"m"}, Bufs: [][]api.Msg{{}, {}}}
	two := []byte{0, 0, 2, 0, 0, 0, 0, 0, 0, 0, 5, 0, 0, 0, 0, 0, 0, 0, 6, 0, 1, 'm', 0, 0, 0, 0}
	encodes(t, n, two, api.OK)
	decodes(t, two, n, api.OK)
	routes(t, n, "l", 0)
	routes(t, n, "m", 1)
	// 3
	isRight(t, leaf(has("b", ""), has("a", "")), false)
	isRight(t, leaf(api.Entry{Key: "k"}), false)
	n.Bufs = [][]api.Msg{{put(1, "z", "")}, {}}
	isRight(t, n, false)
	n.Bufs = [][]api.Msg{{}, {put(1, "z", "")}}
	isRight(t, n, true)
	n.Kids = []uint64{5, 0}
	isRight(t, n, false)
}

// P10.1: Right, of leaves

func TestLeavesWithAnyEntry(t *testing.T) {
	vals := []string{"", "\x00", "v", times("v", 511), times("v", 512), times("v", 513), times("v", 1<<16)}
	right, all := 0, 0
	for _, key := range []string{"", "\x00", "k", times("\xff", 255), times("k", 256), times("k", 257), times("k", 1<<16)} {
		for _, there := range []bool{false, true} {
			for _, val := range vals {
				for _, txn := range []uint64{0, 1, 1 << 32, math.MaxUint64} {
					for _, newer := range []bool{false, true} {
						for _, newVal := range vals {
							n := leaf(api.Entry{Key: key, Has: there, Val: val, Txn: txn, New: newer, NewVal: newVal})
							isRight(t, n, model(n))
							all++
							if model(n) {
								right++
							}
						}
					}
				}
			}
		}
	}
	// With each of five keys: one of five values or none is committed, and one of three transactions has made one of five or none of it; or none has, and one of five is committed.
	if all != 7*2*7*4*2*7 || right != 5*(6*3*6+5) {
		t.Errorf("%d right of %d", right, all)
	}
}

// rightEntries are entries with this key that may stand in a leaf.
func rightEntries(key string) []api.Entry {
	none := api.Entry{Key: key}
	return []api.Entry{
		has(key, ""), has(key, "v"), has(key, times("\xff", 512)),
		unmade(has(key, ""), 1), unmade(has(key, "v"), 7), unmade(none, 7), unmade(none, math.MaxUint64),
		made(has(key, ""), 7, ""), made(has(key, "v"), 7, "w"), made(has(key, times("v", 512)), 1<<63, times("w", 512)), made(none, 7, ""), made(none, 1, times("w", 512)),
	}
}

// wrongEntries are entries with this key that may not, for one reason each.
func wrongEntries(key string) []api.Entry {
	none := api.Entry{Key: key}
	valWithoutHas := unmade(none, 7)
	valWithoutHas.Val = "v"
	newWithoutTxn := has(key, "v")
	newWithoutTxn.New = true
	newValWithoutNew := unmade(has(key, "v"), 7)
	newValWithoutNew.NewVal = "w"
	return []api.Entry{
		none, valWithoutHas, newWithoutTxn, newValWithoutNew,
		has(key, times("v", 513)), made(none, 7, times("w", 513)), made(has(key, ""), 7, times("w", 513)), has(key, times("v", 1<<16)), made(none, 7, times("w", 1<<16+1)),
	}
}

func TestLeavesOfSeveralEntries(t *testing.T) {
	for place := range 3 {
		with := func(e api.Entry) api.Node {
			l := full(3)
			l[place] = e
			return leaf(l...)
		}
		for _, e := range rightEntries(name(place)) {
			isRight(t, with(e), true)
		}
		for _, e := range wrongEntries(name(place)) {
			isRight(t, with(e), false)
		}
	}
	isRight(t, leaf(has("", "")), true)
	isRight(t, leaf(has("", ""), has("\x00", "")), true)
	isRight(t, leaf(has("a", ""), has(times("b", 256), "")), true)
	isRight(t, leaf(has("a", ""), has(times("b", 257), "")), false)
	isRight(t, leaf(has(times("a", 257), ""), has("b", "")), false)
}

// ladder are keys that rise.
func ladder() []string {
	return []string{"", "\x00", "\x00\x00", "\x00\x01", "\x01", "A", "a", "a\x00", "aa", "ab", "b", "\x7f", "\x80", "é", "\xff", "\xff\x00", times("\xff", 255), times("\xff", 256)}
}

func TestKeysOfALeafRise(t *testing.T) {
	keys := ladder()
	for i, a := range keys {
		for j, b := range keys {
			isRight(t, leaf(has(a, ""), has(b, "")), i < j)
			for k, c := range keys {
				isRight(t, leaf(has(a, ""), has(b, ""), has(c, "")), i < j && j < k)
			}
		}
	}
	// What stands beside the keys plays no part.
	isRight(t, leaf(has("a", "z"), has("b", "a")), true)
	isRight(t, leaf(has("a", "y"), has("a", "z")), false)
	isRight(t, leaf(made(has("a", ""), 9, "z"), made(has("b", ""), 1, "a")), true)
}

func TestNumberOfEntries(t *testing.T) {
	for _, count := range []int{0, 1, 2, 64, 128, 254, 255} {
		isRight(t, leaf(full(count)...), true)
	}
	for _, count := range []int{256, 257, 300, 511, 512, 1 << 16, 1<<16 + 1} {
		isRight(t, leaf(full(count)...), false)
	}
	// The keys have to rise up to the last one.
	l := full(255)
	l[254].Key = l[253].Key
	isRight(t, leaf(l...), false)
	l[254] = api.Entry{Key: name(254)}
	isRight(t, leaf(l...), false)
}

func TestLeavesWithPartsOfInnerNodes(t *testing.T) {
	for _, entries := range [][]api.Entry{nil, {}, full(2)} {
		isRight(t, api.Node{Leaf: true, Entries: entries, Pivots: []string{}, Kids: []uint64{}, Bufs: [][]api.Msg{}}, true)
		for _, n := range []api.Node{
			{Pivots: []string{""}}, {Pivots: []string{"a", "b"}}, {Kids: []uint64{0}}, {Kids: []uint64{1}}, {Bufs: [][]api.Msg{nil}}, {Bufs: [][]api.Msg{{put(1, "a", "")}}},
			{Kids: []uint64{1}, Bufs: [][]api.Msg{nil}}, inner([]string{"b"}), inner(nil),
		} {
			n.Leaf, n.Entries = true, entries
			isRight(t, n, false)
		}
	}
}

// P10.1: Right, of inner nodes

func TestInnerNodes(t *testing.T) {
	isRight(t, inner(nil), true)
	isRight(t, inner([]string{"m"}), true)
	isRight(t, inner([]string{""}), true)
	isRight(t, inner([]string{"", "\x00", times("\xff", 256)}), true)
	isRight(t, api.Node{Kids: []uint64{7}, Entries: []api.Entry{}, Pivots: []string{}, Bufs: [][]api.Msg{{}}}, true)
	// Nothing is asked of the kids but that they are there.
	isRight(t, api.Node{Kids: []uint64{math.MaxUint64, 1, 1}, Pivots: []string{"a", "b"}, Bufs: make([][]api.Msg, 3)}, true)
	isRight(t, api.Node{}, false)
	isRight(t, api.Node{Entries: []api.Entry{}, Pivots: []string{}, Kids: []uint64{}, Bufs: [][]api.Msg{}}, false)
	n := inner([]string{"m"})
	for _, e := range []api.Entry{{}, has("a", ""), has("n", "v")} {
		n.Entries = []api.Entry{e}
		isRight(t, n, false)
	}
}

func TestNumbersOfKidsPivotsAndBufs(t *testing.T) {
	counts := []int{0, 1, 2, 3, 32, 62, 63, 64, 65, 66, 127, 128, 256, 257, 1 << 16, 1<<16 + 1}
	allKids, allPivots, allBufs := slices.Repeat([]uint64{3}, 1<<16+1), names(1<<16+1), make([][]api.Msg, 1<<16+1)
	right := 0
	for _, kids := range counts {
		for _, pivots := range counts {
			for _, bufs := range counts {
				n := api.Node{Kids: allKids[:kids], Pivots: allPivots[:pivots], Bufs: allBufs[:bufs]}
				want := kids >= 1 && kids <= 64 && pivots == kids-1 && bufs == kids
				isRight(t, n, want)
				if want {
					right++
				}
			}
		}
	}
	if right != 5 { // 1, 2, 3, 63, 64
		t.Errorf("%d right", right)
	}
	for kids := 1; kids <= 70; kids++ {
		isRight(t, inner(names(kids-1)), kids <= 64)
	}
}

func TestNoKid(t *testing.T) {
	for _, kids := range []int{1, 2, 3, 64} {
		for at := range kids {
			n := inner(names(kids - 1))
			isRight(t, n, true)
			n.Kids[at] = 0
			isRight(t, n, false)
		}
	}
}

func TestPivotsRise(t *testing.T) {
	keys := ladder()
	for i, a := range keys {
		isRight(t, inner([]string{a}), true)
		for j, b := range keys {
			isRight(t, inner([]string{a, b}), i < j)
			for k, c := range keys {
				isRight(t, inner([]string{a, b, c}), i < j && j < k)
			}
		}
	}
	for at := range 63 {
		pivots := names(63)
		pivots[at] = times("k", 256)
		isRight(t, inner(pivots), at == 62)
		pivots[at] = times("k", 257)
		isRight(t, inner(pivots), false)
	}
	isRight(t, inner([]string{times("\x00", 257), "a"}), false)
	isRight(t, inner([]string{times("\x00", 256), "a"}), true)
	isRight(t, inner([]string{times("k", 1<<16)}), false)
}

// anyMessages are messages of all kinds, right ones and others.
func anyMessages() []api.Msg {
	var l []api.Msg
	for _, kind := range []int{math.MinInt, -250, -1, 0, 1, 2, 3, 4, 5, 6, 7, 255, 257, 1<<32 + 1} {
		for _, key := range []string{"", "k", times("k", 256), times("k", 257)} {
			for _, txn := range []uint64{0, 1, math.MaxUint64} {
				for _, val := range []string{"", "v", times("v", 512), times("v", 513)} {
					for _, off := range []int{math.MinInt, -1, 0, 1, 254, 255, 256, 504, 505, 1 << 16, math.MaxInt} {
						for _, num := range []uint64{0, 1, math.MaxUint64} {
							l = append(l, api.Msg{Seq: 9, Kind: kind, Key: key, Txn: txn, Val: val, Off: off, Num: num})
						}
					}
				}
			}
		}
	}
	return l
}

func TestBufsWithAnyMessage(t *testing.T) {
	right := map[int]int{}
	for _, m := range anyMessages() {
		n := inner(nil, []api.Msg{m})
		ok := msg.Check(m) == api.OK
		isRight(t, n, ok)
		if ok {
			right[m.Kind]++
		}
		// Between two others, in the last of three kids.
		m.Seq = 5
		l := []api.Msg{put(4, "", ""), m, put(6, "", "")}
		isRight(t, inner([]string{""}, nil, l), ok)
		if t.Failed() {
			return
		}
	}
	if len(right) != 6 {
		t.Errorf("right messages of each kind: %v", right)
	}
}

func TestSeqsOfABufRise(t *testing.T) {
	seqs := []uint64{0, 1, 2, 1<<32 - 1, 1 << 32, 1<<63 - 1, 1 << 63, math.MaxUint64}
	for i, a := range seqs {
		for j, b := range seqs {
			isRight(t, inner(nil, []api.Msg{put(a, "b", ""), put(b, "a", "")}), i < j)
			isRight(t, inner(nil, []api.Msg{grow(a), put(b, "a", "")}), i < j)
			for k, c := range seqs {
				isRight(t, inner(nil, []api.Msg{put(a, "k", ""), grow(b), put(c, "k", "")}), i < j && j < k)
			}
			// Those of one buf play no part for another.
			isRight(t, inner([]string{"m"}, []api.Msg{put(a, "a", "")}, []api.Msg{put(b, "m", "")}), true)
			isRight(t, inner([]string{"m"}, []api.Msg{grow(a), put(math.MaxUint64, "a", "")}, []api.Msg{grow(b)}), a < math.MaxUint64)
		}
	}
}

// waits answers the inner node with these pivots in which a message waits for a kid.
func waits(pivots []string, kid int, m api.Msg) api.Node {
	n := inner(pivots)
	n.Bufs[kid] = []api.Msg{m}
	return n
}

func TestMessagesWaitForTheKidOfTheirKey(t *testing.T) {
	for _, pivots := range [][]string{nil, {""}, {"m"}, {"", "m"}, {"a", "aa", "b"}, {"\x00", "\x7f", "\x80", "\xff"}, names(63)} {
		keys := append(ladder(), "l", "m", "n", name(0), name(1), name(31), name(62), name(63), name(0)+"\x00", "k0000", "l00001")
		for _, key := range keys {
			// The keys of the kid number at are those from the pivot ahead of it on, below the one behind it.
			at := 0
			for at < len(pivots) && pivots[at] <= key {
				at++
			}
			for kid := range len(pivots) + 1 {
				for _, m := range []api.Msg{
					put(1, key, "v"), {Kind: api.MsgDel, Key: key}, {Kind: api.MsgAdd, Key: key, Txn: 3, Off: 1, Num: 1}, {Kind: api.MsgCommit, Key: key, Txn: 3}, {Kind: api.MsgAbort, Key: key, Txn: 3},
				} {
					isRight(t, waits(pivots, kid, m), kid == at)
				}
				// A Grow may wait for any kid.
				isRight(t, waits(pivots, kid, grow(1)), true)
			}
		}
	}
}

func TestEachMessageOfABufIsLookedAt(t *testing.T) {
	for kid, key := range []string{"a", "m", "z"} {
		for at := range 4 {
			n := inner([]string{"m", "z"}, []api.Msg{put(1, "b", "")}, []api.Msg{grow(1), put(7, "mm", "")}, []api.Msg{put(0, "zz", "")})
			l := puts(key, 4)
			n.Bufs[kid] = l
			isRight(t, n, true)
			for _, wrong := range []string{"a", "m", "z"} {
				l[at].Key = wrong
				isRight(t, n, wrong == key)
			}
			l[at] = api.Msg{Seq: uint64(at), Kind: api.MsgDel, Key: key, Val: "v"}
			isRight(t, n, false)
			l[at] = api.Msg{Seq: uint64(at), Kind: api.MsgDel, Key: key}
			isRight(t, n, true)
			l[at].Seq = uint64(at + 3)
			isRight(t, n, at == 3)
		}
	}
}

func TestNumberOfMessages(t *testing.T) {
	for _, count := range []int{0, 1, 255, 256, 1023, 1024, 1025, 1026, 2048, 1 << 16, 1<<16 + 1} {
		isRight(t, inner(nil, puts("a", count)), count <= 1024)
		isRight(t, inner([]string{"m"}, nil, puts("m", count)), count <= 1024)
		// All together count.
		for _, more := range []int{0, 1, 2, 512} {
			isRight(t, inner([]string{"m"}, puts("a", count), puts("m", more)), count+more <= 1024)
		}
	}
	n := inner(names(63))
	for kid := range n.Bufs {
		for at := range 16 {
			n.Bufs[kid] = append(n.Bufs[kid], grow(uint64(at)))
		}
	}
	isRight(t, n, true)
	for kid := range n.Bufs {
		n.Bufs[kid] = append(n.Bufs[kid], grow(16))
		isRight(t, n, false)
		n.Bufs[kid] = n.Bufs[kid][1:]
		isRight(t, n, true)
	}
}

// anyNodes are nodes of whatever parts, few of them right.
func anyNodes() []api.Node {
	entries := [][]api.Entry{nil, full(1), full(3), {has("b", ""), has("a", "")}, {{}}, full(256)}
	pivots := [][]string{nil, {"m"}, {"a", "b"}, {"b", "a"}, {"m", "m"}, {"m", "a", "m"}, {times("k", 300)}, names(64)}
	kids := [][]uint64{nil, {1}, {1, 2}, {1, 2, 3}, {0}, {3, 0}, slices.Repeat([]uint64{2}, 65)}
	bufs := [][][]api.Msg{nil, {nil}, {nil, nil}, {puts("a", 2), puts("m", 3)}, {puts("m", 3), puts("a", 2)}, {{{}}}, {nil, {{Kind: 9}}, nil}, {puts("a", 700), puts("m", 400)}, make([][]api.Msg, 65)}
	var l []api.Node
	for _, isLeaf := range []bool{false, true} {
		for _, e := range entries {
			for _, p := range pivots {
				for _, k := range kids {
					for _, b := range bufs {
						l = append(l, api.Node{Leaf: isLeaf, Entries: e, Pivots: p, Kids: k, Bufs: b})
					}
				}
			}
		}
	}
	return l
}

func TestRightOfAnyNode(t *testing.T) {
	right := map[bool]int{}
	for _, n := range anyNodes() {
		isRight(t, n, model(n))
		if model(n) {
			right[n.Leaf]++
		}
	}
	if right[true] != 3 || right[false] != 3 {
		t.Errorf("right ones: %v", right)
	}
}

// P10.1: Route, Waiting

func TestRoute(t *testing.T) {
	keys := ladder()
	n := inner(keys)
	for at, key := range keys {
		routes(t, n, key, at+1)
	}
	routes(t, inner(nil), "", 0)
	routes(t, inner(nil), "z", 0)
	routes(t, inner([]string{""}), "", 1)
	routes(t, inner([]string{"m"}), "", 0)
	routes(t, inner([]string{"m"}), "l\xff", 0)
	routes(t, inner([]string{"m"}), "m\x00", 1)
	routes(t, inner([]string{"mm"}), "m", 0)
	routes(t, inner([]string{"m", "n"}), times("m", 1000), 1)
	routes(t, inner([]string{"m", "n"}), times("n", 1000), 2)
	n = inner(names(63))
	for at := range 63 {
		routes(t, n, name(at), at+1)
		routes(t, n, name(at)+"\x00", at+1)
		routes(t, n, name(at)[:5], at/10*10)
	}
}

func TestRouteOfAnyNode(t *testing.T) {
	for _, n := range []api.Node{{}, leaf(), leaf(full(3)...), {Kids: []uint64{1, 2}, Bufs: make([][]api.Msg, 2)}} {
		routes(t, n, name(1), 0)
	}
	// How many aren't above it counts, not where they stand.
	for _, n := range []api.Node{{Pivots: []string{"z", "a", "m", "a"}}, {Leaf: true, Pivots: []string{"a", "a", "m", "z"}}, {Kids: []uint64{1}, Pivots: []string{"m", "a", "z", "a"}}} {
		for key, want := range map[string]int{"": 0, "a": 2, "b": 2, "m": 3, "y": 3, "z": 4, "zz": 4} {
			routes(t, n, key, want)
		}
	}
	routes(t, api.Node{Pivots: slices.Repeat([]string{"m"}, 1<<16+3)}, "m", 1<<16+3)
	for _, n := range anyNodes() {
		for _, key := range []string{"", "a", "b", "m", name(7), "z", times("k", 299), times("k", 301)} {
			want := 0
			for _, p := range n.Pivots {
				if strings.Compare(key, p) >= 0 {
					want++
				}
			}
			routes(t, n, key, want)
		}
	}
}

func TestWaiting(t *testing.T) {
	for _, test := range []struct {
		n    api.Node
		want int
	}{
		{api.Node{}, 0}, {leaf(full(3)...), 0}, {inner(names(5)), 0}, {inner(nil, puts("a", 1)), 1}, {inner([]string{"m"}, puts("a", 2), puts("m", 5)), 7}, {inner(nil, puts("a", 1024)), 1024},
		// Whatever they hold.
		{api.Node{Bufs: [][]api.Msg{{{}, {}}, nil, {{Kind: 99}}}}, 3}, {api.Node{Leaf: true, Bufs: [][]api.Msg{{{}}, {grow(1)}}}, 2}, {inner(nil, puts("a", 1<<16), nil), 1 << 16},
		{api.Node{Kids: []uint64{1}, Bufs: [][]api.Msg{puts("a", 70000), puts("a", 70000), puts("b", 1)}}, 140001},
	} {
		if count := Waiting(test.n); count != test.want {
			t.Errorf("Waiting(%s): %d, want %d", tell(test.n), count, test.want)
		}
	}
	n := inner(names(63))
	for kid := range 64 {
		n.Bufs[kid] = puts("", kid)
	}
	if count := Waiting(n); count != 64*63/2 {
		t.Errorf("Waiting: %d", count)
	}
}

// P10.2 and P10.3

// kinds answers a message of each kind for a key, with all fields as great as they may be, or as small.
func kinds(key string) []api.Msg {
	return []api.Msg{
		{Seq: 0, Kind: api.MsgPut, Key: key}, {Seq: 1, Kind: api.MsgPut, Key: key, Txn: math.MaxUint64, Val: times("\xfe", 512)},
		{Seq: 0x0102030405060708, Kind: api.MsgDel, Key: key, Txn: 0x1112131415161718},
		{Seq: 1 << 60, Kind: api.MsgAdd, Key: key}, {Seq: 1<<60 + 1, Kind: api.MsgAdd, Key: key, Txn: 1, Off: 504, Num: 0x2122232425262728}, {Seq: 1<<60 + 2, Kind: api.MsgAdd, Key: key, Off: 258, Num: math.MaxUint64},
		{Seq: 1 << 61, Kind: api.MsgGrow}, {Seq: 1 << 62, Kind: api.MsgGrow, Off: 254, Val: times("g", 512)},
		{Seq: 1 << 63, Kind: api.MsgCommit, Key: key, Txn: 1}, {Seq: math.MaxUint64, Kind: api.MsgAbort, Key: key, Txn: 1 << 63},
	}
}

// rightNodes are nodes that may be, all with at most MaxBlock bytes.
func rightNodes() []api.Node {
	l := []api.Node{
		leaf(), leaf(has("", "")), leaf(full(3)...), leaf(full(255)...), leaf(has(times("\xff", 256), times("\x00", 512))),
		inner(nil), inner([]string{""}), inner([]string{"", "\x00", times("\xff", 256)}), inner(names(63)),
		{Kids: []uint64{math.MaxUint64, 0x3132333435363738}, Pivots: []string{"p"}, Bufs: make([][]api.Msg, 2)}, {Kids: []uint64{9, 9}, Pivots: []string{"p"}, Bufs: make([][]api.Msg, 2)},
		inner(nil, kinds("")), inner([]string{""}, []api.Msg{grow(0)}, kinds(times("k", 256))), inner([]string{"b", "c"}, kinds("a"), kinds("b"), kinds("cc")),
		inner([]string{"m"}, []api.Msg{grow(7)}, []api.Msg{grow(7)}), inner(nil, puts("", 1024)), inner(names(63), puts("", 16)),
	}
	for _, e := range rightEntries("k") {
		l = append(l, leaf(e), leaf(has("", ""), e, has("l", "")))
	}
	for _, m := range kinds("n") {
		l = append(l, inner(nil, []api.Msg{m}), waits([]string{"m", "n", "o"}, 2, m))
	}
	return l
}

func TestBytesOfRightNodes(t *testing.T) {
	for _, n := range rightNodes() {
		if !model(n) || len(lay(n)) > 32768 {
			t.Fatalf("no right node: %s", tell(n))
		}
		encodes(t, n, lay(n), api.OK)
		decodes(t, lay(n), n, api.OK)
	}
}

func TestBytesOfAllParts(t *testing.T) {
	e := api.Entry{Key: "ab", Has: true, Val: "cde", Txn: 0x0102030405060708, New: true, NewVal: "f"}
	f := api.Entry{Key: "b", Txn: 9}
	encodes(t, leaf(e, f), []byte("\x01\x00\x02"+
		"\x00\x02ab"+"\x01"+"\x00\x03cde"+"\x01\x02\x03\x04\x05\x06\x07\x08"+"\x01"+"\x00\x01f"+
		"\x00\x01b"+"\x00"+"\x00\x00"+"\x00\x00\x00\x00\x00\x00\x00\x09"+"\x00"+"\x00\x00"), api.OK)
	n := api.Node{Kids: []uint64{0x1112131415161718, 7, 8}, Pivots: []string{"m", "nn"}, Bufs: [][]api.Msg{
		{{Seq: 0x2122232425262728, Kind: api.MsgAdd, Key: "l", Txn: 0x3132333435363738, Off: 0x0141, Num: 0x5152535455565758}, {Seq: 0x2122232425262729, Kind: api.MsgGrow, Val: "gg", Off: 254}},
		nil,
		{{Kind: api.MsgAbort, Key: "no", Txn: 5}},
	}}
	encodes(t, n, []byte("\x00\x00\x03"+
		"\x11\x12\x13\x14\x15\x16\x17\x18"+"\x00\x00\x00\x00\x00\x00\x00\x07"+"\x00\x00\x00\x00\x00\x00\x00\x08"+
		"\x00\x01m"+"\x00\x02nn"+
		"\x00\x02"+
		"\x21\x22\x23\x24\x25\x26\x27\x28"+"\x03"+"\x00\x01l"+"\x31\x32\x33\x34\x35\x36\x37\x38"+"\x00\x00"+"\x01\x41"+"\x51\x52\x53\x54\x55\x56\x57\x58"+
		"\x21\x22\x23\x24\x25\x26\x27\x29"+"\x04"+"\x00\x00"+"\x00\x00\x00\x00\x00\x00\x00\x00"+"\x00\x02gg"+"\x00\xfe"+"\x00\x00\x00\x00\x00\x00\x00\x00"+
		"\x00\x00"+
		"\x00\x01"+
		"\x00\x00\x00\x00\x00\x00\x00\x00"+"\x06"+"\x00\x02no"+"\x00\x00\x00\x00\x00\x00\x00\x05"+"\x00\x00"+"\x00\x00"+"\x00\x00\x00\x00\x00\x00\x00\x00"), api.OK)
	for _, n := range []api.Node{leaf(e, f), n} {
		b, _ := Encode(n)
		decodes(t, b, n, api.OK)
	}
}

func TestEmptyListsAreNone(t *testing.T) {
	encodes(t, api.Node{Leaf: true, Entries: []api.Entry{}, Pivots: []string{}, Kids: []uint64{}, Bufs: [][]api.Msg{}}, []byte{1, 0, 0}, api.OK)
	encodes(t, api.Node{Kids: []uint64{1}, Entries: []api.Entry{}, Pivots: []string{}, Bufs: [][]api.Msg{{}}}, lay(inner(nil)), api.OK)
}

// wrongNodes are nodes that may not be, for one reason each.
func wrongNodes() []api.Node {
	l := []api.Node{
		{}, leaf(has("b", ""), has("a", "")), leaf(has("a", ""), has("a", "v")), leaf(full(256)...), leaf(has(times("k", 257), "")), leaf(has("", ""), has(times("k", 257), "")),
		inner(names(64)), {Kids: []uint64{0}, Bufs: make([][]api.Msg, 1)}, {Kids: []uint64{1, 0}, Pivots: []string{"a"}, Bufs: make([][]api.Msg, 2)}, {Kids: []uint64{0, 1}, Pivots: []string{"a"}, Bufs: make([][]api.Msg, 2)},
		{Kids: []uint64{1, 2}, Bufs: make([][]api.Msg, 2)}, {Kids: []uint64{1}, Pivots: []string{"a"}, Bufs: make([][]api.Msg, 1)}, {Kids: []uint64{1, 2}, Pivots: []string{"a"}, Bufs: make([][]api.Msg, 1)},
		{Leaf: true, Kids: []uint64{1}}, {Leaf: true, Pivots: []string{"a"}}, {Leaf: true, Bufs: [][]api.Msg{nil}}, {Kids: []uint64{1}, Bufs: make([][]api.Msg, 1), Entries: full(1)},
		inner([]string{"b", "a"}), inner([]string{"a", "a"}), inner([]string{times("k", 257)}), inner([]string{"a", times("k", 257)}),
		inner(nil, []api.Msg{put(1, "a", ""), put(1, "a", "")}), inner(nil, []api.Msg{put(2, "a", ""), put(1, "a", "")}), inner([]string{"m"}, []api.Msg{put(1, "m", "")}), inner([]string{"m"}, nil, []api.Msg{put(1, "l", "")}),
		inner([]string{"m"}, nil, []api.Msg{put(1, "", "")}), inner([]string{"m", "n"}, nil, []api.Msg{put(1, "n", "")}), inner([]string{"m", "n"}, nil, []api.Msg{put(1, "a", "")}),
		inner(nil, puts("", 1025)), inner(names(63), puts("", 1025)), inner([]string{"\x01"}, puts("", 1000), puts("\x01", 25)),
	}
	for _, e := range wrongEntries("k") {
		l = append(l, leaf(e), leaf(has("", ""), e, has("l", "")))
	}
	for _, m := range anyMessages() {
		if msg.Check(m) != api.OK && m.Num != 1 {
			l = append(l, inner(nil, []api.Msg{m}))
		}
	}
	return l
}

func TestNoBytesOfWrongNodes(t *testing.T) {
	said := map[bool]int{}
	for _, n := range wrongNodes() {
		if model(n) {
			t.Fatalf("a right node: %s", tell(n))
		}
		encodes(t, n, nil, api.ErrArg)
		// Where bytes can say it, they are bad all the same.
		if m, ok := read(lay(n)); ok && same(m, n) && len(lay(n)) <= 32768 {
			isBad(t, lay(n))
			said[n.Leaf]++
		}
	}
	if said[true] < 15 || said[false] < 1000 {
		t.Errorf("wrong nodes that bytes can say: %v", said)
	}
}

// sized answers right nodes with just so many bytes, leaves and inner ones.
func sized(size int) []api.Node {
	var l []api.Node
	// Each entry has 22 bytes beside its values.
	n, left := leaf(), size-3
	for at := 0; left > 0; at++ {
		more := min(left-22, 1024)
		if left > 22+more && left-22-more < 22 {
			more -= 22
		}
		val := min(more, 512)
		n.Entries = append(n.Entries, made(has(name(at), times("v", val)), 7, times("w", more-val)))
		left -= 22 + more
	}
	l = append(l, n)
	// Each message has 32 bytes beside its value.
	n, left = inner([]string{"m"}), size-26
	for at := 0; left > 0; at++ {
		more := min(left-32, 512)
		if left > 32+more && left-32-more < 32 {
			more -= 32
		}
		kid := at % 2
		n.Bufs[kid] = append(n.Bufs[kid], put(uint64(at), []string{"a", "m"}[kid], times("v", more)))
		left -= 32 + more
	}
	return append(l, n)
}

func TestBytesUpToABlock(t *testing.T) {
	for size := 32700; size <= 32850; size++ {
		for _, n := range sized(size) {
			b := lay(n)
			if !model(n) || len(b) != size {
				t.Fatalf("no right node of %d bytes: %s", size, tell(n))
			}
			isRight(t, n, true)
			if size <= 32768 {
				encodes(t, n, b, api.OK)
				decodes(t, b, n, api.OK)
			} else {
				encodes(t, n, nil, api.ErrBound)
				isBad(t, b)
			}
		}
	}
	for _, size := range []int{40000, 1 << 16, 1<<16 + 100, 1<<17 + 100} {
		for _, n := range sized(size) {
			encodes(t, n, nil, api.ErrBound)
			isBad(t, lay(n))
			// What isn't right is no matter of its length.
			n.Leaf = !n.Leaf
			encodes(t, n, nil, api.ErrArg)
		}
	}
}

func TestGreatestNodes(t *testing.T) {
	var entries []api.Entry
	for at := range 255 {
		entries = append(entries, made(has(name(at)+times("k", 250), times("v", 512)), math.MaxUint64, times("w", 512)))
	}
	isRight(t, leaf(entries...), true)
	encodes(t, leaf(entries...), nil, api.ErrBound)
	n := inner(names(63))
	for kid := range n.Bufs {
		for at := range 16 {
			n.Bufs[kid] = append(n.Bufs[kid], api.Msg{Seq: uint64(at), Kind: api.MsgGrow, Val: times("v", 512)})
		}
	}
	isRight(t, n, true)
	encodes(t, n, nil, api.ErrBound)
	// As many messages as may wait fit a block, if they are small.
	encodes(t, inner(nil, puts("", 1024)), lay(inner(nil, puts("", 1024))), api.OK)
	encodes(t, leaf(full(255)...), lay(leaf(full(255)...)), api.OK)
}

func TestDecodeOfTooManyBytes(t *testing.T) {
	for _, size := range []int{32769, 32770, 1 << 16, 1<<16 + 3, 1 << 20} {
		isBad(t, make([]byte, size))
		isBad(t, append([]byte{1, 0, 0}, make([]byte, size-3)...))
		isBad(t, append(lay(inner(nil)), make([]byte, size-13)...))
		isBad(t, bytes.Repeat([]byte{0xff}, size))
	}
}

func TestDecodeOfTooFewBytes(t *testing.T) {
	isBad(t, nil)
	isBad(t, []byte{})
	for _, n := range rightNodes() {
		b := lay(n)
		step := max(1, len(b)/500)
		for size := 0; size < len(b); size += step {
			isBad(t, b[:size])
		}
		isBad(t, b[:len(b)-1])
	}
}

func TestDecodeOfMoreBytes(t *testing.T) {
	for _, n := range rightNodes() {
		for _, more := range []string{"\x00", "\x01", "\xff", "\x00\x00", "\x01\x00\x00", times("\x00", 16), string(lay(n))} {
			isBad(t, append(lay(n), more...))
		}
	}
}

func TestDecodeOfWrongCounts(t *testing.T) {
	// Behind the count of entries, of kids, and of messages there are as many as it says, or the bytes are bad.
	entry, message := lay(leaf(has("", "")))[3:], lay(inner(nil, puts("", 1)))[13:]
	for _, count := range []int{0, 1, 2, 3, 63, 64, 65, 254, 255, 256, 257, 1023, 1024, 1025, 1 << 15, 1<<16 - 1} {
		for _, there := range []int{0, 1, 2, 3, 64, 65, 255, 256, 1024, 1025} {
			b := binary.BigEndian.AppendUint16([]byte{1}, uint16(count))
			// Their keys are the same, so that of two or more none is right.
			decodesAsRead(t, append(b, bytes.Repeat(entry, there)...))
			b = binary.BigEndian.AppendUint16([]byte{0}, uint16(count))
			decodesAsRead(t, append(b, bytes.Repeat([]byte{0, 0, 0, 0, 0, 0, 0, 1}, there)...))
			b = binary.BigEndian.AppendUint16([]byte{0, 0, 1, 0, 0, 0, 0, 0, 0, 0, 1}, uint16(count))
			decodesAsRead(t, append(b, bytes.Repeat(message, there)...))
		}
	}
	isBad(t, []byte{0, 0, 0})
	isBad(t, []byte{0, 0xff, 0xff})
	isBad(t, []byte{1, 0xff, 0xff})
	isBad(t, append([]byte{0, 0xff, 0xff}, bytes.Repeat([]byte{1}, 32765)...))
	isBad(t, append([]byte{1, 0xff, 0xff}, make([]byte, 32765)...))
}

func TestDecodeOfAllShortBytes(t *testing.T) {
	right := 0
	ask := func(b ...byte) {
		if decodesAsRead(t, b) {
			right++
		}
	}
	for a := range 256 {
		ask(byte(a))
		for b := range 256 {
			ask(byte(a), byte(b))
			for _, c := range []byte{0, 1, 2, 16, 127, 128, 255} {
				ask(byte(a), byte(b), c)
				ask(c, byte(a), byte(b))
				ask(1, 0, byte(a), byte(b), c)
			}
		}
	}
	// The leaf without entries, told twice.
	if right != 2 {
		t.Errorf("%d right ones", right)
	}
}

func TestDecodeOfAllZerosAndOnes(t *testing.T) {
	for _, test := range []struct {
		front      []byte
		size, want int
	}{
		// Of one entry: its Has or its Txn (of eight bytes, 1 to 255 in this form), New with it.
		{[]byte{1, 0, 1}, 16, 1 + 255*2*2},
		// Of one kid, with nothing waiting.
		{[]byte{0, 0, 1}, 10, 255},
		{[]byte{0, 0, 1}, 9, 0},
		{[]byte{0, 0, 1}, 11, 0},
		// Of two, the pivot being "".
		{append([]byte{0, 0, 2}, bytes.Repeat([]byte{1}, 8)...), 14, 255},
	} {
		right := 0
		for bits := range 1 << test.size {
			b := slices.Clone(test.front)
			for at := range test.size {
				b = append(b, byte(bits>>at&1))
			}
			if decodesAsRead(t, b) {
				right++
			}
			if t.Failed() {
				return
			}
		}
		if right != test.want {
			t.Errorf("%x and %d more: %d right ones, want %d", test.front, test.size, right, test.want)
		}
	}
}

// small are right nodes with few bytes, that have all kinds of parts.
func small() []api.Node {
	return []api.Node{
		leaf(), leaf(has("k", "v")), leaf(has("", ""), unmade(has("a", "b"), 3), made(api.Entry{Key: "b"}, 4, "c"), made(has("bb", "v"), 5, "w")),
		inner(nil), inner([]string{"b", "c"}),
		inner([]string{"b", "d"}, []api.Msg{put(1, "a", "v"), {Seq: 3, Kind: api.MsgDel, Key: "a", Txn: 7}},
			[]api.Msg{{Seq: 2, Kind: api.MsgAdd, Key: "b", Off: 4, Num: 5}, grow(4), {Seq: 256, Kind: api.MsgCommit, Key: "cc", Txn: 7}},
			[]api.Msg{grow(4), {Seq: 5, Kind: api.MsgAbort, Key: "d", Txn: 7}, {Seq: 6, Kind: api.MsgPut, Key: "e", Txn: 8}}),
	}
}

func TestDecodeOfNodesOneByteOff(t *testing.T) {
	right := 0
	for _, n := range small() {
		b := lay(n)
		for at := range b {
			for x := range 256 {
				other := slices.Clone(b)
				other[at] = byte(x)
				if decodesAsRead(t, other) {
					right++
				}
				decodesAsRead(t, slices.Insert(slices.Clone(b), at, byte(x)))
			}
			decodesAsRead(t, slices.Delete(slices.Clone(b), at, at+1))
			if t.Failed() {
				return
			}
		}
	}
	if right < 10000 {
		t.Errorf("%d right ones", right)
	}
}

func TestDecodeOfNodesTwoBytesOff(t *testing.T) {
	for _, n := range small() {
		b := lay(n)
		for i := range b {
			for j := range i {
				for _, change := range [][2]byte{{1, 255}, {255, 1}, {1, 1}, {255, 255}} {
					other := slices.Clone(b)
					other[i] += change[0]
					other[j] += change[1]
					decodesAsRead(t, other)
				}
			}
			if t.Failed() {
				return
			}
		}
	}
}

// chanceKey answers any key, mostly a short one.
func chanceKey(r *rand.Rand) string {
	b := make([]byte, []int{0, 1, 1, 2, 2, 3, 9, 40, 256}[r.Intn(9)])
	for at := range b {
		b[at] = "\x00\x01aab\xff"[r.Intn(6)]
	}
	return string(b)
}

// chanceKeys answers up to most keys that rise.
func chanceKeys(r *rand.Rand, most int) []string {
	var l []string
	for range r.Intn(most + 1) {
		l = append(l, chanceKey(r))
	}
	slices.Sort(l)
	return slices.Compact(l)
}

// chance answers any right node.
func chance(r *rand.Rand) api.Node {
	if r.Intn(2) == 0 {
		n := leaf()
		for _, key := range chanceKeys(r, []int{3, 20, 255}[r.Intn(3)]) {
			l := rightEntries(key)
			n.Entries = append(n.Entries, l[r.Intn(len(l))])
		}
		return n
	}
	n := inner(chanceKeys(r, []int{0, 3, 63}[r.Intn(3)]))
	for at := range n.Kids {
		n.Kids[at] = 1 + r.Uint64()>>r.Intn(64)>>1
	}
	for seq := range r.Intn([]int{1, 9, 60}[r.Intn(3)]) {
		l := kinds(chanceKey(r))
		m := l[r.Intn(len(l))]
		m.Seq = uint64(seq) * 1000
		kid := r.Intn(len(n.Kids))
		if m.Kind != api.MsgGrow {
			kid = len(n.Pivots)
			for kid > 0 && n.Pivots[kid-1] > m.Key {
				kid--
			}
		}
		n.Bufs[kid] = append(n.Bufs[kid], m)
	}
	return n
}

func TestOneToOne(t *testing.T) {
	r := rand.New(rand.NewSource(10))
	fit, great := map[bool]int{}, 0
	for range 4000 {
		n := chance(r)
		if !model(n) {
			t.Fatalf("no right node: %s", tell(n))
		}
		b := lay(n)
		if len(b) > 32768 {
			great++
			encodes(t, n, nil, api.ErrBound)
			continue
		}
		fit[n.Leaf]++
		encodes(t, n, b, api.OK)
		decodes(t, b, n, api.OK)
		// Of bytes that are a node's, Encode of what was decoded answers just these.
		for range 5 {
			other := slices.Clone(b)
			other[r.Intn(len(b))] += byte(1 + r.Intn(255))
			decodesAsRead(t, other)
		}
		if t.Failed() {
			return
		}
	}
	if fit[true] < 1000 || fit[false] < 1000 || great < 30 {
		t.Errorf("nodes that fit: %v, others: %d", fit, great)
	}
}

// P10.4

// roomy answers the node in lists with spare room, in which something stands.
func roomy(n api.Node) api.Node {
	n.Entries = append(slices.Clone(n.Entries), has("spare", "s"))[:len(n.Entries)]
	n.Pivots = append(slices.Clone(n.Pivots), "spare")[:len(n.Pivots)]
	n.Kids = append(slices.Clone(n.Kids), 77)[:len(n.Kids)]
	bufs := make([][]api.Msg, len(n.Bufs)+1)
	for at, buf := range append(slices.Clone(n.Bufs), nil) {
		bufs[at] = append(slices.Clone(buf), put(99, "spare", "s"))[:len(buf)]
	}
	n.Bufs = bufs[:len(n.Bufs)]
	return n
}

// whole answers the lists of roomy's answer with their spare room.
func whole(n api.Node) api.Node {
	w := api.Node{Leaf: n.Leaf, Entries: n.Entries[:len(n.Entries)+1], Pivots: n.Pivots[:len(n.Pivots)+1], Kids: n.Kids[:len(n.Kids)+1]}
	for _, buf := range n.Bufs[:len(n.Bufs)+1] {
		w.Bufs = append(w.Bufs, buf[:len(buf)+1])
	}
	return w
}

func TestArgumentsStay(t *testing.T) {
	for _, n := range append(rightNodes(), wrongNodes()[:40]...) {
		handed, other := roomy(n), roomy(n)
		Right(handed)
		Route(handed, "m")
		Waiting(handed)
		b, _ := Encode(handed)
		if !same(handed, n) || !same(whole(handed), whole(other)) {
			t.Errorf("%s was changed", tell(n))
		}
		// What was answered isn't kept, nor is what was handed in.
		clear(b[:cap(b)])
		if again, _ := Encode(handed); again != nil && !bytes.Equal(again, lay(n)) {
			t.Errorf("%s: Encode answers other bytes", tell(n))
		}
		if !same(whole(handed), whole(other)) {
			t.Errorf("%s shares memory with its bytes", tell(n))
		}
	}
}

func TestDecodeLeavesAndForgetsItsBytes(t *testing.T) {
	for _, n := range rightNodes() {
		b := append(lay(n), "spare"...)
		were := slices.Clone(b)
		got, errno := Decode(b[:len(b)-5])
		if errno != api.OK || !bytes.Equal(b, were) {
			t.Errorf("%s: %d, or its bytes were changed", tell(n), errno)
		}
		clear(b)
		if !same(got, n) {
			t.Errorf("%s shares memory with its bytes", tell(n))
		}
	}
	// Bad ones stay too.
	for _, n := range wrongNodes()[:40] {
		b := lay(n)
		were := slices.Clone(b)
		Decode(b)
		if !bytes.Equal(b, were) {
			t.Errorf("%s: its bytes were changed", tell(n))
		}
	}
}

// scribble writes over all of a node's lists, their spare room too.
func scribble(n api.Node) {
	for at := range n.Entries[:cap(n.Entries)] {
		n.Entries[:cap(n.Entries)][at] = has("x", "x")
	}
	for at := range n.Pivots[:cap(n.Pivots)] {
		n.Pivots[:cap(n.Pivots)][at] = "x"
	}
	for at := range n.Kids[:cap(n.Kids)] {
		n.Kids[:cap(n.Kids)][at] = 55
	}
	for at := range n.Bufs[:cap(n.Bufs)] {
		n.Bufs[:cap(n.Bufs)][at] = []api.Msg{put(5, "x", "x")}
	}
}

func TestAnswersAreNewMemory(t *testing.T) {
	for _, n := range rightNodes() {
		b := lay(n)
		first, _ := Decode(b)
		second, _ := Decode(b)
		// No two lists of one answer share their room either.
		for kid := range first.Bufs {
			buf := first.Bufs[kid]
			for at := range buf[:cap(buf)] {
				buf[:cap(buf)][at] = put(5, "x", "x")
			}
			first.Bufs[kid] = nil
			for other := kid + 1; other < len(n.Bufs); other++ {
				if !slices.Equal(first.Bufs[other], n.Bufs[other]) {
					t.Fatalf("%s: two bufs share memory", tell(n))
				}
			}
		}
		scribble(first)
		if !same(second, n) {
			t.Errorf("%s: two answers share memory", tell(n))
		}
		decodes(t, b, n, api.OK)
		one, _ := Encode(n)
		two, _ := Encode(n)
		clear(one[:cap(one)])
		if !bytes.Equal(two, b) {
			t.Errorf("%s: two answers of bytes share memory", tell(n))
		}
	}
}

func TestSameAnswersAgain(t *testing.T) {
	// What a call answers hangs on its arguments alone, not on the calls ahead of it.
	nodes := append(rightNodes(), wrongNodes()[:60]...)
	for _, n := range nodes {
		b, errno := Encode(n)
		for _, m := range nodes[:25] {
			Encode(m)
			Decode(lay(m))
			isBad(t, []byte{2})
		}
		encodes(t, n, b, errno)
	}
}
