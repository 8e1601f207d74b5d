package tree

import (
	"fmt"
	"testing"

	"granary/api"
)

// The tests here are those of P11.4 that ask Sound of trees made by hand.

// handShape is that of the trees made by hand.
var handShape = api.Shape{Leaf: 2, Fan: 2, Buf: 2}

// inner answers the inner node with two kids, for each of which these messages wait.
func inner(left uint64, pivot string, right uint64, bufs ...[]api.Msg) api.Node {
	n := api.Node{Kids: []uint64{left, right}, Pivots: []string{pivot}, Bufs: make([][]api.Msg, 2)}
	copy(n.Bufs, bufs)
	return n
}

// leaf answers the leaf with entries of these keys.
func leaf(keys ...string) api.Node {
	n := api.Node{Leaf: true}
	for _, key := range keys {
		n.Entries = append(n.Entries, has(key, key))
	}
	return n
}

// puts answers the messages with these Seqs for a key.
func puts(key string, seqs ...uint64) []api.Msg {
	var l []api.Msg
	for _, seq := range seqs {
		l = append(l, put(seq, key, ""))
	}
	return l
}

// byHand answers a sound tree of three heights: its root is 1, the nodes below it are 2 and 3, the leaves 4 to 7.
func byHand() *Mem {
	m := NewMem()
	m.Put(1, inner(2, "m", 3, puts("b", 10), puts("x", 11)))
	m.Put(2, inner(4, "f", 5, puts("a", 5)))
	m.Put(3, inner(6, "t", 7, nil, puts("z", 6, 7)))
	m.Put(4, leaf("a", "c"))
	m.Put(5, leaf("f"))
	m.Put(6, leaf())
	m.Put(7, leaf("t", "u"))
	return m
}

func TestByHand(t *testing.T) {
	m := byHand()
	isSound(t, m, handShape, 1, true)
	for id := range uint64(8) {
		isSound(t, m, handShape, id, id != 0)
	}
	x := model{"a": has("a", ""), "b": has("b", ""), "c": has("c", "c"), "f": has("f", "f"), "t": has("t", "t"), "u": has("u", "u"), "x": has("x", ""), "z": has("z", "")}
	holds(t, m, handShape, 1, x)
	root := calm(t, m, handShape, 1)
	holds(t, m, handShape, root, x)
	if errno := Drop(m, root); errno != api.OK || m.Count() != 0 {
		t.Errorf("Drop: %d, %d nodes", errno, m.Count())
	}
}

// hand is a tree made by hand, of which other nodes are put into the place of byHand's, or beside them, and whether it is sound.
type hand struct {
	name  string
	nodes map[uint64]api.Node
	want  bool
}

// areSound asks Sound, and the plainer test, of trees made by hand.
func areSound(t *testing.T, l []hand) {
	t.Helper()
	for _, x := range l {
		m := byHand()
		for id, n := range x.nodes {
			m.Put(id, n)
		}
		if plain(m, handShape, 1) != x.want || Sound(m, handShape, 1) != x.want {
			t.Errorf("%s: %v", x.name, !x.want)
		}
	}
}

func TestSoundNodes(t *testing.T) {
	gone, twice := leaf("a"), leaf("c", "a")
	gone.Entries[0].Has, gone.Entries[0].Val = false, ""
	kids := func(n api.Node) api.Node {
		n.Kids = []uint64{9}
		return n
	}
	three := api.Node{Kids: []uint64{4, 8, 5}, Pivots: []string{"d", "f"}, Bufs: make([][]api.Msg, 3)}
	one := api.Node{Kids: []uint64{4}, Bufs: make([][]api.Msg, 1)}
	areSound(t, []hand{
		{"a node more that isn't reached", map[uint64]api.Node{8: gone}, true},
		{"an entry that is gone", map[uint64]api.Node{4: gone}, false},
		{"entries that fall", map[uint64]api.Node{4: twice}, false},
		{"a leaf with kids", map[uint64]api.Node{4: kids(leaf("a"))}, false},
		{"a message at a wrong kid", map[uint64]api.Node{2: inner(4, "f", 5, nil, puts("a", 5))}, false},
		{"a root that isn't right", map[uint64]api.Node{1: {}}, false},
		{"a kid 0", map[uint64]api.Node{2: inner(4, "f", 0)}, false},
		{"a kid twice in one node", map[uint64]api.Node{2: inner(5, "f", 5), 5: leaf()}, false},
		{"a kid in two nodes", map[uint64]api.Node{2: inner(4, "f", 6)}, false},
		{"a node that is its own kid", map[uint64]api.Node{2: inner(2, "f", 5)}, false},
		{"the root as a kid", map[uint64]api.Node{2: inner(4, "f", 1)}, false},
		{"a leaf too high", map[uint64]api.Node{3: leaf("m")}, false},
		{"the first leaf too high", map[uint64]api.Node{2: leaf("a")}, false},
		{"leaves too low", map[uint64]api.Node{7: inner(8, "u", 9), 8: leaf("t"), 9: leaf("u")}, false},
		{"the first leaf too low", map[uint64]api.Node{4: inner(8, "b", 9), 8: leaf("a"), 9: leaf("c")}, false},
		{"three entries", map[uint64]api.Node{4: leaf("a", "b", "c")}, false},
		{"no entries at all", map[uint64]api.Node{4: leaf(), 5: leaf(), 6: leaf(), 7: leaf()}, true},
		{"three kids", map[uint64]api.Node{2: three, 8: leaf("d")}, false},
		{"one kid", map[uint64]api.Node{2: one}, true},
		{"three messages for one kid", map[uint64]api.Node{3: inner(6, "t", 7, nil, puts("z", 6, 7, 8))}, false},
		{"three messages for two kids", map[uint64]api.Node{3: inner(6, "t", 7, puts("m", 4), puts("z", 6, 7))}, false},
		{"two messages for two kids", map[uint64]api.Node{3: inner(6, "t", 7, puts("m", 4), puts("z", 6))}, true},
	})
}

func TestSoundKeysAndSeqs(t *testing.T) {
	areSound(t, []hand{
		{"an entry on the pivot of its node", map[uint64]api.Node{4: leaf("f")}, false},
		{"an entry ahead of the pivot of its node", map[uint64]api.Node{5: leaf("e\xff")}, false},
		{"an entry right ahead of the pivot of its node", map[uint64]api.Node{4: leaf("e\xff")}, true},
		{"an entry on the root's pivot", map[uint64]api.Node{5: leaf("m")}, false},
		{"an entry behind the root's pivot", map[uint64]api.Node{5: leaf("f", "n")}, false},
		{"an entry ahead of the root's pivot", map[uint64]api.Node{6: leaf("l", "n")}, false},
		{"an entry on the root's pivot, where it belongs", map[uint64]api.Node{6: leaf("m")}, true},
		{"a pivot on the root's", map[uint64]api.Node{2: inner(4, "m", 5), 5: leaf()}, false},
		{"a pivot behind the root's", map[uint64]api.Node{2: inner(4, "n", 5), 5: leaf()}, false},
		{"a pivot right ahead of the root's", map[uint64]api.Node{2: inner(4, "l\xff", 5), 5: leaf()}, true},
		{"a pivot ahead of the root's", map[uint64]api.Node{3: inner(6, "l\xff", 7)}, false},
		{"a pivot on the root's, where it belongs", map[uint64]api.Node{3: inner(6, "m", 7)}, true},
		{"a message as young as what waits above", map[uint64]api.Node{2: inner(4, "f", 5, puts("a", 10))}, true},
		{"a younger message", map[uint64]api.Node{2: inner(4, "f", 5, puts("a", 11))}, false},
		{"a younger message for the second kid", map[uint64]api.Node{2: inner(4, "f", 5, nil, puts("f", 11))}, false},
		{"the second message younger", map[uint64]api.Node{3: inner(6, "t", 7, nil, puts("z", 6, 12))}, false},
		{"the first message above younger", map[uint64]api.Node{1: inner(2, "m", 3, nil, puts("x", 7, 20))}, true},
		{"the first message above older", map[uint64]api.Node{1: inner(2, "m", 3, nil, puts("x", 6, 20))}, false},
		{"a younger message than what waits for the other kid", map[uint64]api.Node{1: inner(2, "m", 3, nil, puts("x", 11)), 2: inner(4, "f", 5, puts("a", 99))}, true},
		{"a Grow that has come to one kid", map[uint64]api.Node{1: inner(2, "m", 3, nil, []api.Msg{grow(20, 1, "")}), 2: inner(4, "f", 5, []api.Msg{grow(20, 1, "")}, []api.Msg{grow(20, 1, "")})}, true},
	})
}

func TestSoundWithoutNodes(t *testing.T) {
	for id := range uint64(7) {
		m := byHand()
		m.Drop(id + 1)
		isSound(t, m, handShape, 1, false)
	}
}

// TestSoundFromFarAbove asks whether what waits, and which pivots stand, more than one node above is looked at.
func TestSoundFromFarAbove(t *testing.T) {
	// over lays a root 8 above the tree made by hand, which is its first kid, with the keys below the pivot, or its second one.
	over := func(pivot string, second bool) *Mem {
		m := byHand()
		m.Put(1, inner(2, "m", 3))
		m.Put(8, inner(1, pivot, 9, puts("a", 20)))
		if second {
			m.Put(8, inner(9, pivot, 1, nil, puts("n", 20)))
		}
		m.Put(9, api.Node{Kids: []uint64{10}, Bufs: make([][]api.Msg, 1)})
		m.Put(10, api.Node{Kids: []uint64{11}, Bufs: make([][]api.Msg, 1)})
		m.Put(11, leaf())
		return m
	}
	for _, x := range []struct {
		pivot  string
		second bool
		id     uint64
		n      api.Node
		want   bool
	}{
		{"v", false, 7, leaf("t", "u\xff"), true},
		{"v", false, 7, leaf("t", "v"), false},
		{"v", false, 3, inner(6, "u\xff", 7), false},
		{"v", false, 3, inner(6, "v", 7), false},
		{"v", false, 3, inner(6, "t", 7, nil, puts("z", 20)), true},
		{"v", false, 3, inner(6, "t", 7, nil, puts("z", 21)), false},
		{"b", true, 4, leaf("b", "c"), true},
		{"b", true, 4, leaf("a\xff", "c"), false},
		{"b", true, 2, inner(4, "a\xff", 5), false},
		{"b", true, 3, inner(6, "t", 7, puts("n", 20)), true},
		{"b", true, 3, inner(6, "t", 7, puts("n", 21)), false},
	} {
		m := over(x.pivot, x.second)
		if x.second && x.id != 4 {
			m.Put(4, leaf("c"))
		}
		m.Put(x.id, x.n)
		if plain(m, handShape, 8) != x.want || Sound(m, handShape, 8) != x.want {
			t.Errorf("%+v: %v", x, !x.want)
		}
	}
}

func TestSoundByTheShape(t *testing.T) {
	m := byHand()
	for leaf := -1; leaf < 67; leaf++ {
		for fan := -1; fan < 19; fan++ {
			for _, buf := range []int{-1, 0, 1, 2, 3, 127, 128, 129} {
				want := leaf >= 2 && leaf <= 64 && fan >= 2 && fan <= 16 && buf >= 2 && buf <= 128
				if got := Sound(m, api.Shape{Leaf: leaf, Fan: fan, Buf: buf}, 1); got != want {
					t.Fatal(fmt.Sprint("Leaf ", leaf, ", Fan ", fan, ", Buf ", buf, ": ", got))
				}
			}
		}
	}
	m = NewMem()
	m.Put(1, leaf("a"))
	isSound(t, m, api.Shape{Leaf: 2, Fan: 2, Buf: 1}, 1, true)
	m.Put(1, leaf("a", "b", "c"))
	isSound(t, m, api.Shape{Leaf: 2, Fan: 2, Buf: 1}, 1, false)
	isSound(t, m, api.Shape{Leaf: 3, Fan: 2, Buf: 1}, 1, true)
}
