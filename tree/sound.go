package tree

import (
	"math"

	"granary/api"
	"granary/node"
)

// Sound tells whether a tree holds together: whether its nodes are right, and stand to one another as they must.
func Sound(s Store, sh api.Shape, root uint64) bool {
	if !isShape(sh) {
		return false
	}
	a := audit{store: s, shape: sh, seen: map[uint64]struct{}{}}
	return a.holds(root, place{span: api.Span{Open: true}, depth: 1, oldest: math.MaxUint64})
}

// audit goes through all nodes of a tree.
type audit struct {
	store Store
	shape api.Shape
	seen  map[uint64]struct{} // the nodes that were reached
	depth int                 // that of the first leaf; 0, as long as none was reached
}

// place is where a node lies in its tree.
type place struct {
	span   api.Span // the pivots above leave these keys to it
	depth  int      // the root's is 1
	oldest uint64   // the least Seq of what waits above for the node
}

// holds tells whether what can be reached from a node's number is sound.
func (a *audit) holds(id uint64, p place) bool {
	if _, twice := a.seen[id]; twice {
		return false
	}
	a.seen[id] = struct{}{}
	n, ok := a.store.Get(id)
	if !ok || !node.Right(n) {
		return false
	}
	if n.Leaf {
		return a.leafHolds(n, p)
	}
	return a.innerHolds(n, p)
}

// leafHolds tells whether a right leaf is sound.
func (a *audit) leafHolds(n api.Node, p place) bool {
	if a.depth == 0 {
		a.depth = p.depth
	}
	if p.depth != a.depth || len(n.Entries) > a.shape.Leaf {
		return false
	}
	for _, e := range n.Entries {
		if !p.has(e.Key) {
			return false
		}
	}
	return true
}

// innerHolds tells whether a right inner node is sound, and all that lies below it.
func (a *audit) innerHolds(n api.Node, p place) bool {
	if len(n.Kids) > a.shape.Fan || node.Waiting(n) > a.shape.Buf {
		return false
	}
	for _, pivot := range n.Pivots {
		if !p.has(pivot) {
			return false
		}
	}
	for kid, buf := range n.Bufs {
		// The Seqs of a Buf rise.
		if len(buf) > 0 && buf[len(buf)-1].Seq > p.oldest {
			return false
		}
		if !a.holds(n.Kids[kid], p.below(n, kid)) {
			return false
		}
	}
	return true
}

// has tells whether a key may lie there.
func (p place) has(key string) bool {
	return key >= p.span.Lo && (p.span.Open || key < p.span.Hi)
}

// below answers the place of a kid of the inner node that lies there.
func (p place) below(n api.Node, kid int) place {
	p.depth++
	if kid > 0 {
		p.span.Lo = n.Pivots[kid-1]
	}
	if kid < len(n.Pivots) {
		p.span.Hi, p.span.Open = n.Pivots[kid], false
	}
	if buf := n.Bufs[kid]; len(buf) > 0 {
		p.oldest = buf[0].Seq
	}
	return p
}
