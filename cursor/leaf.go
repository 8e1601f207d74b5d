package cursor

import (
	"maps"
	"slices"
	"strings"

	"granary/api"
	"granary/msg"
	"granary/node"
	"granary/tree"
)

// leaf is what a cursor keeps of the one of the tree's leaves in which it stands.
type leaf struct {
	span  api.Span   // the keys of the cursor's span that may stand in this leaf
	pairs []api.Pair // those that stand there, by their keys
}

// startsWith tells whether no key of the cursor's span lies ahead of the leaf.
func (l leaf) startsWith(span api.Span) bool { return l.span.Lo == span.Lo }

// endsWith tells whether no key of the cursor's span lies behind the leaf.
func (l leaf) endsWith(span api.Span) bool {
	return l.span.Hi == span.Hi && l.span.Open == span.Open
}

// ahead answers how many pairs have keys below this one.
func (l leaf) ahead(key string) int {
	at, _ := slices.BinarySearchFunc(l.pairs, key, func(p api.Pair, key string) int { return strings.Compare(p.Key, key) })
	return at
}

// way answers for an inner node the kid to go on with.
type way func(n api.Node) int

// toKey answers the way to the leaf of a key.
func toKey(key string) way {
	return func(n api.Node) int { return node.Route(n, key) }
}

// toEnd answers the way to the leaf of the keys right below the upper end of a span.
func toEnd(span api.Span) way {
	return func(n api.Node) int {
		kid := 0
		for kid < len(n.Pivots) && isBelowEnd(span, n.Pivots[kid]) {
			kid++
		}
		return kid
	}
}

// read answers what a transaction sees of the leaf to which a way leads from a tree's root, as far as the leaf lies in a span.
func read(s tree.Store, root uint64, w way, span api.Span, txn uint64) leaf {
	var above [][]api.Msg
	n := load(s, root)
	for !n.Leaf {
		kid := w(n)
		above = append(above, n.Bufs[kid])
		span = narrow(span, n, kid)
		n = load(s, n.Kids[kid])
	}
	// What waits above a leaf may be for the leaves beside it.
	elsewhere := func(m api.Msg) bool { return m.Kind != api.MsgGrow && !isIn(span, m.Key) }
	waiting := slices.DeleteFunc(merge(above), elsewhere)
	return leaf{span, view(entries(n, waiting, span), waiting, txn)}
}

// load answers a node of a tree. There each one is there; where one is missing all the same, it holds nothing.
func load(s tree.Store, id uint64) api.Node {
	n, ok := s.Get(id)
	if !ok {
		return api.Node{Leaf: true}
	}
	return n
}

// narrow answers the keys of a span that an inner node leaves to a kid.
func narrow(span api.Span, n api.Node, kid int) api.Span {
	if kid > 0 {
		span.Lo = max(span.Lo, n.Pivots[kid-1])
	}
	if kid < len(n.Pivots) && isBelowEnd(span, n.Pivots[kid]) {
		span.Hi, span.Open = n.Pivots[kid], false
	}
	return span
}

// entries answers, by their keys, the entries of a span of which a leaf and what waits above it say anything, as they stand in the leaf.
func entries(n api.Node, waiting []api.Msg, span api.Span) map[string]api.Entry {
	found := map[string]api.Entry{}
	for _, m := range waiting {
		// A Grow makes nothing of an entry that isn't there.
		if m.Kind != api.MsgGrow {
			found[m.Key] = api.Entry{Key: m.Key}
		}
	}
	for _, e := range n.Entries {
		if isIn(span, e.Key) {
			found[e.Key] = e
		}
	}
	return found
}

// view answers what a transaction sees of entries behind what waits for them, the oldest message first.
func view(found map[string]api.Entry, waiting []api.Msg, txn uint64) []api.Pair {
	var pairs []api.Pair
	for _, key := range slices.Sorted(maps.Keys(found)) {
		val, ok := msg.View(msg.Fold(found[key], waiting), txn)
		if ok {
			pairs = append(pairs, api.Pair{Key: key, Val: val})
		}
	}
	return pairs
}

// isIn tells whether a key lies in a span.
func isIn(span api.Span, key string) bool { return key >= span.Lo && isBelowEnd(span, key) }

// isBelowEnd tells whether a key lies below the upper end of a span.
func isBelowEnd(span api.Span, key string) bool { return span.Open || key < span.Hi }
