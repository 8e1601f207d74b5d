package tree

import (
	"slices"

	"granary/api"
	"granary/msg"
	"granary/node"
)

// Get answers the entry of a key, with the Key alone, if the tree holds none; ErrNone.
func Get(s Store, root uint64, key string) (api.Entry, api.Errno) {
	n, ok := s.Get(root)
	if !ok {
		return api.Entry{}, api.ErrNone
	}
	var waiting [][]api.Msg
	for !n.Leaf {
		kid := node.Route(n, key)
		waiting = append(waiting, n.Bufs[kid])
		n = load(s, n.Kids[kid])
	}
	e := api.Entry{Key: key}
	if at, there := find(n.Entries, key); there {
		e = n.Entries[at]
	}
	// What waits further down is older.
	for _, l := range slices.Backward(waiting) {
		e = msg.Fold(e, l)
	}
	return fresh(e), api.OK
}

// Scan answers the first most entries of a span, or all of them, if most is below 0; ErrNone.
func Scan(s Store, root uint64, span api.Span, most int) ([]api.Entry, api.Errno) {
	n, ok := s.Get(root)
	if !ok {
		return nil, api.ErrNone
	}
	w := walk{store: s, span: span, most: most}
	w.through(n, nil)
	return w.found, api.OK
}

// walk goes through the nodes of a tree that have keys of a span, and gathers what is found.
type walk struct {
	store Store
	span  api.Span
	most  int // as many are gathered at most; all, if it is below 0
	found []api.Entry
}

// through gathers what lies at and below a node, for which messages wait above.
func (w *walk) through(n api.Node, above []api.Msg) {
	take(&n, above)
	w.gather(n.Entries)
	for kid := node.Route(n, w.span.Lo); kid < len(n.Kids) && !w.isFull(); kid++ {
		if kid > 0 && !w.isBelowEnd(n.Pivots[kid-1]) {
			return
		}
		w.through(load(w.store, n.Kids[kid]), n.Bufs[kid])
	}
}

// gather takes those entries of a leaf that are asked for.
func (w *walk) gather(entries []api.Entry) {
	from, _ := find(entries, w.span.Lo)
	for _, e := range entries[from:] {
		if w.isFull() || !w.isBelowEnd(e.Key) {
			return
		}
		w.found = append(w.found, fresh(e))
	}
}

// isFull tells whether as many are found as were asked for.
func (w *walk) isFull() bool { return w.most >= 0 && len(w.found) >= w.most }

// isBelowEnd tells whether a key lies below the upper end of the span.
func (w *walk) isBelowEnd(key string) bool { return w.span.Open || key < w.span.Hi }

// fresh answers the entry in memory of its own.
func fresh(e api.Entry) api.Entry { return msg.Fold(e, nil) }
