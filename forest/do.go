package forest

import (
	"strings"

	"granary/api"
	"granary/msg"
	"granary/tree"
	"granary/wal"
)

// mostTree is the greatest number of a tree.
const mostTree = 65535

// Do does operations, all or none, for a transaction, or at once (0); ErrState, ErrDown, ErrArg, ErrBound, ErrTwice, ErrNone, ErrBusy, ErrFull.
func (f *Forest) Do(txn uint64, ops []Op) api.Errno {
	if errno := f.state(); errno != api.OK || len(ops) == 0 {
		return errno
	}
	if errno := f.mayDo(txn, ops); errno != api.OK {
		return errno
	}
	size := sizeOf(ops)
	// More than 65535 operations are too long as well.
	if size > api.MaxBlock {
		return api.ErrBound
	}
	if f.log.Room()-wal.Count(size) < f.reserve(txn) {
		return api.ErrFull
	}
	return f.carryOut(record{recDo, txn, ops})
}

// Commit keeps what a transaction has made, and ends it; ErrState, ErrDown, ErrNone.
func (f *Forest) Commit(txn uint64) api.Errno { return f.end(recCommit, txn) }

// Abort ends a transaction, and nothing is left of what it has made; ErrState, ErrDown, ErrNone.
func (f *Forest) Abort(txn uint64) api.Errno { return f.end(recAbort, txn) }

// end ends a transaction by a record of this kind; ErrState, ErrDown, ErrNone.
func (f *Forest) end(kind int, txn uint64) api.Errno {
	if errno := f.state(); errno != api.OK {
		return errno
	}
	if !f.isOpen(txn) {
		return api.ErrNone
	}
	return f.carryOut(record{kind: kind, txn: txn})
}

// isOpen tells whether a transaction is.
func (f *Forest) isOpen(txn uint64) bool { return len(f.open[txn]) > 0 }

// reserve answers how many pieces of the log are held back for the ends of the open transactions, this one among them.
func (f *Forest) reserve(txn uint64) int {
	if txn == 0 || f.isOpen(txn) {
		return len(f.open)
	}
	return len(f.open) + 1
}

// carryOut logs a record that may be carried out, and does what it says; ErrDown.
func (f *Forest) carryOut(r record) api.Errno {
	if _, errno := f.log.Append(r.bytes()); errno != api.OK {
		return f.after(errno)
	}
	f.apply(r)
	if r.isKept() {
		return f.after(f.disk.Sync())
	}
	return f.after(api.OK)
}

// isKept tells whether something is kept by the record.
func (r record) isKept() bool { return r.kind == recCommit || r.kind == recDo && r.txn == 0 }

// apply does in the trees what a record says.
func (f *Forest) apply(r record) {
	switch r.kind {
	case recDo:
		for _, op := range r.ops {
			f.do(r.txn, op)
		}
	case recCommit:
		f.finish(r.txn, api.MsgCommit)
	case recAbort:
		f.finish(r.txn, api.MsgAbort)
	}
}

// do does an operation.
func (f *Forest) do(txn uint64, op Op) {
	switch op.Kind {
	case OpMake:
		// The setup's shape is one, so nothing but the root is answered.
		f.roots[op.Tree], _ = tree.Make(f.store, f.setup.Shape)
	case OpDrop:
		tree.Drop(f.store, f.roots[op.Tree])
		delete(f.roots, op.Tree)
	case OpMsg:
		m := op.logged()
		m.Txn = txn
		f.inject(op.Tree, m)
		if txn != 0 {
			f.touch(txn, spot{op.Tree, m.Key})
		}
	}
}

// inject lays a message into a tree.
func (f *Forest) inject(number int, m api.Msg) {
	f.seq++
	m.Seq = f.seq
	if root, errno := tree.Inject(f.store, f.setup.Shape, f.roots[number], m); errno == api.OK {
		f.roots[number] = root
	}
}

// touch notes that an open transaction has touched a key.
func (f *Forest) touch(txn uint64, s spot) {
	if f.owner[s] != 0 {
		return
	}
	s.key = strings.Clone(s.key)
	f.owner[s] = txn
	f.open[txn] = append(f.open[txn], s)
}

// finish sends a transaction's end to all keys that it has touched.
func (f *Forest) finish(txn uint64, kind int) {
	for _, s := range f.open[txn] {
		f.inject(s.tree, api.Msg{Kind: kind, Key: s.key, Txn: txn})
		delete(f.owner, s)
	}
	delete(f.open, txn)
}

// mayDo tells whether operations may be done, one behind the other; ErrArg, ErrBound, ErrTwice, ErrNone, ErrBusy.
func (f *Forest) mayDo(txn uint64, ops []Op) api.Errno {
	last := map[int]int{} // the kind of the operation by which a tree was made or dropped last
	for _, op := range ops {
		if errno := op.holds(txn); errno != api.OK {
			return errno
		}
		_, there := f.roots[op.Tree]
		if kind, changed := last[op.Tree]; changed {
			there = kind == OpMake
		}
		switch {
		case op.Kind == OpMake && there:
			return api.ErrTwice
		case op.Kind != OpMake && !there:
			return api.ErrNone
		case f.isHeld(txn, op):
			return api.ErrBusy
		}
		if op.Kind != OpMsg {
			last[op.Tree] = op.Kind
		}
	}
	return api.OK
}

// holds tells whether an operation is right by itself in a Do of a transaction; ErrArg, ErrBound.
func (op Op) holds(txn uint64) api.Errno {
	if !within(op.Kind, OpMsg, OpDrop) || !within(op.Tree, 1, mostTree) {
		return api.ErrArg
	}
	if op.Kind != OpMsg {
		if txn != 0 {
			return api.ErrArg
		}
		return api.OK
	}
	m := op.logged()
	errno := msg.Check(m)
	if m.Kind > api.MsgGrow || m.Kind == api.MsgGrow && txn != 0 {
		return api.ErrArg
	}
	return errno
}

// isHeld tells whether another open transaction has touched what an operation changes.
func (f *Forest) isHeld(txn uint64, op Op) bool {
	switch {
	case op.Kind == OpMsg && op.Msg.Kind != api.MsgGrow:
		owner := f.owner[spot{op.Tree, op.Msg.Key}]
		return owner != 0 && owner != txn
	case op.Kind == OpDrop:
		for s := range f.owner {
			if s.tree == op.Tree {
				return true
			}
		}
	}
	return false
}
