package forest

import (
	"bytes"

	"granary/api"
	"granary/pack"
)

// The kinds of records.
const (
	recDo     = 1
	recCommit = 2
	recAbort  = 3
)

// The bytes of a Do's record ahead of its operations, and of an operation without its texts.
const (
	doSize = 11
	opSize = 18
)

// record is what the log holds of a call.
type record struct {
	kind int
	txn  uint64
	ops  []Op // of a Do
}

// sizeOf answers how many bytes the record of a Do has.
func sizeOf(ops []Op) int {
	size := doSize
	for _, op := range ops {
		m := op.logged()
		size += opSize + len(m.Key) + len(m.Val)
	}
	return size
}

// logged answers the message of an operation, as far as it plays a part.
func (op Op) logged() api.Msg {
	if op.Kind != OpMsg {
		return api.Msg{}
	}
	m := op.Msg
	m.Seq, m.Txn = 0, 0
	return m
}

// bytes answers a record's bytes.
func (r record) bytes() []byte {
	o := &pack.Out{}
	o.U8(uint8(r.kind))
	o.U64(r.txn)
	if r.kind != recDo {
		return o.Bytes()
	}
	o.U16(uint16(len(r.ops)))
	for _, op := range r.ops {
		m := op.logged()
		o.U8(uint8(op.Kind))
		o.U16(uint16(op.Tree))
		o.U8(uint8(m.Kind))
		o.Text(m.Key)
		o.Text(m.Val)
		o.U16(uint16(m.Off))
		o.U64(m.Num)
	}
	return o.Bytes()
}

// readRecord answers the record with these bytes, if they are those of one.
func readRecord(b []byte) (record, bool) {
	in := pack.To(b)
	r := record{kind: int(in.U8()), txn: in.U64()}
	if r.kind == recDo {
		for range in.U16() {
			op := Op{Kind: int(in.U8()), Tree: int(in.U16())}
			op.Msg.Kind, op.Msg.Key, op.Msg.Val = int(in.U8()), in.Text(), in.Text()
			op.Msg.Off, op.Msg.Num = int(in.U16()), in.U64()
			r.ops = append(r.ops, op)
		}
	}
	return r, within(r.kind, recDo, recAbort) && bytes.Equal(b, r.bytes())
}
