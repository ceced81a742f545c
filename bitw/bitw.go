// Package bitw is layer 1: see shared/doc/01-bitw.md.
package bitw

// MaxBits is how many are put at once, at most.
const MaxBits = 24

const byteBits = 8

// Writer has bits.
type Writer struct {
	packed []byte // all bits; those behind the last one, in its byte, are 0
	bits   int
}

// New is one without bits.
func New() *Writer { return &Writer{} }

// Put puts some.
func (w *Writer) Put(v uint32, n int) bool {
	if n < 0 || n > MaxBits {
		return false
	}
	for i := range n {
		w.putBit(v>>i&1 == 1)
	}
	return true
}

func (w *Writer) putBit(one bool) {
	if w.bits%byteBits == 0 {
		w.packed = append(w.packed, 0)
	}
	if one {
		setBit(w.packed, w.bits)
	}
	w.bits++
}

// Bits is how many there are.
func (w *Writer) Bits() int { return w.bits }

// Bytes are all bits.
func (w *Writer) Bytes() []byte {
	out := make([]byte, len(w.packed))
	copy(out, w.packed)
	return out
}

// Close are all bits, and a mark.
func (w *Writer) Close() []byte {
	// The mark goes into the copy alone, so that more can be put afterwards.
	out := make([]byte, w.bits/byteBits+1)
	copy(out, w.packed)
	setBit(out, w.bits)
	return out
}

func setBit(b []byte, i int) {
	b[i/byteBits] |= 1 << (i % byteBits)
}
