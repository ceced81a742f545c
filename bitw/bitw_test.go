package bitw

import (
	"bytes"
	"math"
	"math/bits"
	"testing"
)

// putting is one call of Put.
type putting struct {
	v uint32
	n int
}

// plainBits lays bits one to an item, by the chapter's words alone, so that the Writer's packing is held against something simpler.
func plainBits(l []putting) []int {
	var out []int
	for _, p := range l {
		v := p.v
		for n := p.n; n > 0; n-- {
			out = append(out, int(v%2))
			v /= 2
		}
	}
	return out
}

// plainBytes are such bits, eight in a byte, the first one worth 1.
func plainBytes(l []int) []byte {
	out := []byte{}
	for len(l) > 0 {
		sum, worth := 0, 1
		for k := 0; k < 8 && k < len(l); k++ {
			sum += l[k] * worth
			worth *= 2
		}
		out = append(out, byte(sum))
		l = l[min(8, len(l)):]
	}
	return out
}

func putAll(t *testing.T, w *Writer, l []putting) {
	t.Helper()
	for _, p := range l {
		if !w.Put(p.v, p.n) {
			t.Fatalf("Put(%#x, %d) is refused", p.v, p.n)
		}
	}
}

// mustHave holds all that a writer tells against what was put.
func mustHave(t *testing.T, w *Writer, l []putting) {
	t.Helper()
	want := plainBits(l)
	if got := w.Bits(); got != len(want) {
		t.Fatalf("Bits: %d, want %d", got, len(want))
	}
	if got, want := w.Bytes(), plainBytes(want); !bytes.Equal(got, want) {
		t.Fatalf("Bytes: %v, want %v", got, want)
	}
	if got, want := w.Close(), plainBytes(append(want, 1)); !bytes.Equal(got, want) {
		t.Fatalf("Close: %v, want %v", got, want)
	}
}

// manyPuttings is a long list of unlike widths and numbers, the same one each time.
func manyPuttings(many int) []putting {
	l := make([]putting, many)
	x := uint64(1)
	for i := range l {
		x = x*6364136223846793005 + 1442695040888963407
		l[i] = putting{uint32(x >> 32), int(x>>20) & 0xff % (MaxBits + 1)}
	}
	return l
}

// P1.1: New is a writer without bits; P1.2: then there are no bytes, and what is closed has the mark alone.
func TestNewHasNoBits(t *testing.T) {
	w := New()
	if w == nil {
		t.Fatal("New: nil")
	}
	if w.Bits() != 0 || len(w.Bytes()) != 0 || !bytes.Equal(w.Close(), []byte{1}) {
		t.Error(w.Bits(), w.Bytes(), w.Close())
	}
}

func TestMaxBits(t *testing.T) {
	if MaxBits != 24 {
		t.Error(MaxBits)
	}
}

// P1.1, P1.2: the chapter's example.
func TestExample(t *testing.T) {
	w := New()
	putAll(t, w, []putting{{5, 3}, {1, 2}})
	if w.Bits() != 5 || !bytes.Equal(w.Bytes(), []byte{13}) || !bytes.Equal(w.Close(), []byte{45}) {
		t.Error(w.Bits(), w.Bytes(), w.Close())
	}
}

// P1.1, P1.2: bytes written out by hand, across the ends of bytes.
func TestPutLaysBitsInOrder(t *testing.T) {
	for _, c := range []struct {
		puts          []putting
		bytes, closed []byte
	}{
		{[]putting{{0, 1}}, []byte{0}, []byte{2}},
		{[]putting{{1, 1}}, []byte{1}, []byte{3}},
		{[]putting{{0, 1}, {1, 1}}, []byte{2}, []byte{6}},
		{[]putting{{2, 2}}, []byte{2}, []byte{6}},
		{[]putting{{0, 7}}, []byte{0}, []byte{128}},
		{[]putting{{0, 8}}, []byte{0}, []byte{0, 1}},
		{[]putting{{0x80, 8}}, []byte{0x80}, []byte{0x80, 1}},
		{[]putting{{0, 9}}, []byte{0, 0}, []byte{0, 2}},
		{[]putting{{0x123456, 24}}, []byte{0x56, 0x34, 0x12}, []byte{0x56, 0x34, 0x12, 1}},
		{[]putting{{1, 1}, {0x123456, 24}}, []byte{0xad, 0x68, 0x24, 0}, []byte{0xad, 0x68, 0x24, 2}},
		{[]putting{{7, 3}, {0, 3}, {7, 3}}, []byte{0xc7, 1}, []byte{0xc7, 3}},
	} {
		w := New()
		putAll(t, w, c.puts)
		if !bytes.Equal(w.Bytes(), c.bytes) || !bytes.Equal(w.Close(), c.closed) {
			t.Errorf("%v: Bytes %v, want %v; Close %v, want %v", c.puts, w.Bytes(), c.bytes, w.Close(), c.closed)
		}
	}
}

// P1.1: n that isn't from 0 to MaxBits is refused, and nothing is done, wherever in a byte the writer stands.
func TestPutRefusesWrongWidths(t *testing.T) {
	wrong := []int{-1, -8, -24, math.MinInt32, math.MinInt, MaxBits + 1, 31, 32, 33, 64, 256, 1 << 32, math.MaxInt}
	for ahead := range 2 * byteBits {
		w := New()
		l := []putting{{0x5a5a, ahead}}
		putAll(t, w, l)
		for _, n := range wrong {
			if w.Put(math.MaxUint32, n) {
				t.Errorf("Put of %d bits behind %d is taken", n, ahead)
			}
			mustHave(t, w, l)
		}
		l = append(l, putting{0xabc, 12})
		putAll(t, w, l[1:])
		mustHave(t, w, l)
	}
}

// P1.1: no bits are put too, and that is true.
func TestPutOfNoBits(t *testing.T) {
	for ahead := range 2 * byteBits {
		w := New()
		l := []putting{{0x5a5a, ahead}}
		putAll(t, w, l)
		if !w.Put(math.MaxUint32, 0) || !w.Put(0, 0) {
			t.Errorf("no bits behind %d are refused", ahead)
		}
		mustHave(t, w, l)
	}
}

// P1.1, P1.2: each width, at each place of a byte, with something behind it.
func TestPutOfEachWidthAtEachPlace(t *testing.T) {
	for ahead := range 2*byteBits + 1 {
		for n := range MaxBits + 1 {
			for _, v := range []uint32{0, 1, 0x00a5c396, 0xff5a3c69, 1 << 23, 1 << 24, math.MaxUint32} {
				w := New()
				l := []putting{{0x15555, ahead}, {v, n}}
				putAll(t, w, l)
				mustHave(t, w, l)
				l = append(l, putting{5, 3})
				putAll(t, w, l[2:])
				mustHave(t, w, l)
			}
		}
	}
}

// P1.1: v's other bits play no part.
func TestOtherBitsPlayNoPart(t *testing.T) {
	for n := range MaxBits + 1 {
		for _, v := range []uint32{0, 0x00a5c396, math.MaxUint32} {
			low, high := New(), New()
			kept := v & (1<<n - 1)
			putAll(t, low, []putting{{1, 1}, {kept, n}, {0, 3}})
			putAll(t, high, []putting{{1, 1}, {kept | math.MaxUint32<<n, n}, {0, 3}})
			if !bytes.Equal(low.Bytes(), high.Bytes()) || !bytes.Equal(low.Close(), high.Close()) || low.Bits() != high.Bits() {
				t.Errorf("%#x in %d bits: %v, %v", v, n, low.Bytes(), high.Bytes())
			}
		}
	}
}

// P1.2: the last byte is filled up with 0, and bits that just fill a byte need no other one; the mark does.
func TestLastByte(t *testing.T) {
	w := New()
	for n := 1; n <= 5*byteBits; n++ {
		w.Put(1, 1)
		b, c := w.Bytes(), w.Close()
		if w.Bits() != n || len(b) != (n+7)/8 || len(c) != n/8+1 {
			t.Fatalf("%d bits: Bits %d, %d bytes, %d closed", n, w.Bits(), len(b), len(c))
		}
		in := (n-1)%byteBits + 1
		if want := byte(1<<in - 1); b[len(b)-1] != want {
			t.Fatalf("%d bits: last byte %d, want %d", n, b[len(b)-1], want)
		}
	}
}

// P1.2: Bytes and Close change nothing, asked ever so often between puts.
func TestBytesAndCloseChangeNothing(t *testing.T) {
	l := manyPuttings(200)
	asked, left := New(), New()
	for i := range l {
		asked.Close()
		asked.Bytes()
		asked.Close()
		putAll(t, asked, l[i:i+1])
		mustHave(t, asked, l[:i+1])
	}
	putAll(t, left, l)
	if !bytes.Equal(asked.Bytes(), left.Bytes()) || !bytes.Equal(asked.Close(), left.Close()) || asked.Bits() != left.Bits() {
		t.Error("asking changed the writer")
	}
}

// P1.3: of what is closed the last byte isn't 0, and its highest bit 1 tells how many bits are ahead of it.
func TestMarkStandsBehindAll(t *testing.T) {
	for _, v := range []uint32{0, math.MaxUint32} {
		w := New()
		for n := range 6 * byteBits {
			c := w.Close()
			last := c[len(c)-1]
			if last == 0 {
				t.Fatalf("%d bits: last byte 0", n)
			}
			if ahead := (len(c)-1)*byteBits + bits.Len8(last) - 1; ahead != n {
				t.Fatalf("%d bits: the mark is behind %d", n, ahead)
			}
			w.Put(v, 1)
		}
	}
}

// P1.1, P1.2: many puts of unlike widths.
func TestManyPuts(t *testing.T) {
	l := manyPuttings(20000)
	w := New()
	putAll(t, w, l)
	mustHave(t, w, l)
}

// R5: who changes what was answered changes neither the writer nor another answer.
func TestAnswersAreTheirOwnMemory(t *testing.T) {
	for _, ask := range []func(*Writer) []byte{(*Writer).Bytes, (*Writer).Close} {
		for n := range 4 * byteBits {
			w := New()
			l := []putting{{0x5a5a5a, n % 25}, {0x33, n / 25 * 7}}
			putAll(t, w, l)
			other := ask(w)
			kept := bytes.Clone(other)
			mine := ask(w)
			mine = mine[:cap(mine)]
			for i := range mine {
				mine[i] ^= 0xff
			}
			mustHave(t, w, l)
			if !bytes.Equal(other, kept) {
				t.Fatalf("%d bits: two answers share memory", w.Bits())
			}
			more := append(l, putting{math.MaxUint32, 11})
			putAll(t, w, more[2:])
			mustHave(t, w, more)
			if !bytes.Equal(other, kept) {
				t.Fatalf("%d bits: putting changed an answer", w.Bits())
			}
		}
	}
}

// R6: writers stand apart.
func TestWritersStandApart(t *testing.T) {
	a, b := New(), New()
	if a == b {
		t.Fatal("one writer for both")
	}
	la, lb := manyPuttings(50), []putting{{9, 4}, {1, 9}}
	for i, p := range la {
		putAll(t, a, []putting{p})
		if i < len(lb) {
			putAll(t, b, lb[i:i+1])
		}
	}
	mustHave(t, a, la)
	mustHave(t, b, lb)
}
