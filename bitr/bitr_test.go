package bitr

import (
	"bytes"
	"math"
	"testing"

	"puncheon/api"
	"puncheon/bitw"
)

// wrongWidths are never taken, whatever is left.
var wrongWidths = []int{-1, -8, -24, math.MinInt32, math.MinInt, MaxBits + 1, 31, 32, 33, 64, 256, 1 << 32, math.MaxInt}

// plainBits are all bits ahead of the mark, one to an item, by the chapters' words alone, so that the Reader's reckoning is held against something simpler.
func plainBits(b []byte) []int {
	var out []int
	for _, x := range b {
		for v, k := int(x), 0; k < 8; k++ {
			out = append(out, v%2)
			v /= 2
		}
	}
	for out[len(out)-1] == 0 {
		out = out[:len(out)-1]
	}
	return out[:len(out)-1]
}

// plainNumber is such bits as a number, the first one worth 1.
func plainNumber(l []int) uint32 {
	sum, worth := 0, 1
	for _, x := range l {
		sum += x * worth
		worth *= 2
	}
	return uint32(sum)
}

// manyBytes is a long list, the same one each time; its last byte isn't 0.
func manyBytes(many int) []byte {
	l := make([]byte, many)
	x := uint64(1)
	for i := range l {
		x = x*6364136223846793005 + 1442695040888963407
		l[i] = byte(x >> 40)
	}
	l[many-1] |= 4
	return l
}

func mustNew(t *testing.T, b []byte) *Reader {
	t.Helper()
	r, e := New(b)
	if r == nil || e != api.OK {
		t.Fatalf("New(%v): %v, %v", b, r, e)
	}
	return r
}

func mustTake(t *testing.T, r *Reader, n int, want uint32) {
	t.Helper()
	left := r.Left()
	v, ok := r.Take(n)
	if !ok || v != want {
		t.Fatalf("Take(%d) of %d: %#x, %v, want %#x", n, left, v, ok, want)
	}
	if r.Left() != left-n {
		t.Fatalf("Take(%d) of %d leaves %d", n, left, r.Left())
	}
}

func mustRefuse(t *testing.T, r *Reader, n int) {
	t.Helper()
	left := r.Left()
	if v, ok := r.Take(n); ok || v != 0 {
		t.Fatalf("Take(%d) of %d: %#x, %v, want none", n, left, v, ok)
	}
	if r.Left() != left {
		t.Fatalf("a refused Take(%d) of %d leaves %d", n, left, r.Left())
	}
}

// mustHave takes all bits, one by one, and holds them against those of the bytes.
func mustHave(t *testing.T, r *Reader, want []int) {
	t.Helper()
	if r.Left() != len(want) {
		t.Fatalf("Left: %d, want %d", r.Left(), len(want))
	}
	for i := len(want) - 1; i >= 0; i-- {
		mustTake(t, r, 1, uint32(want[i]))
	}
	mustRefuse(t, r, 1)
	mustTake(t, r, 0, 0)
}

func TestMaxBits(t *testing.T) {
	if MaxBits != 24 {
		t.Error(MaxBits)
	}
}

// P2.1, P2.2: the chapter's example.
func TestExample(t *testing.T) {
	r := mustNew(t, []byte{45})
	if r.Left() != 5 {
		t.Fatal(r.Left())
	}
	mustTake(t, r, 2, 1)
	mustTake(t, r, 3, 5)
	if r.Left() != 0 {
		t.Error(r.Left())
	}
}

// P2.1: without bytes, or with a last one that is 0, there is no mark, whatever is ahead; R3: and no reader.
func TestNewWithoutMark(t *testing.T) {
	for _, b := range [][]byte{nil, {}, {0}, {0, 0}, {1, 0}, {255, 0}, {5, 45, 0}, {255, 255, 255, 255, 0}, append(manyBytes(1000), 0)} {
		if r, e := New(b); r != nil || e != api.ErrMark {
			t.Errorf("New(%v): %v, %v", b, r, e)
		}
	}
}

// P2.1: only the last byte must not be 0.
func TestNewWithZerosAhead(t *testing.T) {
	r := mustNew(t, []byte{0, 0, 0, 1})
	if r.Left() != 24 {
		t.Fatal(r.Left())
	}
	mustTake(t, r, 24, 0)
	mustRefuse(t, r, 1)
}

// P2.1, P2.2: a byte 1 alone is the mark alone: nothing is left, and no bits are taken of it.
func TestMarkAlone(t *testing.T) {
	r := mustNew(t, []byte{1})
	if r.Left() != 0 {
		t.Fatal(r.Left())
	}
	for n := 1; n <= MaxBits; n++ {
		mustRefuse(t, r, n)
	}
	mustTake(t, r, 0, 0)
}

// P2.1: the mark is the highest bit 1 of the last byte, whichever that byte is and whatever is ahead.
func TestEachLastByte(t *testing.T) {
	for last := 1; last < 256; last++ {
		for _, ahead := range [][]byte{{}, {0}, {255}, {0x5a, 0xc3}, {255, 0}} {
			b := append(bytes.Clone(ahead), byte(last))
			mustHave(t, mustNew(t, b), plainBits(b))
		}
	}
}

// P2.2: numbers written out by hand, across the ends of bytes.
func TestTakeByHand(t *testing.T) {
	type taking struct {
		n    int
		want uint32
	}
	for _, c := range []struct {
		b     []byte
		takes []taking
	}{
		{[]byte{2}, []taking{{1, 0}}},
		{[]byte{3}, []taking{{1, 1}}},
		{[]byte{6}, []taking{{1, 1}, {1, 0}}},
		{[]byte{6}, []taking{{2, 2}}},
		{[]byte{128}, []taking{{7, 0}}},
		{[]byte{255}, []taking{{7, 127}}},
		{[]byte{0x80, 1}, []taking{{8, 0x80}}},
		{[]byte{0x80, 1}, []taking{{1, 1}, {7, 0}}},
		{[]byte{0x56, 0x34, 0x12, 1}, []taking{{24, 0x123456}}},
		{[]byte{0x56, 0x34, 0x12, 1}, []taking{{12, 0x123}, {12, 0x456}}},
		{[]byte{0x56, 0x34, 0x12, 1}, []taking{{4, 1}, {16, 0x2345}, {4, 6}}},
		{[]byte{0xad, 0x68, 0x24, 2}, []taking{{24, 0x123456}, {1, 1}}},
		{[]byte{0xc7, 3}, []taking{{3, 7}, {3, 0}, {3, 7}}},
		{[]byte{0x78, 0x56, 0x34, 0x12, 0x1f}, []taking{{20, 0xf1234}, {0, 0}, {16, 0x5678}}},
	} {
		r := mustNew(t, c.b)
		for _, x := range c.takes {
			mustTake(t, r, x.n, x.want)
		}
		if r.Left() != 0 {
			t.Errorf("%v: %d are left", c.b, r.Left())
		}
	}
}

// P2.2: each width, from each place, with what is left behind it.
func TestTakeOfEachWidthAtEachPlace(t *testing.T) {
	for _, b := range [][]byte{manyBytes(7), {255, 255, 255, 255, 255, 255, 255}, {0, 0, 0, 0, 0, 0, 64}} {
		all := plainBits(b)
		for behind := range MaxBits + 1 {
			for n := range MaxBits + 1 {
				r := mustNew(t, b)
				end := len(all) - behind
				mustTake(t, r, behind, plainNumber(all[end:]))
				mustTake(t, r, n, plainNumber(all[end-n:end]))
				mustHave(t, r, all[:end-n])
			}
		}
	}
}

// P2.2: a wrong n is refused, and nothing is done, wherever in a byte the reader stands.
func TestTakeRefusesWrongWidths(t *testing.T) {
	b := manyBytes(12)
	all := plainBits(b)
	for behind := range MaxBits + 1 {
		r := mustNew(t, b)
		end := len(all) - behind
		mustTake(t, r, behind, plainNumber(all[end:]))
		for _, n := range wrongWidths {
			mustRefuse(t, r, n)
		}
		mustHave(t, r, all[:end])
	}
}

// P2.2: n above Left is refused, and nothing is done; just Left is taken.
func TestTakeAboveLeft(t *testing.T) {
	b := manyBytes(6)
	all := plainBits(b)
	for left := range MaxBits {
		r := mustNew(t, b)
		for i := len(all) - 1; i >= left; i-- {
			mustTake(t, r, 1, uint32(all[i]))
		}
		for n := left + 1; n <= MaxBits; n++ {
			mustRefuse(t, r, n)
		}
		mustTake(t, r, left, plainNumber(all[:left]))
		mustHave(t, r, nil)
	}
}

// P2.2: no bits are taken too, from everywhere, and that is true.
func TestTakeOfNoBits(t *testing.T) {
	b := manyBytes(5)
	all := plainBits(b)
	r := mustNew(t, b)
	for i := len(all) - 1; i >= 0; i-- {
		mustTake(t, r, 0, 0)
		mustTake(t, r, 1, uint32(all[i]))
	}
	mustTake(t, r, 0, 0)
	mustTake(t, r, 0, 0)
}

// P2.3: what was put, and closed, is taken, the last one first; then nothing is left.
func TestTakenAsPut(t *testing.T) {
	type putting struct {
		v uint32
		n int
	}
	for many := range 300 {
		w := bitw.New()
		var l []putting
		x := uint64(many)
		for range many {
			x = x*6364136223846793005 + 1442695040888963407
			p := putting{uint32(x >> 32), int(x>>20) & 0xff % (bitw.MaxBits + 1)}
			if !w.Put(p.v, p.n) {
				t.Fatalf("Put(%#x, %d) is refused", p.v, p.n)
			}
			l = append(l, p)
		}
		r := mustNew(t, w.Close())
		if r.Left() != w.Bits() {
			t.Fatalf("%d puttings: Left %d, want %d", many, r.Left(), w.Bits())
		}
		for i := len(l) - 1; i >= 0; i-- {
			mustTake(t, r, l[i].n, l[i].v&(1<<l[i].n-1))
		}
		mustHave(t, r, nil)
	}
}

// R5: the bytes that were handed in are not kept: who changes them, at once or between takes, changes nothing.
func TestBytesAreNotKept(t *testing.T) {
	kept := manyBytes(40)
	all := plainBits(kept)
	b := bytes.Clone(kept)
	r := mustNew(t, b)
	for end := len(all); end > 0; {
		for i := range b {
			b[i] ^= 0xff
		}
		n := min(end, 11)
		mustTake(t, r, n, plainNumber(all[end-n:end]))
		end -= n
	}
}

// R5: the bytes that were handed in are not changed, nor what lies behind them in the same memory.
func TestBytesAreNotChanged(t *testing.T) {
	memory := manyBytes(64)
	kept := bytes.Clone(memory)
	for end := range len(memory) + 1 {
		r, e := New(memory[:end])
		if e == api.OK {
			for range 8 * end {
				r.Take(min(r.Left(), 13))
				r.Take(MaxBits + 1)
			}
		}
		if !bytes.Equal(memory, kept) {
			t.Fatalf("the first %d bytes: changed", end)
		}
	}
}

// R6: readers stand apart, those of the same bytes too.
func TestReadersStandApart(t *testing.T) {
	b := manyBytes(30)
	all := plainBits(b)
	one, other := mustNew(t, b), mustNew(t, b)
	if one == other {
		t.Fatal("one reader for both")
	}
	mustTake(t, one, 17, plainNumber(all[len(all)-17:]))
	mustHave(t, other, all)
	mustHave(t, one, all[:len(all)-17])
}
