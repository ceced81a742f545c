package bitf

import (
	"bytes"
	"math"
	"testing"

	"puncheon/bitw"
)

// wrongWidths are never taken, whatever is left.
var wrongWidths = []int{-1, -8, -24, math.MinInt32, math.MinInt, MaxBits + 1, 31, 32, 33, 64, 256, 1 << 32, math.MaxInt}

// plainBits are all bits, one to an item, by the chapters' words alone, so that the Reader's reckoning is held against something simpler.
func plainBits(b []byte) []int {
	var out []int
	for _, x := range b {
		for v, k := int(x), 0; k < 8; k++ {
			out = append(out, v%2)
			v /= 2
		}
	}
	return out
}

// plainNumber is such bits as a number, the first one worth 1.
func plainNumber(l []int) uint32 {
	sum, worth := 0, 1
	for _, x := range l {
		sum += x * worth
		worth *= 2
	}
	return uint32(sum)
}

// manyBytes is a long list, the same one each time.
func manyBytes(many int) []byte {
	l := make([]byte, many)
	x := uint64(1)
	for i := range l {
		x = x*6364136223846793005 + 1442695040888963407
		l[i] = byte(x >> 40)
	}
	return l
}

func mustTake(t *testing.T, r *Reader, n int, want uint32) {
	t.Helper()
	left := r.Left()
	v, ok := r.Take(n)
	if !ok || v != want {
		t.Fatalf("Take(%d) of %d: %#x, %v, want %#x", n, left, v, ok, want)
	}
	if r.Left() != left-n {
		t.Fatalf("Take(%d) of %d leaves %d", n, left, r.Left())
	}
}

func mustRefuse(t *testing.T, r *Reader, n int) {
	t.Helper()
	left := r.Left()
	if v, ok := r.Take(n); ok || v != 0 {
		t.Fatalf("Take(%d) of %d: %#x, %v, want none", n, left, v, ok)
	}
	if r.Left() != left {
		t.Fatalf("a refused Take(%d) of %d leaves %d", n, left, r.Left())
	}
}

// mustPad answers as is wanted, and leaves as many bits as are wanted.
func mustPad(t *testing.T, r *Reader, want bool, left int) {
	t.Helper()
	ahead := r.Left()
	if ok := r.Pad(); ok != want {
		t.Fatalf("Pad of %d: %v, want %v", ahead, ok, want)
	}
	if r.Left() != left {
		t.Fatalf("Pad of %d leaves %d, want %d", ahead, r.Left(), left)
	}
}

func mustRest(t *testing.T, r *Reader, want []byte) {
	t.Helper()
	left := r.Left()
	if b := r.Rest(); !bytes.Equal(b, want) {
		t.Fatalf("Rest of %d: %v, want %v", left, b, want)
	}
	if r.Left() != left {
		t.Fatalf("Rest of %d leaves %d", left, r.Left())
	}
}

// mustHave takes all bits, one by one, and holds them against those that are wanted.
func mustHave(t *testing.T, r *Reader, want []int) {
	t.Helper()
	if r.Left() != len(want) {
		t.Fatalf("Left: %d, want %d", r.Left(), len(want))
	}
	for _, x := range want {
		mustTake(t, r, 1, uint32(x))
	}
	mustRefuse(t, r, 1)
	mustTake(t, r, 0, 0)
}

// readerAt is one of which the first bits were taken, one by one.
func readerAt(t *testing.T, b []byte, taken int) *Reader {
	t.Helper()
	r := New(b)
	for _, x := range plainBits(b)[:taken] {
		mustTake(t, r, 1, uint32(x))
	}
	return r
}

func TestMaxBits(t *testing.T) {
	if MaxBits != 24 {
		t.Error(MaxBits)
	}
}

// P3.1, P3.2, P3.3: the chapter's example.
func TestExample(t *testing.T) {
	r := New([]byte{13, 7})
	mustTake(t, r, 3, 5)
	mustTake(t, r, 2, 1)
	mustPad(t, r, true, 8)
	mustRest(t, r, []byte{7})
}

// P3.1, P3.2, P3.3: without bytes there is nothing; R4: a nil list is an empty one.
func TestNoBytes(t *testing.T) {
	for _, b := range [][]byte{nil, {}, manyBytes(3)[:0]} {
		r := New(b)
		if r == nil || r.Left() != 0 {
			t.Fatalf("New(%v): %v", b, r)
		}
		for n := 1; n <= MaxBits; n++ {
			mustRefuse(t, r, n)
		}
		for _, n := range wrongWidths {
			mustRefuse(t, r, n)
		}
		mustTake(t, r, 0, 0)
		mustPad(t, r, true, 0)
		mustRest(t, r, nil)
	}
}

// P3.1: all bits are there, those behind the last bit 1 too: there is no mark.
func TestAllBitsAreThere(t *testing.T) {
	for many := range 40 {
		for _, b := range [][]byte{manyBytes(many), make([]byte, many), bytes.Repeat([]byte{255}, many)} {
			mustHave(t, New(b), plainBits(b))
		}
	}
}

// P3.1: whichever a byte is, its bits stand the lowest first.
func TestEachByte(t *testing.T) {
	for x := range 256 {
		for _, b := range [][]byte{{byte(x)}, {byte(x), 0}, {0, byte(x)}, {255, byte(x), 0x5a}} {
			mustHave(t, New(b), plainBits(b))
		}
	}
}

// P3.2: numbers written out by hand, across the ends of bytes.
func TestTakeByHand(t *testing.T) {
	type taking struct {
		n    int
		want uint32
	}
	for _, c := range []struct {
		b     []byte
		takes []taking
	}{
		{[]byte{6}, []taking{{1, 0}, {2, 3}, {5, 0}}},
		{[]byte{128}, []taking{{7, 0}, {1, 1}}},
		{[]byte{255}, []taking{{8, 255}}},
		{[]byte{0x80, 1}, []taking{{7, 0}, {2, 3}, {7, 0}}},
		{[]byte{0x80, 1}, []taking{{16, 0x180}}},
		{[]byte{0x56, 0x34, 0x12}, []taking{{24, 0x123456}}},
		{[]byte{0x56, 0x34, 0x12}, []taking{{12, 0x456}, {12, 0x123}}},
		{[]byte{0x56, 0x34, 0x12}, []taking{{4, 6}, {16, 0x2345}, {4, 1}}},
		{[]byte{0xac, 0x68, 0x24, 0xfe}, []taking{{1, 0}, {24, 0x123456}, {7, 127}}},
		{[]byte{0x78, 0x56, 0x34, 0x12, 0x1f}, []taking{{16, 0x5678}, {0, 0}, {24, 0x1f1234}}},
	} {
		r := New(c.b)
		for _, x := range c.takes {
			mustTake(t, r, x.n, x.want)
		}
		if r.Left() != 0 {
			t.Errorf("%v: %d are left", c.b, r.Left())
		}
	}
}

// P3.2: each width, from each place, with what is left behind it.
func TestTakeOfEachWidthAtEachPlace(t *testing.T) {
	for _, b := range [][]byte{manyBytes(7), bytes.Repeat([]byte{255}, 7), make([]byte, 7)} {
		all := plainBits(b)
		for ahead := range MaxBits + 1 {
			for n := range MaxBits + 1 {
				r := New(b)
				mustTake(t, r, ahead, plainNumber(all[:ahead]))
				mustTake(t, r, n, plainNumber(all[ahead:ahead+n]))
				mustHave(t, r, all[ahead+n:])
			}
		}
	}
}

// P3.2: a wrong n is refused, and nothing is done, wherever in a byte the reader stands.
func TestTakeRefusesWrongWidths(t *testing.T) {
	b := manyBytes(12)
	all := plainBits(b)
	for ahead := range MaxBits + 1 {
		r := readerAt(t, b, ahead)
		for _, n := range wrongWidths {
			mustRefuse(t, r, n)
			mustRest(t, r, b[(ahead+7)/8:])
		}
		mustHave(t, r, all[ahead:])
	}
}

// P3.2: n above Left is refused, and nothing is done; just Left is taken.
func TestTakeAboveLeft(t *testing.T) {
	b := manyBytes(6)
	all := plainBits(b)
	for left := range MaxBits + 1 {
		end := len(all) - left
		r := readerAt(t, b, end)
		for n := left + 1; n <= MaxBits+1; n++ {
			mustRefuse(t, r, n)
		}
		mustTake(t, r, left, plainNumber(all[end:]))
		mustHave(t, r, nil)
	}
}

// P3.2, P3.3: no bits are taken too, from everywhere, and that is true; it begins no byte.
func TestTakeOfNoBits(t *testing.T) {
	b := bytes.Repeat([]byte{255}, 5)
	r := New(b)
	for i := range 8 * len(b) {
		mustTake(t, r, 0, 0)
		mustRest(t, r, b[(i+7)/8:])
		mustPad(t, r, i%8 == 0, 8*len(b)-i)
		mustTake(t, r, 1, 1)
	}
	mustTake(t, r, 0, 0)
	mustTake(t, r, 0, 0)
}

// P3.3: where none was taken, and where all bits of bytes were, there is nothing to pad, whatever comes behind.
func TestPadBetweenBytes(t *testing.T) {
	for _, next := range []byte{0, 1, 128, 255} {
		b := []byte{next, next, next}
		r := New(b)
		mustPad(t, r, true, 24)
		mustPad(t, r, true, 24)
		mustRest(t, r, b)
		mustTake(t, r, 8, uint32(next))
		mustPad(t, r, true, 16)
		mustRest(t, r, b[1:])
		mustTake(t, r, 16, uint32(next)<<8|uint32(next))
		mustPad(t, r, true, 0)
		mustRest(t, r, nil)
	}
}

// P3.3: each byte, of which each number of bits was taken, with other bytes ahead and behind, that play no part.
func TestPadWithinEachByte(t *testing.T) {
	for x := range 256 {
		for taken := 1; taken < 8; taken++ {
			for _, behind := range [][]byte{{}, {0}, {255, 3}} {
				b := append([]byte{255, byte(x)}, behind...)
				all := plainBits(b)
				r := readerAt(t, b, 8+taken)
				rests := 8 * len(behind)
				mustRest(t, r, behind)
				if plainNumber(all[8+taken:16]) == 0 {
					mustPad(t, r, true, rests)
					mustPad(t, r, true, rests)
					mustRest(t, r, behind)
					mustHave(t, r, plainBits(behind))
					continue
				}
				mustPad(t, r, false, 8-taken+rests)
				mustPad(t, r, false, 8-taken+rests)
				mustRest(t, r, behind)
				mustHave(t, r, all[8+taken:])
			}
		}
	}
}

// P3.3: what a take across the end of a byte leaves of the later byte is padded, and of no other.
func TestPadBehindTakesAcrossBytes(t *testing.T) {
	r := New([]byte{0xff, 0x01, 0x00, 0x80, 9})
	mustTake(t, r, 9, 0x1ff)
	mustPad(t, r, true, 24)
	mustRest(t, r, []byte{0x00, 0x80, 9})
	mustTake(t, r, 10, 0)
	mustPad(t, r, false, 14)
	mustRest(t, r, []byte{9})
	mustTake(t, r, 6, 0x20)
	mustRest(t, r, []byte{9})
	mustPad(t, r, true, 8)
	mustTake(t, r, 4, 9)
	mustRest(t, r, nil)
	mustPad(t, r, true, 0)
	mustRest(t, r, nil)
}

// P3.3: a refused Take takes no bit of a byte.
func TestPadBehindRefusedTake(t *testing.T) {
	r := New([]byte{1, 255})
	mustTake(t, r, 1, 1)
	mustRefuse(t, r, 16)
	mustPad(t, r, true, 8)
	mustRefuse(t, r, 9)
	mustPad(t, r, true, 8)
	mustRest(t, r, []byte{255})
	mustHave(t, r, []int{1, 1, 1, 1, 1, 1, 1, 1})
}

// P3.3: Rest is told from everywhere, as often as one asks, and changes nothing.
func TestRestAtEachPlace(t *testing.T) {
	b := manyBytes(9)
	all := plainBits(b)
	for taken := range len(all) + 1 {
		r := readerAt(t, b, taken)
		mustRest(t, r, b[(taken+7)/8:])
		mustRest(t, r, b[(taken+7)/8:])
		mustHave(t, r, all[taken:])
		mustRest(t, r, nil)
	}
}

// P3.4: what was put is taken, in order; what is left then are the bits that fill the last byte, and they are padded.
func TestTakenAsPut(t *testing.T) {
	type putting struct {
		v uint32
		n int
	}
	behind := []byte{255, 1, 2}
	for many := range 300 {
		w := bitw.New()
		var l []putting
		x := uint64(many)
		for range many {
			x = x*6364136223846793005 + 1442695040888963407
			p := putting{uint32(x >> 32), int(x>>20) & 0xff % (bitw.MaxBits + 1)}
			if !w.Put(p.v, p.n) {
				t.Fatalf("Put(%#x, %d) is refused", p.v, p.n)
			}
			l = append(l, p)
		}
		r := New(append(w.Bytes(), behind...))
		for _, p := range l {
			mustTake(t, r, p.n, p.v&(1<<p.n-1))
		}
		mustRest(t, r, behind)
		mustPad(t, r, true, 24)
		mustHave(t, r, plainBits(behind))
	}
}

// R5: the bytes that were handed in are not kept: who changes them, at once or between calls, changes nothing.
func TestBytesAreNotKept(t *testing.T) {
	kept := manyBytes(40)
	all := plainBits(kept)
	b := bytes.Clone(kept)
	r := New(b)
	for at := 0; at < len(all); {
		for i := range b {
			b[i] ^= 0xff
		}
		n := min(len(all)-at, 11)
		mustTake(t, r, n, plainNumber(all[at:at+n]))
		at += n
		mustRest(t, r, kept[(at+7)/8:])
	}
}

// R5: the bytes that were handed in are not changed, nor what lies behind them in the same memory.
func TestBytesAreNotChanged(t *testing.T) {
	memory := manyBytes(64)
	kept := bytes.Clone(memory)
	for end := range len(memory) + 1 {
		r := New(memory[:end])
		for range 8 * end {
			r.Take(min(r.Left(), 3))
			r.Take(MaxBits + 1)
			r.Pad()
			rest := r.Rest()
			rest = append(rest, 1)
			rest[0] ^= 0xff
		}
		if !bytes.Equal(memory, kept) {
			t.Fatalf("the first %d bytes: changed", end)
		}
	}
}

// R5: what Rest answers is memory of its own: who changes it, or lays more behind it, changes neither the reader nor another rest.
func TestRestIsMemoryOfItsOwn(t *testing.T) {
	b := manyBytes(20)
	all := plainBits(b)
	for taken := range len(all) + 1 {
		r := readerAt(t, b, taken)
		one, other := r.Rest(), r.Rest()
		for i := range one {
			one[i] ^= 0xff
		}
		one = append(one, 1, 2, 3)
		want := b[(taken+7)/8:]
		if !bytes.Equal(other, want) {
			t.Fatalf("behind %d bits: one rest changes another", taken)
		}
		mustRest(t, r, want)
		mustHave(t, r, all[taken:])
		if !bytes.Equal(other, want) || !bytes.Equal(one[len(want):], []byte{1, 2, 3}) {
			t.Fatalf("behind %d bits: taking changes a rest", taken)
		}
	}
}

// R6: readers stand apart, those of the same bytes too.
func TestReadersStandApart(t *testing.T) {
	b := manyBytes(30)
	all := plainBits(b)
	one, other := New(b), New(b)
	if one == other {
		t.Fatal("one reader for both")
	}
	mustTake(t, one, 17, plainNumber(all[:17]))
	mustHave(t, other, all)
	mustHave(t, one, all[17:])
}
