package runs

import (
	"bytes"
	"math"
	"slices"
	"testing"

	"puncheon/api"
	"puncheon/bitf"
	"puncheon/bitw"
)

// wrong are no numbers that may be put, and none that may be the most.
var wrong = []int{-1, -2, -3, -4, -255, -256, -257, math.MinInt32, -1 << 32, -1<<32 + 7, math.MinInt + 1, math.MinInt, Most + 1, Most + 2, Most + 3, 511, 512, 1 << 16, 1 << 24, 1<<32 - 1, 1 << 32, 1<<32 + 7, 1<<40 + 5, math.MaxInt - 1, math.MaxInt}

// plainPairs are the twos of bits of a number, in the chapter's words: as often as 3 goes into it, a 3, and then what is left.
func plainPairs(n int) []int {
	var out []int
	for n >= 3 {
		out = append(out, 3)
		n -= 3
	}
	return append(out, n)
}

// plainBits are the bits of twos, the lowest one of each first.
func plainBits(pairs ...int) []int {
	var out []int
	for _, x := range pairs {
		out = append(out, x%2, x/2)
	}
	return out
}

// plainPut are the bits of a number.
func plainPut(n int) []int { return plainBits(plainPairs(n)...) }

// threes are the bits of so many of them.
func threes(many int) []int { return slices.Repeat([]int{1}, 2*many) }

// filled are bits and as many 0s as fill the last byte.
func filled(bits []int) []int {
	out := slices.Clone(bits)
	for len(out)%8 != 0 {
		out = append(out, 0)
	}
	return out
}

// packed are bits as bytes, filled up with 0s.
func packed(bits []int) []byte {
	out := make([]byte, 0)
	for part := range slices.Chunk(filled(bits), 8) {
		sum, worth := 0, 1
		for _, x := range part {
			sum += x * worth
			worth *= 2
		}
		out = append(out, byte(sum))
	}
	return out
}

// unpacked are all bits of bytes, one to an item.
func unpacked(b []byte) []int {
	var out []int
	for _, x := range b {
		for v, k := int(x), 0; k < 8; k++ {
			out = append(out, v%2)
			v /= 2
		}
	}
	return out
}

// drawer draws numbers from 0 to below a bound, the same ones each time for a seed.
func drawer(seed uint64) func(bound int) int {
	x := seed
	return func(bound int) int {
		x = x*6364136223846793005 + 1442695040888963407
		return int(x>>33) % bound
	}
}

// someMosts are numbers from n on that may be the most: it, those beside it, and the greatest.
func someMosts(n int) []int {
	l := []int{n, n + 1, n + 2, n + 3, (n + Most) / 2, Most - 1, Most}
	slices.Sort(l)
	l = slices.Compact(l)
	return slices.DeleteFunc(l, func(most int) bool { return most < n || most > Most })
}

// ahead are bits that already stand where a number is put: none, and such that it begins at each place of a byte.
func ahead() [][]int {
	var l [][]int
	for many := range 9 {
		l = append(l, slices.Repeat([]int{1}, many), slices.Repeat([]int{0}, many))
	}
	return append(l, slices.Repeat([]int{1, 0, 0}, 7))
}

// behind are bits that stand behind a number: none, one, and many.
func behind() [][]int {
	return [][]int{nil, {0}, {1}, {0, 0}, {1, 0}, {0, 1}, {1, 1}, {1, 1, 1}, {0, 1, 1, 0, 1, 0, 0, 0, 1, 1, 1}, slices.Repeat([]int{0}, 30), threes(100)}
}

// writerOf is one in which these bits stand.
func writerOf(bits []int) *bitw.Writer {
	w := bitw.New()
	for _, x := range bits {
		w.Put(uint32(x), 1)
	}
	return w
}

// readerOf is one of just these bits: as many as don't fill a byte are laid ahead of them, and taken.
func readerOf(t *testing.T, bits ...[]int) *bitf.Reader {
	t.Helper()
	all := slices.Concat(bits...)
	ahead := (8 - len(all)%8) % 8
	r := bitf.New(packed(append(slices.Repeat([]int{1}, ahead), all...)))
	if _, ok := r.Take(ahead); !ok || r.Left() != len(all) {
		t.Fatalf("a reader of %d bits has %d", len(all), r.Left())
	}
	return r
}

// mustPut puts what may be put, and holds Cost and how many bits came to the chapter's words.
func mustPut(t *testing.T, w *bitw.Writer, n int) {
	t.Helper()
	ahead := w.Bits()
	if !Put(w, n) {
		t.Fatalf("Put(%d) is refused", n)
	}
	bits := 2 * len(plainPairs(n))
	if w.Bits() != ahead+bits {
		t.Fatalf("Put(%d): %d bits, want %d", n, w.Bits()-ahead, bits)
	}
	if cost := Cost(n); cost != bits {
		t.Fatalf("Cost(%d): %d, want %d", n, cost, bits)
	}
}

// mustRefuse puts what may not be put: nothing is done, and it costs nothing.
func mustRefuse(t *testing.T, w *bitw.Writer, n int) {
	t.Helper()
	bits, ahead, closed := w.Bits(), w.Bytes(), w.Close()
	if Put(w, n) {
		t.Fatalf("Put(%d) is true", n)
	}
	if w.Bits() != bits || !bytes.Equal(w.Bytes(), ahead) || !bytes.Equal(w.Close(), closed) {
		t.Fatalf("Put(%d) is refused, but changes what was put", n)
	}
	if cost := Cost(n); cost != 0 {
		t.Fatalf("Cost(%d): %d, want 0", n, cost)
	}
}

// mustStand holds all that stands in a writer to bits.
func mustStand(t *testing.T, w *bitw.Writer, want []int) {
	t.Helper()
	if w.Bits() != len(want) || !bytes.Equal(w.Bytes(), packed(want)) {
		t.Fatalf("%d bits %v, want %v", w.Bits(), unpacked(w.Bytes()), want)
	}
}

// mustTake takes a number, or an error and 0, and as many bits as are wanted.
func mustTake(t *testing.T, r *bitf.Reader, most, want int, e api.Errno, bits int) {
	t.Helper()
	ahead := r.Left()
	n, got := Take(r, most)
	if n != want || got != e {
		t.Fatalf("Take of %d bits, %d at most: %d, error %d, want %d, error %d", ahead, most, n, got, want, e)
	}
	if r.Left() != ahead-bits {
		t.Fatalf("Take of %d bits, %d at most, takes %d, want %d", ahead, most, ahead-r.Left(), bits)
	}
}

// mustHave holds all bits that stay to those that are wanted.
func mustHave(t *testing.T, r *bitf.Reader, want []int) {
	t.Helper()
	if r.Left() != len(want) {
		t.Fatalf("%d bits stay, want %d", r.Left(), len(want))
	}
	for i, x := range want {
		if v, ok := r.Take(1); !ok || int(v) != x {
			t.Fatalf("bit %d of those that stay: %d, %v, want %d", i, v, ok, x)
		}
	}
}

func TestMost(t *testing.T) {
	if Most != 255 {
		t.Error(Most)
	}
}

// P14.1, P14.2: the chapter's examples.
func TestExamples(t *testing.T) {
	w := bitw.New()
	mustPut(t, w, 7)
	mustStand(t, w, []int{1, 1, 1, 1, 1, 0})
	if n := Cost(7); n != 6 {
		t.Errorf("Cost(7): %d, want 6", n)
	}
	mustTake(t, bitf.New(w.Bytes()), 6, 0, api.ErrHeader, 6)
	mustTake(t, bitf.New(w.Bytes()), 7, 7, api.OK, 6)
}

// P14.1: numbers written out by hand.
func TestPutWrittenOut(t *testing.T) {
	for _, x := range []struct {
		n    int
		bits []int
	}{
		{0, []int{0, 0}},
		{1, []int{1, 0}},
		{2, []int{0, 1}},
		{3, []int{1, 1, 0, 0}},
		{4, []int{1, 1, 1, 0}},
		{5, []int{1, 1, 0, 1}},
		{6, []int{1, 1, 1, 1, 0, 0}},
		{8, []int{1, 1, 1, 1, 0, 1}},
		{9, []int{1, 1, 1, 1, 1, 1, 0, 0}},
		{10, []int{1, 1, 1, 1, 1, 1, 1, 0}},
		{11, []int{1, 1, 1, 1, 1, 1, 0, 1}},
		{12, []int{1, 1, 1, 1, 1, 1, 1, 1, 0, 0}},
		{253, append(threes(84), 1, 0)},
		{254, append(threes(84), 0, 1)},
		{255, append(threes(85), 0, 0)},
	} {
		w := bitw.New()
		mustPut(t, w, x.n)
		mustStand(t, w, x.bits)
		mustTake(t, readerOf(t, x.bits), x.n, x.n, api.OK, len(x.bits))
	}
}

// P14.1: two bits more from each three on.
func TestCostWrittenOut(t *testing.T) {
	for _, x := range [][2]int{{0, 2}, {1, 2}, {2, 2}, {3, 4}, {4, 4}, {5, 4}, {6, 6}, {7, 6}, {8, 6}, {9, 8}, {98, 66}, {99, 68}, {126, 86}, {127, 86}, {128, 86}, {129, 88}, {251, 168}, {252, 170}, {254, 170}, {255, 172}} {
		if n := Cost(x[0]); n != x[1] {
			t.Errorf("Cost(%d): %d, want %d", x[0], n, x[1])
		}
	}
}

// P14.1: each number that may be put, held to the chapter's words, behind nothing and behind bits that were put ahead.
func TestPutEach(t *testing.T) {
	for _, bits := range ahead() {
		for n := range Most + 1 {
			w := writerOf(bits)
			mustPut(t, w, n)
			mustStand(t, w, slices.Concat(bits, plainPut(n)))
		}
	}
}

// P14.1: numbers behind each other stand behind each other.
func TestPutBehindEachOther(t *testing.T) {
	w := bitw.New()
	var want []int
	for n := range Most + 1 {
		mustPut(t, w, n)
		mustPut(t, w, Most-n)
		want = slices.Concat(want, plainPut(n), plainPut(Most-n))
	}
	mustStand(t, w, want)
}

// P14.1, R1: what is below 0 or above Most is refused, and costs nothing; nothing is done.
func TestPutRefuses(t *testing.T) {
	for _, bits := range ahead() {
		w := writerOf(bits)
		for _, n := range wrong {
			mustRefuse(t, w, n)
		}
		mustStand(t, w, bits)
		mustPut(t, w, 7)
		mustStand(t, w, append(bits, 1, 1, 1, 1, 1, 0))
	}
}

// P14.1: all below 0 and above Most for a good way.
func TestPutRefusesNear(t *testing.T) {
	w := writerOf([]int{1, 1, 0})
	for far := range 2000 {
		mustRefuse(t, w, -1-far)
		mustRefuse(t, w, Most+1+far)
	}
	mustStand(t, w, []int{1, 1, 0})
}

// P14.2: each number, of a reader of just its bits and of one of more, with it at most and with more; what is behind it stays.
func TestTakeEach(t *testing.T) {
	for _, more := range behind() {
		for n := range Most + 1 {
			for _, most := range someMosts(n) {
				bits := plainPut(n)
				r := readerOf(t, bits, more)
				mustTake(t, r, most, n, api.OK, len(bits))
				mustHave(t, r, more)
			}
		}
	}
}

// P14.2: each number with each that may be the most: it comes, or is above it.
func TestTakeEachWithEachMost(t *testing.T) {
	for n := range Most + 1 {
		bits := plainPut(n)
		for most := range Most + 1 {
			r := readerOf(t, bits)
			if n <= most {
				mustTake(t, r, most, n, api.OK, len(bits))
				mustHave(t, r, nil)
				continue
			}
			gone := goneAbove(bits, most)
			mustTake(t, r, most, 0, api.ErrHeader, gone)
			mustHave(t, r, bits[gone:])
		}
	}
}

// goneAbove is how many bits were taken when their sum is above the most, in the chapter's words.
func goneAbove(bits []int, most int) int {
	sum, gone := 0, 0
	for sum <= most {
		sum += bits[gone] + 2*bits[gone+1]
		gone += 2
	}
	return gone
}

// P14.2: what may not be the most is ErrArg, of a reader that has bits and of one that has none; none are taken.
func TestTakeErrArg(t *testing.T) {
	for _, b := range [][]byte{nil, {}, {0}, {7}, {255}, bytes.Repeat([]byte{255}, 80), make([]byte, 20)} {
		r := bitf.New(b)
		for _, most := range wrong {
			mustTake(t, r, most, 0, api.ErrArg, 0)
		}
		mustHave(t, r, unpacked(b))
		for _, most := range wrong {
			mustTake(t, r, most, 0, api.ErrArg, 0)
		}
	}
	r := readerOf(t, []int{1})
	for far := range 2000 {
		mustTake(t, r, -1-far, 0, api.ErrArg, 0)
		mustTake(t, r, Most+1+far, 0, api.ErrArg, 0)
	}
	mustHave(t, r, []int{1})
}

// P14.2: no bits, or one, are ErrShort, with whatever most; the one stays.
func TestTakeErrShortAtOnce(t *testing.T) {
	for _, bits := range [][]int{nil, {0}, {1}} {
		for most := range Most + 1 {
			r := readerOf(t, bits)
			mustTake(t, r, most, 0, api.ErrShort, 0)
			mustTake(t, r, most, 0, api.ErrShort, 0)
			mustHave(t, r, bits)
		}
	}
	mustTake(t, bitf.New(nil), 0, 0, api.ErrShort, 0)
	mustTake(t, bitf.New([]byte{}), Most, 0, api.ErrShort, 0)
}

// P14.2: the end, or one bit, behind threes that aren't above the most is ErrShort; the threes are taken, the one bit stays.
func TestTakeErrShortBehindThrees(t *testing.T) {
	for many := 1; many <= Most/3; many++ {
		for _, end := range [][]int{nil, {0}, {1}} {
			for _, most := range someMosts(3 * many) {
				r := readerOf(t, threes(many), end)
				mustTake(t, r, most, 0, api.ErrShort, 2*many)
				mustTake(t, r, most, 0, api.ErrShort, 0)
				mustHave(t, r, end)
			}
		}
	}
}

// P14.2: a three that makes it above most is ErrHeader at once, whatever is behind it; that stays.
func TestTakeErrHeaderByThree(t *testing.T) {
	for most := range Most + 1 {
		gone := 2 * (most/3 + 1)
		for _, more := range append(behind(), threes(1), threes(2), threes(200)) {
			r := readerOf(t, threes(most/3+1), more)
			mustTake(t, r, most, 0, api.ErrHeader, gone)
			mustHave(t, r, more)
		}
	}
}

// P14.2: so are two bits that aren't 3, if they make it above most; they are taken, and what is behind them stays.
func TestTakeErrHeaderByTheLast(t *testing.T) {
	for most := range Most {
		many := most / 3
		for last := most - 3*many + 1; last < 3; last++ {
			for _, more := range behind() {
				r := readerOf(t, threes(many), plainBits(last), more)
				mustTake(t, r, most, 0, api.ErrHeader, 2*many+2)
				mustHave(t, r, more)
			}
		}
	}
}

// P14.2: with 0 at most there is 0 alone.
func TestTakeNoneAtMost(t *testing.T) {
	for pair := range 4 {
		r := readerOf(t, plainBits(pair), []int{0, 1, 1})
		if pair == 0 {
			mustTake(t, r, 0, 0, api.OK, 2)
		} else {
			mustTake(t, r, 0, 0, api.ErrHeader, 2)
		}
		mustHave(t, r, []int{0, 1, 1})
	}
}

// P14.2: with Most at most 85 threes and 0 are the last number; 1 or 2 behind them, or one more three, are above it.
func TestTakeAroundMost(t *testing.T) {
	for _, more := range behind() {
		r := readerOf(t, threes(85), plainBits(0), more)
		mustTake(t, r, Most, Most, api.OK, 172)
		mustHave(t, r, more)
		for last := 1; last <= 3; last++ {
			r = readerOf(t, threes(85), plainBits(last), more)
			mustTake(t, r, Most, 0, api.ErrHeader, 172)
			mustHave(t, r, more)
		}
	}
	r := bitf.New(bytes.Repeat([]byte{255}, 1<<16))
	mustTake(t, r, Most, 0, api.ErrHeader, 172)
	mustTake(t, r, Most-1, 0, api.ErrHeader, 170)
	mustTake(t, readerOf(t, threes(85)), Most, 0, api.ErrShort, 170)
	mustTake(t, readerOf(t, threes(85)), Most-1, 0, api.ErrHeader, 170)
}

// P14.2, R2: the first error in the chapter's order: a wrong argument ahead of all; above most as soon as it is, so that an end behind it is not met.
func TestTakeFirstError(t *testing.T) {
	mustTake(t, bitf.New(nil), -1, 0, api.ErrArg, 0)
	mustTake(t, bitf.New(nil), Most+1, 0, api.ErrArg, 0)
	mustTake(t, readerOf(t, []int{1}), -1, 0, api.ErrArg, 0)
	mustTake(t, readerOf(t, threes(1)), -1, 0, api.ErrArg, 0)
	mustTake(t, readerOf(t, threes(90)), Most+1, 0, api.ErrArg, 0)
	mustTake(t, readerOf(t, []int{1}), 0, 0, api.ErrShort, 0)
	mustTake(t, readerOf(t, threes(1)), 2, 0, api.ErrHeader, 2)
	mustTake(t, readerOf(t, threes(1)), 3, 0, api.ErrShort, 2)
	mustTake(t, readerOf(t, []int{1, 1, 1}), 2, 0, api.ErrHeader, 2)
	mustTake(t, readerOf(t, []int{1, 1, 1}), 3, 0, api.ErrShort, 2)
	mustTake(t, readerOf(t, threes(2)), 5, 0, api.ErrHeader, 4)
	mustTake(t, readerOf(t, threes(2)), 6, 0, api.ErrShort, 4)
}

// P14.2: behind an error the reader goes on where it stands.
func TestTakeBehindErrors(t *testing.T) {
	r := readerOf(t, threes(3), plainBits(2), threes(1), []int{1})
	mustTake(t, r, 2, 0, api.ErrHeader, 2)
	mustTake(t, r, 256, 0, api.ErrArg, 0)
	mustTake(t, r, 3, 0, api.ErrHeader, 4)
	mustTake(t, r, 1, 0, api.ErrHeader, 2)
	mustTake(t, r, 255, 0, api.ErrShort, 2)
	mustTake(t, r, -1, 0, api.ErrArg, 0)
	mustTake(t, r, 0, 0, api.ErrShort, 0)
	mustHave(t, r, []int{1})
}

// P14.3: what is put is taken, in order, refused ones between; then nothing else is left than what fills the byte.
func TestTakenAsPut(t *testing.T) {
	for seed := range 100 {
		draw := drawer(uint64(seed))
		w := bitw.New()
		var l []int
		for range seed {
			n := draw(1 + min(Most, 1<<draw(9)))
			mustPut(t, w, n)
			mustRefuse(t, w, Most+1+n)
			mustRefuse(t, w, -1-n)
			l = append(l, n)
		}
		r := bitf.New(w.Bytes())
		for _, n := range l {
			mustTake(t, r, -1-n, 0, api.ErrArg, 0)
			mustTake(t, r, n+draw(Most-n+1), n, api.OK, Cost(n))
		}
		mustEnd(t, r, w)
	}
}

// mustEnd holds what is left to what fills the last byte of what was put.
func mustEnd(t *testing.T, r *bitf.Reader, w *bitw.Writer) {
	t.Helper()
	if r.Left() > 7 || r.Left() != 8*len(w.Bytes())-w.Bits() {
		t.Fatalf("%d bits are left behind %d", r.Left(), w.Bits())
	}
	mustHave(t, r, make([]int, r.Left()))
}

// P14.3: all numbers, each with itself at most.
func TestAllTakenAsPut(t *testing.T) {
	w := bitw.New()
	for n := range Most + 1 {
		mustPut(t, w, n)
	}
	r := bitf.New(w.Bytes())
	for n := range Most + 1 {
		mustTake(t, r, n, n, api.OK, Cost(n))
	}
	mustEnd(t, r, w)
}

// P14.3: as it is leaned on: numbers each of which lessens the most of the next one, among other bits.
func TestTakenAmongOtherBits(t *testing.T) {
	draw := drawer(7)
	w := bitw.New()
	var l []int
	for most := Most; most > 0; most -= l[len(l)-1] {
		w.Put(uint32(most), 9)
		l = append(l, draw(min(most, 20)+1))
		mustPut(t, w, l[len(l)-1])
	}
	r := bitf.New(w.Bytes())
	most := Most
	for _, n := range l {
		if v, ok := r.Take(9); !ok || int(v) != most {
			t.Fatalf("%d, %v, want %d", v, ok, most)
		}
		mustTake(t, r, most, n, api.OK, Cost(n))
		most -= n
	}
	mustEnd(t, r, w)
}

// R1: whatever bits there are, and whatever the most is, taking goes on to an end: all readers of two bytes.
func TestAnyBits(t *testing.T) {
	for bits := range 1 << 16 {
		b := []byte{byte(bits), byte(bits >> 8)}
		for _, most := range []int{0, 1, 2, 3, 5, 8, 21, 24, Most} {
			want, e, gone := plainTake(unpacked(b), most)
			mustTake(t, bitf.New(b), most, want, e, gone)
		}
	}
}

// plainTake is what comes of bits, in the chapter's words, and how many of them are taken.
func plainTake(bits []int, most int) (int, api.Errno, int) {
	sum, gone := 0, 0
	for {
		if len(bits)-gone < 2 {
			return 0, api.ErrShort, gone
		}
		pair := bits[gone] + 2*bits[gone+1]
		sum, gone = sum+pair, gone+2
		if sum > most {
			return 0, api.ErrHeader, gone
		}
		if pair != 3 {
			return sum, api.OK, gone
		}
	}
}

// R5: what a writer told ahead, and the bytes that a reader was made of, are not changed.
func TestNothingElseIsChanged(t *testing.T) {
	w := bitw.New()
	mustPut(t, w, 7)
	told := w.Bytes()
	mustPut(t, w, 255)
	mustPut(t, w, 2)
	if !bytes.Equal(told, []byte{31}) {
		t.Errorf("what was told ahead: %v", told)
	}
	b := w.Bytes()
	kept := bytes.Clone(b)
	r := bitf.New(b)
	mustTake(t, r, 7, 7, api.OK, 6)
	mustTake(t, r, 2, 0, api.ErrHeader, 2)
	mustTake(t, r, 255, 252, api.OK, 170)
	mustTake(t, r, 255, 2, api.OK, 2)
	mustTake(t, r, 255, 0, api.OK, 2)
	mustTake(t, r, 255, 0, api.OK, 2)
	mustTake(t, r, 255, 0, api.ErrShort, 0)
	if !bytes.Equal(b, kept) {
		t.Errorf("the bytes: %v, were %v", b, kept)
	}
}

// R6: the same arguments have the same answer, whatever was put, taken or asked ahead; writers and readers stand apart.
func TestSameAnswerEachTime(t *testing.T) {
	other := bitw.New()
	for range 3 {
		w := bitw.New()
		mustPut(t, w, 7)
		mustRefuse(t, w, 256)
		mustPut(t, other, 100)
		mustStand(t, w, []int{1, 1, 1, 1, 1, 0})
		r := bitf.New([]byte{31})
		mustTake(t, r, 7, 7, api.OK, 6)
		mustTake(t, bitf.New([]byte{31}), 6, 0, api.ErrHeader, 6)
		mustTake(t, r, 7, 0, api.OK, 2)
		mustTake(t, r, 7, 0, api.ErrShort, 0)
	}
}

// Two bits add what they are; more come behind 3 alone.
func TestMeaning(t *testing.T) {
	for pair, want := range []bool{false, false, false, true} {
		if n, more := meaning(uint32(pair)); n != pair || more != want {
			t.Errorf("meaning(%d): %d, %v", pair, n, more)
		}
	}
}
