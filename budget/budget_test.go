package budget

import (
	"bytes"
	"math"
	"slices"
	"strconv"
	"testing"

	"puncheon/api"
	"puncheon/bitf"
	"puncheon/bitw"
)

// wrongLefts are never left, whatever the number is.
var wrongLefts = []int{0, -1, -2, -4096, -4097, math.MinInt32, math.MinInt + 1, math.MinInt, Most + 1, Most + 2, 8191, 8192, 1 << 16, 1 << 24, 1<<32 - 1, 1 << 32, 1<<32 + 1, 1<<32 + 9, 1<<40 + 5, math.MaxInt - 1, math.MaxInt}

// one is a number and what is left, as they are put behind each other.
type one struct{ v, left int }

// plainWidth is how many digits a number has: they are written, and counted.
func plainWidth(left int) int { return len(strconv.FormatInt(int64(left), 2)) }

// plainPut are the bits of a number, in the chapter's words: as many as the width of what is left, the lowest one first.
func plainPut(v, left int) []int {
	var out []int
	for range plainWidth(left) {
		out = append(out, v%2)
		v /= 2
	}
	return out
}

// plainBits are all bits of bytes, one to an item.
func plainBits(b []byte) []int {
	var out []int
	for _, x := range b {
		for v, k := int(x), 0; k < 8; k++ {
			out = append(out, v%2)
			v /= 2
		}
	}
	return out
}

// filled are bits and as many 0s as fill the last byte.
func filled(bits []int) []int {
	out := slices.Clone(bits)
	for len(out)%8 != 0 {
		out = append(out, 0)
	}
	return out
}

// packed are bits as bytes, filled up with 0s.
func packed(bits []int) []byte {
	out := make([]byte, 0)
	for part := range slices.Chunk(filled(bits), 8) {
		sum, worth := 0, 1
		for _, x := range part {
			sum += x * worth
			worth *= 2
		}
		out = append(out, byte(sum))
	}
	return out
}

// drawer draws numbers from 0 to below a bound, the same ones each time for a seed.
func drawer(seed uint64) func(bound int) int {
	x := seed
	return func(bound int) int {
		x = x*6364136223846793005 + 1442695040888963407
		return int(x>>33) % bound
	}
}

// someLefts make every width, each with its least and its greatest, and one beside these.
func someLefts() []int {
	var l []int
	for power := 1; power <= Most; power *= 2 {
		l = append(l, power-1, power, power+1, power+power/2)
	}
	slices.Sort(l)
	l = slices.Compact(l)
	return slices.DeleteFunc(l, func(left int) bool { return left < 1 || left > Most })
}

// someNumbers are from 0 to left: the edges, and those at either side of each power of two.
func someNumbers(left int) []int {
	l := []int{0, left / 3, left / 2, left - 1, left}
	for power := 1; power <= left; power *= 2 {
		l = append(l, power-1, power, min(power+1, left))
	}
	slices.Sort(l)
	return slices.Compact(l)
}

// manyOnes are numbers that may be put, of all widths.
func manyOnes(seed uint64, many int) []one {
	draw := drawer(seed)
	var l []one
	for range many {
		left := min(1+draw(2<<draw(13)), Most)
		l = append(l, one{draw(left + 1), left})
	}
	return l
}

// mustPut puts what may be put, and holds Cost and how many bits came to the chapter's words.
func mustPut(t *testing.T, w *bitw.Writer, v, left int) {
	t.Helper()
	ahead := w.Bits()
	if !Put(w, v, left) {
		t.Fatalf("Put(%d, %d) is refused", v, left)
	}
	width := plainWidth(left)
	if w.Bits() != ahead+width {
		t.Fatalf("Put(%d, %d): %d bits, want %d", v, left, w.Bits()-ahead, width)
	}
	if n := Cost(v, left); n != width {
		t.Fatalf("Cost(%d, %d): %d, want %d", v, left, n, width)
	}
}

// mustRefuse puts what may not be put: nothing is done, and it costs nothing.
func mustRefuse(t *testing.T, w *bitw.Writer, v, left int) {
	t.Helper()
	bits, ahead, closed := w.Bits(), w.Bytes(), w.Close()
	if Put(w, v, left) {
		t.Fatalf("Put(%d, %d) is true", v, left)
	}
	if w.Bits() != bits || !bytes.Equal(w.Bytes(), ahead) || !bytes.Equal(w.Close(), closed) {
		t.Fatalf("Put(%d, %d) is refused, but changes what was put", v, left)
	}
	if n := Cost(v, left); n != 0 {
		t.Fatalf("Cost(%d, %d): %d, want 0", v, left, n)
	}
}

// mustStand holds all that stands in a writer to bits.
func mustStand(t *testing.T, w *bitw.Writer, want []int) {
	t.Helper()
	if w.Bits() != len(want) || !bytes.Equal(w.Bytes(), packed(want)) {
		t.Fatalf("%d bits %v, want %v", w.Bits(), plainBits(w.Bytes()), want)
	}
}

// mustTake takes a number, or an error and 0, and as many bits as are wanted.
func mustTake(t *testing.T, r *bitf.Reader, left, want int, e api.Errno, bits int) {
	t.Helper()
	ahead := r.Left()
	v, got := Take(r, left)
	if v != want || got != e {
		t.Fatalf("Take of %d bits, %d being left: %d, error %d, want %d, error %d", ahead, left, v, got, want, e)
	}
	if r.Left() != ahead-bits {
		t.Fatalf("Take of %d bits, %d being left, takes %d, want %d", ahead, left, ahead-r.Left(), bits)
	}
}

// mustHave holds all bits that stay to those that are wanted.
func mustHave(t *testing.T, r *bitf.Reader, want []int) {
	t.Helper()
	if r.Left() != len(want) {
		t.Fatalf("%d bits stay, want %d", r.Left(), len(want))
	}
	for i, x := range want {
		if v, ok := r.Take(1); !ok || int(v) != x {
			t.Fatalf("bit %d of those that stay: %d, %v, want %d", i, v, ok, x)
		}
	}
}

// readerOf is one of just these bits: as many as don't fill a byte are laid ahead of them, and taken.
func readerOf(t *testing.T, bits []int) *bitf.Reader {
	t.Helper()
	ahead := (8 - len(bits)%8) % 8
	r := bitf.New(packed(append(slices.Repeat([]int{1}, ahead), bits...)))
	if _, ok := r.Take(ahead); !ok || r.Left() != len(bits) {
		t.Fatalf("a reader of %d bits has %d", len(bits), r.Left())
	}
	return r
}

// ahead are bits that already stand where a number is put: none, and such that it begins at each place of a byte.
func ahead() [][]int {
	var l [][]int
	for many := range 9 {
		l = append(l, slices.Repeat([]int{1}, many), slices.Repeat([]int{0}, many))
	}
	return append(l, slices.Repeat([]int{1, 0, 0}, 7))
}

// writerOf is one in which these bits stand.
func writerOf(bits []int) *bitw.Writer {
	w := bitw.New()
	for _, x := range bits {
		w.Put(uint32(x), 1)
	}
	return w
}

func TestMost(t *testing.T) {
	if Most != 4096 {
		t.Error(Most)
	}
}

// P13.1, P13.2: the chapter's examples.
func TestExamples(t *testing.T) {
	w := bitw.New()
	mustPut(t, w, 5, 9)
	mustStand(t, w, []int{1, 0, 1, 0})
	mustTake(t, bitf.New([]byte{5}), 4, 0, api.ErrHeader, 3)
}

// P13.1: numbers written out by hand.
func TestPutWrittenOut(t *testing.T) {
	for _, x := range []struct {
		v, left int
		bits    []int
	}{
		{0, 1, []int{0}},
		{1, 1, []int{1}},
		{0, 2, []int{0, 0}},
		{1, 2, []int{1, 0}},
		{2, 2, []int{0, 1}},
		{1, 3, []int{1, 0}},
		{3, 3, []int{1, 1}},
		{3, 4, []int{1, 1, 0}},
		{4, 4, []int{0, 0, 1}},
		{6, 7, []int{0, 1, 1}},
		{6, 8, []int{0, 1, 1, 0}},
		{10, 15, []int{0, 1, 0, 1}},
		{255, 255, []int{1, 1, 1, 1, 1, 1, 1, 1}},
		{255, 256, []int{1, 1, 1, 1, 1, 1, 1, 1, 0}},
		{256, 256, []int{0, 0, 0, 0, 0, 0, 0, 0, 1}},
		{4095, 4095, []int{1, 1, 1, 1, 1, 1, 1, 1, 1, 1, 1, 1}},
		{4095, 4096, []int{1, 1, 1, 1, 1, 1, 1, 1, 1, 1, 1, 1, 0}},
		{4096, 4096, []int{0, 0, 0, 0, 0, 0, 0, 0, 0, 0, 0, 0, 1}},
		{0, 4096, []int{0, 0, 0, 0, 0, 0, 0, 0, 0, 0, 0, 0, 0}},
	} {
		w := bitw.New()
		mustPut(t, w, x.v, x.left)
		mustStand(t, w, x.bits)
		mustTake(t, readerOf(t, x.bits), x.left, x.v, api.OK, len(x.bits))
	}
}

// P13.1: the edges of each number of digits cost just so many bits, one bit more from each power of two on.
func TestCostWrittenOut(t *testing.T) {
	for i, edge := range [][2]int{{1, 1}, {2, 3}, {4, 7}, {8, 15}, {16, 31}, {32, 63}, {64, 127}, {128, 255}, {256, 511}, {512, 1023}, {1024, 2047}, {2048, 4095}, {4096, 4096}} {
		for _, left := range edge {
			for _, v := range []int{0, 1, left / 2, left} {
				if n := Cost(v, left); n != i+1 {
					t.Errorf("Cost(%d, %d): %d, want %d", v, left, n, i+1)
				}
			}
		}
	}
}

// P13.1, P13.2: whatever is left, up to 600 of them each number, held to the chapter's words, in a writer of its own, and taken of a reader of just its bits.
func TestEachNumberOfSmallLefts(t *testing.T) {
	for left := 1; left <= 600; left++ {
		for v := range left + 1 {
			mustStandAndCome(t, v, left)
		}
	}
}

// P13.1, P13.2: each that may be left, with numbers at all edges.
func TestEachLeft(t *testing.T) {
	for left := 1; left <= Most; left++ {
		for _, v := range someNumbers(left) {
			mustStandAndCome(t, v, left)
		}
	}
}

// P13.1, P13.2: each number of lefts that make every width.
func TestEachNumberOfEachWidth(t *testing.T) {
	for _, left := range someLefts() {
		for v := range left + 1 {
			mustStandAndCome(t, v, left)
		}
	}
}

// mustStandAndCome puts a number behind nothing, and takes it of just its bits.
func mustStandAndCome(t *testing.T, v, left int) {
	t.Helper()
	want := plainPut(v, left)
	w := bitw.New()
	mustPut(t, w, v, left)
	mustStand(t, w, want)
	r := readerOf(t, want)
	mustTake(t, r, left, v, api.OK, len(want))
	mustHave(t, r, nil)
}

// P13.1: what was put ahead stays, at whichever place of a byte a number begins.
func TestPutBehindBits(t *testing.T) {
	for _, bits := range ahead() {
		for _, left := range someLefts() {
			for _, v := range someNumbers(left) {
				w := writerOf(bits)
				mustPut(t, w, v, left)
				mustStand(t, w, slices.Concat(bits, plainPut(v, left)))
			}
		}
	}
}

// P13.1: numbers behind each other stand behind each other.
func TestPutBehindEachOther(t *testing.T) {
	for seed := range 50 {
		w := bitw.New()
		var want []int
		for _, x := range manyOnes(uint64(seed), 3*seed) {
			mustPut(t, w, x.v, x.left)
			want = append(want, plainPut(x.v, x.left)...)
		}
		mustStand(t, w, want)
	}
}

// P13.1: what may not be left is refused, whatever the number is, and nothing is done.
func TestPutRefusesWrongLefts(t *testing.T) {
	numbers := []int{0, 1, 2, 5, 9, Most, Most + 1, -1, -2, -4096, 1 << 32, 1<<32 + 1, math.MaxInt, math.MinInt}
	for _, bits := range ahead() {
		w := writerOf(bits)
		for _, left := range wrongLefts {
			for _, v := range append(numbers, left, left-1) {
				mustRefuse(t, w, v, left)
			}
		}
		mustStand(t, w, bits)
		mustPut(t, w, 5, 9)
		mustStand(t, w, append(bits, 1, 0, 1, 0))
	}
}

// P13.1: a number below 0, or above what is left, is refused, and nothing is done.
func TestPutRefusesWrongNumbers(t *testing.T) {
	for _, bits := range ahead() {
		w := writerOf(bits)
		for _, left := range someLefts() {
			for _, v := range []int{-1, -2, -left, -left - 1, -Most, math.MinInt32, math.MinInt + 1, math.MinInt, left + 1, left + 2, 2*left + 1, Most + 1, 1 << 24, 1 << 32, 1<<32 + 1, -1 << 32, 1<<32 + left, math.MaxInt - 1, math.MaxInt} {
				mustRefuse(t, w, v, left)
			}
		}
		mustStand(t, w, bits)
	}
}

// P13.1: one above what is left is refused, where it has as many digits, too.
func TestPutRefusesOneAbove(t *testing.T) {
	w := writerOf([]int{1, 1, 0})
	for left := 1; left <= Most; left++ {
		mustRefuse(t, w, left+1, left)
		mustRefuse(t, w, -1, left)
	}
	mustStand(t, w, []int{1, 1, 0})
}

// P13.2: of more bits than are needed the first ones are taken, and the others stay.
func TestTakeOfMore(t *testing.T) {
	for _, behind := range [][]int{{0}, {1}, {1, 1, 1, 1, 1, 1, 1, 1}, {0, 1, 1, 0, 1, 0, 0, 0, 1, 1, 1}, slices.Repeat([]int{0}, 30), slices.Repeat([]int{1}, 30)} {
		for _, left := range someLefts() {
			for _, v := range someNumbers(left) {
				bits := plainPut(v, left)
				r := readerOf(t, append(bits, behind...))
				mustTake(t, r, left, v, api.OK, len(bits))
				mustHave(t, r, behind)
			}
		}
	}
}

// P13.2: what may not be left is ErrArg, of a reader that has bits and of one that has none; none are taken.
func TestTakeErrArg(t *testing.T) {
	for _, b := range [][]byte{nil, {}, {0}, {5}, {255}, bytes.Repeat([]byte{255}, 20), make([]byte, 20)} {
		r := bitf.New(b)
		for _, left := range wrongLefts {
			mustTake(t, r, left, 0, api.ErrArg, 0)
		}
		mustHave(t, r, plainBits(b))
		for _, left := range wrongLefts {
			mustTake(t, r, left, 0, api.ErrArg, 0)
		}
	}
}

// P13.2: less bits than are needed are ErrShort, none of them too, whatever they are; none are taken.
func TestTakeErrShort(t *testing.T) {
	for _, left := range someLefts() {
		for many := range plainWidth(left) {
			for _, bit := range []int{0, 1} {
				bits := slices.Repeat([]int{bit}, many)
				r := readerOf(t, bits)
				mustTake(t, r, left, 0, api.ErrShort, 0)
				mustTake(t, r, left, 0, api.ErrShort, 0)
				mustHave(t, r, bits)
			}
		}
	}
}

// P13.2: one bit less than each needs is ErrShort; what needs no more than there are is taken then.
func TestTakeErrShortOfEachLeft(t *testing.T) {
	for left := 1; left <= Most; left++ {
		less := plainWidth(left) - 1
		bits := slices.Repeat([]int{1}, less)
		r := readerOf(t, bits)
		mustTake(t, r, left, 0, api.ErrShort, 0)
		if less > 0 {
			mustTake(t, r, 1<<less-1, 1<<less-1, api.OK, less)
		}
		mustHave(t, r, nil)
	}
	mustTake(t, bitf.New(nil), 1, 0, api.ErrShort, 0)
	mustTake(t, bitf.New([]byte{255}), Most, 0, api.ErrShort, 0)
}

// P13.2: each number that has no more digits than what is left, but is above it, is ErrHeader; its bits are taken, and those behind them stay.
func TestTakeErrHeader(t *testing.T) {
	behind := []int{1, 0, 1, 1, 0}
	for _, left := range someLefts() {
		width := plainWidth(left)
		for v := left + 1; v < 1<<width; v++ {
			bits := plainPut(v, left)
			r := readerOf(t, append(bits, behind...))
			mustTake(t, r, left, 0, api.ErrHeader, width)
			mustHave(t, r, behind)
			r = readerOf(t, bits)
			mustTake(t, r, left, 0, api.ErrHeader, width)
			mustHave(t, r, nil)
		}
	}
}

// P13.2: one above each that is left is ErrHeader, wherever it has no more digits; and so are all bits 1.
func TestTakeErrHeaderOneAbove(t *testing.T) {
	for left := 1; left <= Most; left++ {
		width := plainWidth(left)
		if left == 1<<width-1 {
			mustTake(t, readerOf(t, slices.Repeat([]int{1}, width)), left, left, api.OK, width)
			continue
		}
		mustTake(t, readerOf(t, plainPut(left+1, left)), left, 0, api.ErrHeader, width)
		mustTake(t, readerOf(t, slices.Repeat([]int{1}, width)), left, 0, api.ErrHeader, width)
	}
}

// P13.2, R2: the first error in the chapter's order: a wrong argument ahead of too few bits, and these ahead of a number that would be above.
func TestTakeFirstError(t *testing.T) {
	mustTake(t, bitf.New(nil), 0, 0, api.ErrArg, 0)
	mustTake(t, bitf.New([]byte{255}), Most+1, 0, api.ErrArg, 0)
	mustTake(t, bitf.New([]byte{255}), math.MaxInt, 0, api.ErrArg, 0)
	mustTake(t, readerOf(t, []int{1, 1}), 4, 0, api.ErrShort, 0)
	mustTake(t, readerOf(t, []int{1, 1, 1}), 8, 0, api.ErrShort, 0)
	mustTake(t, readerOf(t, []int{1, 1, 1}), 4, 0, api.ErrHeader, 3)
}

// P13.2: behind an error the reader goes on where it stands: at ErrHeader behind the bits, else ahead of them.
func TestTakeBehindErrors(t *testing.T) {
	r := readerOf(t, []int{1, 0, 1, 0, 1, 1, 0, 1})
	mustTake(t, r, 4, 0, api.ErrHeader, 3)
	mustTake(t, r, 0, 0, api.ErrArg, 0)
	mustTake(t, r, 5, 0, api.ErrHeader, 3)
	mustTake(t, r, 4, 0, api.ErrShort, 0)
	mustTake(t, r, Most, 0, api.ErrShort, 0)
	mustTake(t, r, 2, 2, api.OK, 2)
	mustTake(t, r, 2, 0, api.ErrShort, 0)
	mustTake(t, r, -1, 0, api.ErrArg, 0)
}

// P13.3: what is put is taken, in order, refused ones between; then nothing else is left than what fills the byte.
func TestTakenAsPut(t *testing.T) {
	for seed := range 100 {
		l := manyOnes(uint64(1000+seed), 2*seed)
		w := bitw.New()
		for _, x := range l {
			mustPut(t, w, x.v, x.left)
			mustRefuse(t, w, x.left+1, x.left)
		}
		r := bitf.New(w.Bytes())
		for _, x := range l {
			mustTake(t, r, 0, 0, api.ErrArg, 0)
			mustTake(t, r, x.left, x.v, api.OK, plainWidth(x.left))
		}
		if r.Left() > 7 || r.Left() != 8*len(w.Bytes())-w.Bits() {
			t.Fatalf("%d bits are left behind %d", r.Left(), w.Bits())
		}
		mustHave(t, r, slices.Repeat([]int{0}, r.Left()))
	}
}

// P13.3: as it is leaned on: numbers each of which lessens what is left, until nothing is.
func TestUntilNothingIsLeft(t *testing.T) {
	draw := drawer(5)
	for _, from := range someLefts() {
		w := bitw.New()
		var l []one
		for left := from; left > 0; {
			v := draw(min(left, 40) + 1)
			mustPut(t, w, v, left)
			l = append(l, one{v, left})
			left -= v
		}
		mustRefuse(t, w, 0, 0)
		r := bitf.New(w.Bytes())
		left := from
		for _, x := range l {
			mustTake(t, r, left, x.v, api.OK, plainWidth(left))
			left -= x.v
		}
		mustTake(t, r, left, 0, api.ErrArg, 0)
		if ok := r.Pad(); !ok || r.Left() != 0 {
			t.Fatalf("from %d: %d bits are left", from, r.Left())
		}
	}
}

// P13.3: among other bits, too.
func TestTakenAmongOtherBits(t *testing.T) {
	w := bitw.New()
	w.Put(5, 3)
	mustPut(t, w, 77, 100)
	w.Put(0xabcdef, 24)
	mustPut(t, w, 4096, 4096)
	r := bitf.New(w.Bytes())
	if v, ok := r.Take(3); !ok || v != 5 {
		t.Fatal(v, ok)
	}
	mustTake(t, r, 100, 77, api.OK, 7)
	if v, ok := r.Take(24); !ok || v != 0xabcdef {
		t.Fatal(v, ok)
	}
	mustTake(t, r, 4096, 4096, api.OK, 13)
	mustHave(t, r, []int{0})
}

// R1, R3: nothing panics, whatever two numbers come together; what is refused answers zero.
func TestAnyTwoNumbers(t *testing.T) {
	numbers := append(slices.Clone(wrongLefts), 1, 2, 3, 7, 8, 9, 4095, 4096)
	for _, v := range numbers {
		for _, left := range numbers {
			w := writerOf([]int{1})
			may := left >= 1 && left <= Most && v >= 0 && v <= left
			if !may {
				mustRefuse(t, w, v, left)
				continue
			}
			mustPut(t, w, v, left)
			mustStand(t, w, append([]int{1}, plainPut(v, left)...))
		}
	}
}

// R5: what a writer told ahead, and the bytes that a reader was made of, are not changed.
func TestNothingElseIsChanged(t *testing.T) {
	w := bitw.New()
	mustPut(t, w, 5, 9)
	told := w.Bytes()
	mustPut(t, w, 9, 9)
	mustPut(t, w, 4096, 4096)
	if !bytes.Equal(told, []byte{5}) {
		t.Errorf("what was told ahead: %v", told)
	}
	b := w.Bytes()
	kept := bytes.Clone(b)
	r := bitf.New(b)
	mustTake(t, r, 9, 5, api.OK, 4)
	mustTake(t, r, 8, 0, api.ErrHeader, 4)
	mustTake(t, r, 4096, 4096, api.OK, 13)
	mustTake(t, r, 4096, 0, api.ErrShort, 0)
	if !bytes.Equal(b, kept) {
		t.Errorf("the bytes: %v, were %v", b, kept)
	}
}

// R6: the same arguments have the same answer, whatever was put, taken or asked ahead; writers and readers stand apart.
func TestSameAnswerEachTime(t *testing.T) {
	other := bitw.New()
	for range 3 {
		w := bitw.New()
		mustPut(t, w, 5, 9)
		mustRefuse(t, w, 10, 9)
		mustPut(t, other, 3, 1000)
		mustStand(t, w, []int{1, 0, 1, 0})
		r := bitf.New([]byte{5})
		mustTake(t, r, 9, 5, api.OK, 4)
		mustTake(t, bitf.New([]byte{5}), 4, 0, api.ErrHeader, 3)
		mustTake(t, r, 9, 0, api.OK, 4)
		mustTake(t, r, 9, 0, api.ErrShort, 0)
	}
}

// A number at a bound is within, and one beside it is not, of whatever kind it is.
func TestWithin(t *testing.T) {
	for _, x := range []struct {
		n, least, most int
		want           bool
	}{{1, 1, 3, true}, {2, 1, 3, true}, {3, 1, 3, true}, {0, 1, 3, false}, {4, 1, 3, false}, {2, 2, 2, true}, {2, 3, 1, false}, {math.MinInt, math.MinInt, math.MaxInt, true}} {
		if ok := within(x.n, x.least, x.most); ok != x.want {
			t.Errorf("within(%d, %d, %d): %v", x.n, x.least, x.most, ok)
		}
	}
	if !within[uint32](1<<32-1, 0, 1<<32-1) || within[uint32](1<<32-1, 0, 1<<31) || within[byte](0, 1, 255) {
		t.Error("numbers without a sign")
	}
}
