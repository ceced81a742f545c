package logs

import (
	"bytes"
	"fmt"
	"math"
	"slices"
	"strconv"
	"testing"

	"puncheon/api"
	"puncheon/ctx"
	"puncheon/hist"
)

// top is the log of the greatest number of which something is promised.
const top = 40

func mustBe(t *testing.T, what string, got, want int) {
	t.Helper()
	if got != want {
		t.Fatalf("%s: %d, want %d", what, got, want)
	}
}

// mustTell holds Floor, Ceil and Width of a number to what they must be.
func mustTell(t *testing.T, n, floor, ceil, width int) {
	t.Helper()
	mustBe(t, fmt.Sprint("Floor of ", n), Floor(n), floor)
	mustBe(t, fmt.Sprint("Ceil of ", n), Ceil(n), ceil)
	mustBe(t, fmt.Sprint("Width of ", n), Width(n), width)
}

// powersWhile is how many powers of two, from 1 on, are wanted, up to the first that isn't.
func powersWhile(wanted func(power int) bool) int {
	many := 0
	for power := 1; wanted(power); power *= 2 {
		many++
	}
	return many
}

// plainFloor is Floor of an n from 1 on, in the chapter's words.
func plainFloor(n int) int {
	return powersWhile(func(power int) bool { return power <= n }) - 1
}

// plainCeil is Ceil of an n from 1 on, in the chapter's words.
func plainCeil(n int) int {
	return powersWhile(func(power int) bool { return power < n })
}

// plainWidth is Width of an n from 1 on: its digits are written, and counted.
func plainWidth(n int) int { return len(strconv.FormatInt(int64(n), 2)) }

// manyNumbers are from 1 to 2^40, of all widths, the same ones each time.
func manyNumbers() []int {
	var l []int
	x := uint64(7)
	for range 5000 {
		x = x*6364136223846793005 + 1442695040888963407
		l = append(l, int(x>>24>>(x>>8%top))+1)
	}
	return l
}

// belowOne are 0, and numbers below it.
func belowOne() []int {
	return []int{0, -1, -2, -3, -4, -5, -8, -255, -256, -257, -1 << 30, -1<<32 - 1, -1 << 32, -1 << top, -1 << 62, math.MinInt + 1, math.MinInt}
}

// P7.1: the chapter's examples.
func TestExamples(t *testing.T) {
	mustTell(t, 9, 3, 4, 4)
}

// P7.1: of 0, and below it, all are 0.
func TestBelowOne(t *testing.T) {
	for _, n := range belowOne() {
		mustTell(t, n, 0, 0, 0)
	}
}

// P7.1: known numbers, written out.
func TestWrittenOut(t *testing.T) {
	for _, x := range [][4]int{
		{1, 0, 0, 1},
		{2, 1, 1, 2},
		{3, 1, 2, 2},
		{4, 2, 2, 3},
		{5, 2, 3, 3},
		{6, 2, 3, 3},
		{7, 2, 3, 3},
		{8, 3, 3, 4},
		{15, 3, 4, 4},
		{16, 4, 4, 5},
		{17, 4, 5, 5},
		{255, 7, 8, 8},
		{256, 8, 8, 9},
		{257, 8, 9, 9},
		{1000, 9, 10, 10},
		{4095, 11, 12, 12},
		{4096, 12, 12, 13},
		{131071, 16, 17, 17},
		{131072, 17, 17, 18},
		{1073741824, 30, 30, 31},
		{4294967295, 31, 32, 32},
		{4294967296, 32, 32, 33},
		{4294967297, 32, 33, 33},
		{1099511627775, 39, 40, 40},
		{1099511627776, 40, 40, 41},
	} {
		mustTell(t, x[0], x[1], x[2], x[3])
	}
}

// P7.1: at each power of two, and one beside it, up to 2^40.
func TestAtPowersOfTwo(t *testing.T) {
	for log := range top + 1 {
		power := 1 << log
		mustTell(t, power, log, log, log+1)
		if log > 1 {
			mustTell(t, power-1, log-1, log, log)
		}
		if 0 < log && log < top {
			mustTell(t, power+1, log, log+1, log+1)
		}
	}
}

// P7.1: each small number, and many up to 2^40, held to the chapter's words.
func TestByTheChaptersWords(t *testing.T) {
	for n := 1; n <= 10000; n++ {
		mustTell(t, n, plainFloor(n), plainCeil(n), plainWidth(n))
	}
	for _, n := range manyNumbers() {
		mustTell(t, n, plainFloor(n), plainCeil(n), plainWidth(n))
	}
}

// P7.1: Width has no bound: up to the greatest number there is.
func TestWidthUpToTheGreatest(t *testing.T) {
	for log := range 63 {
		mustBe(t, fmt.Sprintf("Width of 2^%d", log), Width(1<<log), log+1)
		mustBe(t, fmt.Sprintf("Width of all below 2^%d", log+1), Width(math.MaxInt>>(62-log)), log+1)
	}
}

// R1: of n above 2^40 nothing is promised, but each call ends.
func TestAboveTheTop(t *testing.T) {
	for _, n := range []int{1<<top + 1, 1 << 62, 1<<62 + 1, math.MaxInt - 1, math.MaxInt} {
		Floor(n)
		Ceil(n)
		Width(n)
		Pick(n, 3, 11)
		Pick(1000, n, 11)
		Pick(n, n, n)
	}
}

// mustPick holds Pick to what it must be.
func mustPick(t *testing.T, n, m, most, want int) {
	t.Helper()
	mustBe(t, fmt.Sprintf("Pick(%d, %d, %d)", n, m, most), Pick(n, m, most), want)
}

// P7.2: the chapter's examples.
func TestPickExamples(t *testing.T) {
	mustPick(t, 1000, 3, 11, 7)
	mustPick(t, 1000, 200, 11, 8)
}

// P7.2: Floor(n) less 2 decides, where that is neither above most, nor below MinLog or Ceil(m).
func TestPickByHowManyBytes(t *testing.T) {
	for floor := 7; floor <= 13; floor++ {
		for _, n := range []int{1 << floor, 1<<floor + 1, 2<<floor - 1} {
			mustPick(t, n, 1, 11, floor-2)
			mustPick(t, n, 1<<(floor-2), 11, floor-2)
			mustPick(t, n, 3, floor-2, floor-2)
		}
	}
	mustPick(t, 1<<top, 3, 50, 38)
	mustPick(t, 1<<top-1, 3, 50, 37)
	mustPick(t, 1<<top, 3, math.MaxInt, 38)
}

// P7.2: most decides, where Floor(n) less 2 is above it.
func TestPickByMost(t *testing.T) {
	mustPick(t, 1<<13, 3, 11, 11)
	mustPick(t, 1<<14-1, 3, 11, 11)
	mustPick(t, 1<<14, 3, 11, 11)
	mustPick(t, 1<<17, 3, 11, 11)
	mustPick(t, 1<<17, 256, 11, 11)
	mustPick(t, 1<<17, 3, 9, 9)
	mustPick(t, 1<<11, 3, 9, 9)
	mustPick(t, 1<<12, 3, 9, 9)
	mustPick(t, 1<<17, 256, 9, 9)
	mustPick(t, 1<<17, 256, 8, 8)
	mustPick(t, 1<<17, 3, 6, 6)
	mustPick(t, 1<<top, 3, 37, 37)
}

// P7.2: MinLog decides, where Floor(n) less 2 or most is below it.
func TestPickByMinLog(t *testing.T) {
	mustBe(t, "MinLog", api.MinLog, 5)
	for n := range 256 {
		mustPick(t, n, 1, 11, 5)
		mustPick(t, n, 32, 11, 5)
	}
	mustPick(t, 256, 1, 11, 6)
	for _, n := range belowOne() {
		mustPick(t, n, 0, 11, 5)
		mustPick(t, n, n, n, 5)
	}
	for most := range 6 {
		mustPick(t, 1<<17, 3, most, 5)
		mustPick(t, 100, 3, most, 5)
	}
	for _, most := range belowOne() {
		mustPick(t, 1<<17, 3, most, 5)
		mustPick(t, 0, 0, most, 5)
		mustPick(t, 1<<17, 32, most, 5)
	}
}

// P7.2: Ceil(m) decides, where it is above all of the others, above most too.
func TestPickByHowManyUnlike(t *testing.T) {
	mustPick(t, 0, 33, 11, 6)
	mustPick(t, 10, 33, 11, 6)
	mustPick(t, 100, 64, 11, 6)
	mustPick(t, 100, 65, 11, 7)
	mustPick(t, 256, 64, 11, 6)
	mustPick(t, 256, 65, 11, 7)
	mustPick(t, 1000, 128, 11, 7)
	mustPick(t, 1000, 129, 11, 8)
	mustPick(t, 1000, 256, 11, 8)
	mustPick(t, 1<<17, 256, 7, 8)
	mustPick(t, 1<<17, 129, 7, 8)
	mustPick(t, 1<<17, 128, 7, 7)
	mustPick(t, 1<<17, 256, -4, 8)
	mustPick(t, 1<<17, 256, math.MinInt, 8)
	mustPick(t, math.MinInt, 256, 11, 8)
	mustPick(t, 1<<17, 4096, 11, 12)
	mustPick(t, 1<<17, 4097, 11, 13)
	mustPick(t, 1000, 1<<top, 11, 40)
	mustPick(t, 1000, 1<<top-1, 11, 40)
	mustPick(t, 1000, 1<<39, 11, 39)
}

// P7.2: an m below 1 has the log 0, so that it never decides.
func TestPickOfNoneUnlike(t *testing.T) {
	for _, m := range belowOne() {
		mustPick(t, 1000, m, 11, 7)
		mustPick(t, 1<<17, m, 11, 11)
		mustPick(t, 0, m, 11, 5)
	}
}

// plainPick is Pick in the chapter's words, one after the other.
func plainPick(n, m, most int) int {
	log := Floor(n) - 2
	if most < log {
		log = most
	}
	if 5 > log {
		log = 5
	}
	if Ceil(m) > log {
		log = Ceil(m)
	}
	return log
}

// somePicks hands over all threes of numbers at the edges of Pick, and beside them.
func somePicks(hand func(n, m, most int)) {
	numbers := []int{math.MinInt, -1, 0, 1, 2, 3}
	for _, log := range []int{4, 5, 6, 7, 8, 9, 10, 11, 12, 13, 14, 17, 30, top} {
		numbers = append(numbers, 1<<log-1, 1<<log, min(1<<log+1, 1<<top))
	}
	bounds := []int{math.MinInt, -4, -1, 0, 1, 4, 5, 6, 7, 8, 9, 10, 11, 12, 38, 39, 40, 41, math.MaxInt}
	for _, n := range numbers {
		for _, m := range numbers {
			for _, most := range bounds {
				hand(n, m, most)
			}
		}
	}
}

// P7.2: at all edges, each with each.
func TestPickByTheChaptersWords(t *testing.T) {
	somePicks(func(n, m, most int) {
		mustPick(t, n, m, most, plainPick(n, m, most))
	})
}

// P7.3: a table has as many places as there are unlike bytes, or more; and at least 2^MinLog of them.
func TestRoomForEach(t *testing.T) {
	hasRoom := func(n, m, most int) {
		log := Pick(n, m, most)
		if log < api.MinLog || 1<<log < m {
			t.Fatalf("Pick(%d, %d, %d): %d, that has no room", n, m, most, log)
		}
	}
	somePicks(hasRoom)
	for m := range 5000 {
		for _, n := range []int{0, m, 1000, 1 << 17} {
			for _, most := range []int{0, api.MinLog, api.MaxLog1, api.MaxLog0} {
				hasRoom(n, m, most)
			}
		}
	}
}

// P7.3: of bytes, by one list or by one for each context, a table has room for all that are unlike, and its log keeps to the layers' limits.
func TestRoomForBytes(t *testing.T) {
	var all []byte
	for i := range api.Symbols {
		all = append(all, byte(i))
	}
	for _, b := range [][]byte{
		nil,
		{7, 7, 7},
		[]byte("puncheon"),
		all[:32],
		all[:33],
		all[:64],
		all[:65],
		all,
		slices.Concat(all, all),
		slices.Concat(bytes.Repeat([]byte{0}, 1<<17), all),
	} {
		mustHaveRoom(t, len(b), hist.Many(hist.Of(b)), api.MaxLog0)
		mustHaveRoom(t, len(b), ctx.Widest(b), api.MaxLog1)
	}
}

// mustHaveRoom holds Pick of some bytes to all that are unlike, and to the greatest log, that no bytes need more than.
func mustHaveRoom(t *testing.T, n, m, most int) {
	t.Helper()
	log := Pick(n, m, most)
	if 1<<log < m || log < api.MinLog || log > most {
		t.Fatalf("Pick(%d, %d, %d): %d", n, m, most, log)
	}
}

// R6: the same arguments have the same answer, whatever was asked ahead.
func TestSameAnswerEachTime(t *testing.T) {
	for range 3 {
		mustTell(t, 257, 8, 9, 9)
		mustPick(t, 1000, 3, 11, 7)
		mustPick(t, 1<<17, 256, 7, 8)
		mustTell(t, math.MinInt, 0, 0, 0)
	}
}

// The greatest of some numbers, wherever it stands, however many there are.
func TestGreatest(t *testing.T) {
	for _, x := range [][]int{{5}, {-5}, {5, 1}, {1, 5}, {5, 1, 2}, {1, 5, 2}, {1, 2, 5}, {5, 5, 5}, {-3, -1, -2}, {math.MinInt, math.MaxInt}} {
		mustBe(t, fmt.Sprint("greatest of ", x), greatest(x[0], x[1:]...), slices.Max(x))
	}
	mustBe(t, "greatest of the least one", greatest(math.MinInt), math.MinInt)
}
