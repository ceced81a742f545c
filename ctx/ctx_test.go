package ctx

import (
	"bytes"
	"fmt"
	"math"
	"slices"
	"testing"

	"puncheon/hist"
)

// manyBytes is a list of some length, of values below a number, the same one each time for one seed.
func manyBytes(seed uint64, many, below int) []byte {
	l := make([]byte, many)
	x := seed
	for i := range l {
		x = x*6364136223846793005 + 1442695040888963407
		l[i] = byte(x >> 40 % uint64(below))
	}
	return l
}

// rising are all bytes' values, from 0 to 255.
func rising() []byte {
	l := make([]byte, 256)
	for i := range l {
		l[i] = byte(i)
	}
	return l
}

// falling are all bytes' values, from 255 to 0.
func falling() []byte {
	l := rising()
	slices.Reverse(l)
	return l
}

// behindEach are all bytes' values, from 0 to 255, each of them behind one that is always the same.
func behindEach(c byte) []byte {
	var l []byte
	for i := range 256 {
		l = append(l, c, byte(i))
	}
	return l
}

// texts are bytes of many kinds, by what they are.
func texts() map[string][]byte {
	return map[string][]byte{
		"nil":                  nil,
		"an empty list":        {},
		"one 0":                {0},
		"one 7":                {7},
		"one 255":              {255},
		"two alike":            {7, 7},
		"two unlike":           {7, 8},
		"0s":                   make([]byte, 300),
		"7s":                   bytes.Repeat([]byte{7}, 300),
		"255s":                 bytes.Repeat([]byte{255}, 300),
		"the example":          {1, 1, 2},
		"a 0 within":           {1, 1, 2, 0, 5},
		"a 0 at last":          {1, 2, 0},
		"a 0 at first":         {0, 1, 2},
		"255 at last":          {1, 255},
		"turns":                {0, 255, 0, 255, 0},
		"a word":               []byte("puncheon"),
		"all, rising":          rising(),
		"all, falling":         falling(),
		"all, twice":           append(rising(), rising()...),
		"all behind 0":         behindEach(0),
		"all behind 9":         behindEach(9),
		"all behind 255":       behindEach(255),
		"many of a few":        manyBytes(1, 1000, 3),
		"many":                 manyBytes(2, 5000, 256),
		"many, more than 2^16": manyBytes(3, 70000, 256),
		"many of two":          manyBytes(4, 500, 2),
	}
}

// pairs are how often each byte comes behind each one, and a 0 ahead of the first: reckoned by bytes that are laid behind a 0.
func pairs(b []byte) map[[2]int]int {
	laid := append([]byte{0}, b...)
	told := map[[2]int]int{}
	for len(laid) > 1 {
		told[[2]int{int(laid[0]), int(laid[1])}]++
		laid = laid[1:]
	}
	return told
}

// with are 256 zeros, but for numbers at places: a place, its number, the next place, and so on.
func with(placed ...int) []int {
	c := make([]int, 256)
	for i := 0; i < len(placed); i += 2 {
		c[placed[i]] = placed[i+1]
	}
	return c
}

// numbers are those from a first to a last one.
func numbers(first, last int) []int {
	var l []int
	for i := first; i <= last; i++ {
		l = append(l, i)
	}
	return l
}

// noContexts are numbers that are no byte's value, some of them one in their lowest eight bits.
func noContexts() []int {
	return []int{-1, -2, -7, -255, -256, -249, 256, 257, 263, 511, 512, 65536, 65543, 1 << 32, 1<<32 + 7, math.MinInt, math.MinInt + 7, math.MaxInt}
}

func mustBe(t *testing.T, what string, got, want []int) {
	t.Helper()
	if !slices.Equal(got, want) {
		t.Fatalf("%s: %v, want %v", what, got, want)
	}
}

func mustCount(t *testing.T, what string, got, want int) {
	t.Helper()
	if got != want {
		t.Fatalf("%s: %d, want %d", what, got, want)
	}
}

// P6.1, P6.2: the chapter's example.
func TestExample(t *testing.T) {
	b := []byte{1, 1, 2}
	mustBe(t, "contexts of 1, 1, 2", []int{At(b, 0), At(b, 1), At(b, 2)}, []int{0, 1, 1})
	mustBe(t, "Present of 1, 1, 2", Present(b), []int{0, 1})
	mustCount(t, "Widest of 1, 1, 2", Widest(b), 2)
	mustBe(t, "For 0 of 1, 1, 2", For(b, 0), with(1, 1))
	mustBe(t, "For 1 of 1, 1, 2", For(b, 1), with(1, 1, 2, 1))
	mustBe(t, "For 2 of 1, 1, 2", For(b, 2), with())
}

// P6.1: the context of the first byte is 0, whatever it is; of the one behind it is the first one's value.
func TestAtTheFirstBytes(t *testing.T) {
	for i := range 256 {
		x := byte(i)
		mustCount(t, fmt.Sprint("At 0 of ", i), At([]byte{x}, 0), 0)
		mustCount(t, fmt.Sprint("At 0 of three bytes ", i), At([]byte{x, 9, x}, 0), 0)
		mustCount(t, fmt.Sprint("At 1 of three bytes ", i), At([]byte{x, 9, x}, 1), i)
		mustCount(t, fmt.Sprint("At 2 of three bytes ", i), At([]byte{9, x, 9}, 2), i)
	}
}

// P6.1: the context of each other byte is the byte ahead of it.
func TestAtEachByte(t *testing.T) {
	for what, b := range texts() {
		laid := append([]byte{0}, b...)
		for i := range b {
			mustCount(t, fmt.Sprintf("At %d of %s", i, what), At(b, i), int(laid[i]))
		}
	}
}

// P6.1: below 0, and at or past the end, there is no byte, and -1 is told.
func TestAtWhereNoByteIs(t *testing.T) {
	for what, b := range texts() {
		for _, i := range []int{-1, -2, -256, math.MinInt, math.MinInt + 1} {
			mustCount(t, fmt.Sprintf("At %d of %s", i, what), At(b, i), -1)
		}
		for _, i := range []int{len(b), len(b) + 1, len(b) + 256, 1 << 32, math.MaxInt - 1, math.MaxInt} {
			mustCount(t, fmt.Sprintf("At %d of %s", i, what), At(b, i), -1)
		}
	}
}

// P6.1: For of known bytes, written out.
func TestForWrittenOut(t *testing.T) {
	b := []byte{1, 1, 2, 0, 5, 255, 255, 0, 5, 1}
	mustBe(t, "the context 0, of the first byte too", For(b, 0), with(1, 1, 5, 2))
	mustBe(t, "the context 1, of the last byte too", For(b, 1), with(1, 1, 2, 1))
	mustBe(t, "the context 2", For(b, 2), with(0, 1))
	mustBe(t, "the context 5", For(b, 5), with(1, 1, 255, 1))
	mustBe(t, "the context 255", For(b, 255), with(0, 1, 255, 1))
	mustBe(t, "a context that no byte has", For(b, 9), with())
	mustBe(t, "a context of the last byte's value alone", For([]byte{1, 2, 9}, 9), with())
	mustBe(t, "the context 0 of 0s", For(make([]byte, 300), 0), with(0, 300))
	mustBe(t, "the context 0 of 7s", For(bytes.Repeat([]byte{7}, 300), 0), with(7, 1))
	mustBe(t, "the context 7 of 7s", For(bytes.Repeat([]byte{7}, 300), 7), with(7, 299))
}

// P6.1: For at each context, of bytes of many kinds: 256 counts, of each pair of bytes one.
func TestForEachContext(t *testing.T) {
	for what, b := range texts() {
		told := pairs(b)
		for c := range 256 {
			want := make([]int, 256)
			for x := range want {
				want[x] = told[[2]int{c, x}]
			}
			got := For(b, c)
			mustBe(t, fmt.Sprintf("For %d of %s", c, what), got, want)
			if !hist.Right(got) {
				t.Fatalf("For %d of %s: no right counts", c, what)
			}
		}
	}
}

// P6.1: of what is no context none is counted: 256 counts 0.
func TestForWhatIsNoContext(t *testing.T) {
	for what, b := range texts() {
		for _, c := range noContexts() {
			mustBe(t, fmt.Sprintf("For %d of %s", c, what), For(b, c), with())
		}
	}
}

// P6.1, R4: of no bytes, nil or an empty list, none is counted in any context.
func TestForNoBytes(t *testing.T) {
	for c := range 256 {
		mustBe(t, fmt.Sprint("For of nil, ", c), For(nil, c), with())
		mustBe(t, fmt.Sprint("For of no bytes, ", c), For([]byte{}, c), with())
	}
}

// P6.1: Present of known bytes, written out.
func TestPresentWrittenOut(t *testing.T) {
	for _, x := range []struct {
		what string
		b    []byte
		want []int
	}{
		{"nil", nil, nil},
		{"no bytes", []byte{}, nil},
		{"one 0", []byte{0}, []int{0}},
		{"one 7", []byte{7}, []int{0}},
		{"one 255", []byte{255}, []int{0}},
		{"two unlike", []byte{7, 8}, []int{0, 7}},
		{"0s", make([]byte, 300), []int{0}},
		{"7s", bytes.Repeat([]byte{7}, 300), []int{0, 7}},
		{"255s", bytes.Repeat([]byte{255}, 300), []int{0, 255}},
		{"out of order", []byte{200, 3, 255, 100, 3, 0, 9}, []int{0, 3, 100, 200, 255}},
		{"all, rising", rising(), numbers(0, 254)},
		{"all, falling", falling(), numbers(0, 255)},
		{"all, twice", append(rising(), rising()...), numbers(0, 255)},
		{"a last byte that came ahead", []byte{9, 4, 9}, []int{0, 4, 9}},
		{"a last byte that is new", []byte{9, 4, 8}, []int{0, 4, 9}},
	} {
		mustBe(t, "Present of "+x.what, Present(x.b), x.want)
	}
}

// P6.1: Present are just the contexts that At tells of some byte, and those for which For counts some; rising.
func TestPresentIsWhatAtAndForTell(t *testing.T) {
	for what, b := range texts() {
		var byAt, byFor []int
		for i := range b {
			byAt = append(byAt, At(b, i))
		}
		slices.Sort(byAt)
		for c := range 256 {
			if hist.Total(For(b, c)) > 0 {
				byFor = append(byFor, c)
			}
		}
		got := Present(b)
		mustBe(t, "Present of "+what+", by At", got, slices.Compact(byAt))
		mustBe(t, "Present of "+what+", by For", got, byFor)
	}
}

// P6.2: Widest of known bytes, written out.
func TestWidestWrittenOut(t *testing.T) {
	for _, x := range []struct {
		what string
		b    []byte
		want int
	}{
		{"nil", nil, 0},
		{"no bytes", []byte{}, 0},
		{"one 0", []byte{0}, 1},
		{"one 255", []byte{255}, 1},
		{"two alike", []byte{7, 7}, 1},
		{"two unlike", []byte{7, 8}, 1},
		{"0s", make([]byte, 300), 1},
		{"7s", bytes.Repeat([]byte{7}, 300), 1},
		{"all, rising", rising(), 2},
		{"all, falling", falling(), 1},
		{"all, twice", append(rising(), rising()...), 2},
		{"two behind the first byte's 0", []byte{7, 0, 8}, 2},
		{"one twice behind 0", []byte{7, 0, 7}, 1},
		{"two behind 9", []byte{9, 1, 9, 2, 9, 1}, 2},
		{"three behind 255", []byte{255, 0, 255, 1, 255, 255, 1}, 3},
		{"the widest in the middle", []byte{1, 2, 5, 1, 5, 2, 5, 3, 1, 2, 1, 3}, 3},
		{"all behind 0", behindEach(0), 256},
		{"all behind 9", behindEach(9), 256},
		{"all behind 255", behindEach(255), 256},
		{"all but the last behind 9", behindEach(9)[:511], 255},
	} {
		mustCount(t, "Widest of "+x.what, Widest(x.b), x.want)
	}
}

// P6.2: Widest is the greatest number of values that are counted for one context.
func TestWidestIsWhatForTells(t *testing.T) {
	for what, b := range texts() {
		want := 0
		for c := range 256 {
			want = max(want, hist.Many(For(b, c)))
		}
		mustCount(t, "Widest of "+what, Widest(b), want)
	}
}

// P6.3: each byte is counted in one context; all contexts' counts together are the bytes' counts.
func TestAllContextsTogether(t *testing.T) {
	for what, b := range texts() {
		all, ofPresent, total := with(), with(), 0
		for c := range 256 {
			counts := For(b, c)
			total += hist.Total(counts)
			all = mustAdd(t, what, all, counts)
		}
		for _, c := range Present(b) {
			ofPresent = mustAdd(t, what, ofPresent, For(b, c))
		}
		mustCount(t, "how many bytes are counted of "+what, total, len(b))
		mustBe(t, "all contexts of "+what, all, hist.Of(b))
		mustBe(t, "all contexts that are present in "+what, ofPresent, hist.Of(b))
	}
}

func mustAdd(t *testing.T, what string, one, two []int) []int {
	t.Helper()
	both, ok := hist.Add(one, two)
	if !ok {
		t.Fatalf("the counts of %s can't be added", what)
	}
	return both
}

// P6.1, P6.2: what lies in memory ahead of the bytes, or behind them, isn't looked at.
func TestBytesThatAreCutOut(t *testing.T) {
	room := []byte{9, 1, 1, 2, 9, 9}
	b := room[1:4]
	mustCount(t, "At the first byte", At(b, 0), 0)
	mustCount(t, "At one ahead of it", At(b, -1), -1)
	mustCount(t, "At one behind the end", At(b, 3), -1)
	mustBe(t, "For 9", For(b, 9), with())
	mustBe(t, "For 2", For(b, 2), with())
	mustBe(t, "Present", Present(b), []int{0, 1})
	mustCount(t, "Widest", Widest(b), 2)
}

// R5: the bytes that are handed in stay as they are, and so does what lies behind them.
func TestNothingHandedInIsChanged(t *testing.T) {
	for what, b := range texts() {
		room := append(bytes.Clone(b), 3, 3, 3)
		handed := room[:len(b)]
		At(handed, 0)
		At(handed, len(b))
		for _, c := range append(noContexts(), 0, 1, 7, 255) {
			For(handed, c)
		}
		Present(handed)
		Widest(handed)
		if !bytes.Equal(room, append(bytes.Clone(b), 3, 3, 3)) {
			t.Fatalf("%s: changed", what)
		}
	}
}

// R5: what was told hangs neither on what was handed in, nor on what is told ahead or later.
func TestAnswersAreTheirOwn(t *testing.T) {
	b := []byte{1, 1, 2}
	counts, contexts := For(b, 1), Present(b)
	b[0], b[1], b[2] = 9, 9, 9
	mustBe(t, "For, the bytes changed", counts, with(1, 1, 2, 1))
	mustBe(t, "Present, the bytes changed", contexts, []int{0, 1})
	b = []byte{1, 1, 2}
	otherCounts, otherContexts, none := For(b, 1), Present(b), For(b, -1)
	otherCounts[1], otherContexts[0], none[3] = 50, 60, 70
	mustBe(t, "For, another answer changed", counts, with(1, 1, 2, 1))
	mustBe(t, "Present, another answer changed", contexts, []int{0, 1})
	mustBe(t, "For, once more", For(b, 1), with(1, 1, 2, 1))
	mustBe(t, "Present, once more", Present(b), []int{0, 1})
	mustBe(t, "For no context, once more", For(b, -1), with())
	mustBe(t, "For of no bytes, behind that", For(nil, 3), with())
	if !bytes.Equal(b, []byte{1, 1, 2}) {
		t.Fatal("the bytes hang on the answers")
	}
}

// R5: who appends to an answer reaches no other one.
func TestAnswersHaveNoRoomInCommon(t *testing.T) {
	b := []byte{5, 6, 7}
	contexts, again := Present(b), Present(b)
	_ = append(contexts, 100)
	mustBe(t, "appended to contexts", append(again, 101), []int{0, 5, 6, 101})
	counts, more := For(b, 5), For(b, 5)
	_ = append(counts, 100)
	mustBe(t, "appended to counts", append(more, 101)[256:], []int{101})
}

// R6: the same arguments have the same answer, whatever was asked ahead.
func TestSameAnswerEachTime(t *testing.T) {
	b := manyBytes(8, 500, 20)
	counts, contexts, widest := For(b, 5), Present(b), Widest(b)
	for range 3 {
		other := manyBytes(9, 300, 256)
		For(other, 5)
		Present(other)
		Widest(other)
		mustBe(t, "For", For(b, 5), counts)
		mustBe(t, "Present", Present(b), contexts)
		mustCount(t, "Widest", Widest(b), widest)
		mustCount(t, "At", At(b, 400), int(b[399]))
	}
}
