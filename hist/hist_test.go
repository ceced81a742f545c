package hist

import (
	"bytes"
	"fmt"
	"math"
	"slices"
	"testing"
)

// manyBytes is a list of some length, the same one each time for one seed.
func manyBytes(seed uint64, many int) []byte {
	l := make([]byte, many)
	x := seed
	for i := range l {
		x = x*6364136223846793005 + 1442695040888963407
		l[i] = byte(x >> 40)
	}
	return l
}

// manyCounts are right counts, the same ones each time for one seed, about a half of them 0.
func manyCounts(seed uint64) []int {
	c := make([]int, 256)
	x := seed
	for i := range c {
		x = x*6364136223846793005 + 1442695040888963407
		if x>>63 == 1 {
			c[i] = int(x >> 40 % (1 << 21))
		}
	}
	return c
}

// with are 256 zeros, but for numbers at places: a place, its number, the next place, and so on.
func with(placed ...int) []int {
	c := make([]int, 256)
	for i := 0; i < len(placed); i += 2 {
		c[placed[i]] = placed[i+1]
	}
	return c
}

// all are some numbers that are the same.
func all(many, number int) []int { return slices.Repeat([]int{number}, many) }

// rightOnes are counts that are right, at the edges and within, by what they are.
func rightOnes() map[string][]int {
	full := all(256, MaxCount/256)
	return map[string][]int{
		"none":                       all(256, 0),
		"ones":                       all(256, 1),
		"one at the first place":     with(0, 1),
		"one at the last place":      with(255, 1),
		"full at the first place":    with(0, MaxCount),
		"full in the middle":         with(128, MaxCount),
		"full at the last place":     with(255, MaxCount),
		"full at both ends together": with(0, MaxCount-1, 255, 1),
		"full, the other way round":  with(0, 1, 255, MaxCount-1),
		"full by halves":             with(7, MaxCount/2, 8, MaxCount/2),
		"full by all":                full,
		"one less than full":         with(0, MaxCount-2, 1, 1),
		"the example":                with(0, 1, 1, 2),
		"many":                       manyCounts(1),
		"other ones":                 manyCounts(2),
	}
}

// wrongOnes are lists of numbers that are no right counts, by what they are.
func wrongOnes() map[string][]int {
	fullAndFirst, fullAndLast := all(256, MaxCount/256), all(256, MaxCount/256)
	fullAndFirst[0]++
	fullAndLast[255]++
	return map[string][]int{
		"nil":                                nil,
		"an empty list":                      {},
		"one number":                         {5},
		"255 zeros":                          all(255, 0),
		"257 zeros":                          all(257, 0),
		"255 ones":                           all(255, 1),
		"257 ones":                           all(257, 1),
		"512 zeros":                          all(512, 0),
		"255 of which the first is full":     with(0, MaxCount)[:255],
		"257, the last one wrong":            append(all(256, 0), -1),
		"-1 at the first place":              with(0, -1),
		"-1 in the middle":                   with(100, -1),
		"-1 at the last place":               with(255, -1),
		"-1 beside as much":                  with(0, 1, 255, -1),
		"full and one more, and one less":    with(0, MaxCount, 1, 1, 2, -1),
		"less ahead of full and one more":    with(0, -1, 1, MaxCount, 2, 1),
		"above at the first place":           with(0, MaxCount+1),
		"above in the middle":                with(100, MaxCount+1),
		"above at the last place":            with(255, MaxCount+1),
		"above beside what is below":         with(0, MaxCount+1, 255, -1),
		"below beside what is above":         with(0, -1, 255, MaxCount+1),
		"the least at the first place":       with(0, math.MinInt),
		"the least at the last place":        with(255, math.MinInt),
		"the greatest at the first place":    with(0, math.MaxInt),
		"the greatest at the last place":     with(255, math.MaxInt),
		"the greatest and the least":         with(0, math.MaxInt, 255, math.MinInt),
		"the greatest twice, and two":        with(0, math.MaxInt, 1, math.MaxInt, 2, 2),
		"the least twice":                    with(0, math.MinInt, 1, math.MinInt),
		"2^62 four times":                    with(0, 1<<62, 1, 1<<62, 2, 1<<62, 255, 1<<62),
		"2^32 at the last place":             with(255, 1<<32),
		"full at the first place, 1 at last": with(0, MaxCount, 255, 1),
		"1 at the first place, full at last": with(0, 1, 255, MaxCount),
		"full, and one more beside":          with(9, MaxCount-1, 10, 2),
		"full by all, and one more at first": fullAndFirst,
		"full by all, and one more at last":  fullAndLast,
		"full twice":                         with(0, MaxCount, 1, MaxCount),
		"full four times, that wrap 32 bits": with(0, MaxCount, 1, MaxCount, 2, MaxCount, 3, MaxCount),
		"full at all places":                 all(256, MaxCount),
		"full by all, and one more at each":  all(256, MaxCount/256+1),
	}
}

func mustBe(t *testing.T, what string, got, want []int) {
	t.Helper()
	if !slices.Equal(got, want) {
		t.Fatalf("%s: %v, want %v", what, got, want)
	}
}

func mustCount(t *testing.T, what string, got, want int) {
	t.Helper()
	if got != want {
		t.Fatalf("%s: %d, want %d", what, got, want)
	}
}

// mustNotAdd holds Add to what it tells where there is nothing: no list, and false (R3).
func mustNotAdd(t *testing.T, what string, a, b []int) {
	t.Helper()
	if got, ok := Add(a, b); ok || len(got) != 0 {
		t.Fatalf("Add of %s: %v %v, want none and false", what, got, ok)
	}
}

func mustAdd(t *testing.T, what string, a, b, want []int) {
	t.Helper()
	got, ok := Add(a, b)
	if !ok {
		t.Fatalf("Add of %s: false", what)
	}
	mustBe(t, "Add of "+what, got, want)
}

// plainTotal is all together, of numbers that are small enough.
func plainTotal(c []int) int {
	total := 0
	for i := range c {
		total += c[i]
	}
	return total
}

// P5.1: the chapter's example.
func TestOfExample(t *testing.T) {
	want := append([]int{1, 2}, make([]int, 254)...)
	mustBe(t, "Of 1, 1, 0", Of([]byte{1, 1, 0}), want)
}

// P5.1, R4: no bytes, nil or an empty list, have 256 counts 0.
func TestOfNoBytes(t *testing.T) {
	mustBe(t, "Of(nil)", Of(nil), make([]int, 256))
	mustBe(t, "Of no bytes", Of([]byte{}), make([]int, 256))
}

// P5.1: each byte's value has its own count, alone, and among others, wherever it stands.
func TestOfEachByte(t *testing.T) {
	for i := range 256 {
		mustBe(t, fmt.Sprint("Of ", i), Of([]byte{byte(i)}), with(i, 1))
		mustBe(t, fmt.Sprint("Of 300 times ", i), Of(bytes.Repeat([]byte{byte(i)}, 300)), with(i, 300))
		other := byte(i) ^ 255
		mustBe(t, fmt.Sprint("Of others and ", i), Of([]byte{other, byte(i), other}), with(i, 1, int(other), 2))
	}
}

// P5.1: of many bytes each count is how often the byte is found, asked one by one; all of them are right.
func TestOfManyBytes(t *testing.T) {
	for _, many := range []int{1, 2, 255, 256, 257, 1000, 70000} {
		b := manyBytes(uint64(many), many)
		want := make([]int, 256)
		for i := range want {
			want[i] = bytes.Count(b, []byte{byte(i)})
		}
		c := Of(b)
		mustBe(t, fmt.Sprintf("Of %d bytes", many), c, want)
		if !Right(c) {
			t.Fatalf("the counts of %d bytes are not right", many)
		}
		mustCount(t, "their total", Total(c), many)
	}
}

// P5.1: more than fits in sixteen bits is counted too.
func TestOfManyBytesThatAreTheSame(t *testing.T) {
	const many = 1<<24 + 3
	mustBe(t, "Of many", Of(bytes.Repeat([]byte{9}, many)), with(9, many))
}

// P5.1: Right tells right counts from all others.
func TestRight(t *testing.T) {
	for what, c := range rightOnes() {
		if !Right(c) {
			t.Errorf("Right of %s: false", what)
		}
	}
	for what, c := range wrongOnes() {
		if Right(c) {
			t.Errorf("Right of %s: true", what)
		}
	}
}

// P5.1: MaxCount is 2^30, and counts are held to that number.
func TestMaxCount(t *testing.T) {
	mustCount(t, "MaxCount", MaxCount, 1073741824)
	if !Right(with(4, 1073741824)) || Right(with(4, 1073741825)) {
		t.Error("counts are held to another number than 2^30")
	}
}

// P5.1: how many numbers there are decides, whatever they are.
func TestRightHowMany(t *testing.T) {
	for many := range 600 {
		for number := range 3 {
			if got := Right(all(many, number)); got != (many == 256) {
				t.Errorf("Right of %d times %d: %v", many, number, got)
			}
		}
	}
}

// P5.1: at each place a number from 0 to MaxCount may stand, and no other one.
func TestRightAtEachPlace(t *testing.T) {
	for i := range 256 {
		for _, n := range []int{0, 1, MaxCount - 1, MaxCount} {
			if !Right(with(i, n)) {
				t.Errorf("Right, %d at %d: false", n, i)
			}
		}
		for _, n := range []int{-1, -MaxCount, MaxCount + 1, 1 << 32, 1 << 62, math.MinInt, math.MaxInt} {
			if Right(with(i, n)) {
				t.Errorf("Right, %d at %d: true", n, i)
			}
		}
	}
}

// P5.1: wherever two numbers stand, they may be MaxCount together, and no more.
func TestRightTogether(t *testing.T) {
	for i := range 256 {
		for _, j := range []int{0, 1, 127, 254, 255} {
			if i == j {
				continue
			}
			if !Right(with(i, MaxCount-5, j, 5)) {
				t.Errorf("Right, MaxCount together at %d and %d: false", i, j)
			}
			if Right(with(i, MaxCount-5, j, 6)) {
				t.Errorf("Right, one more than MaxCount together at %d and %d: true", i, j)
			}
		}
	}
}

// P5.2: Many and Total of right counts.
func TestManyAndTotalOfRightOnes(t *testing.T) {
	for what, c := range rightOnes() {
		mustCount(t, "Total of "+what, Total(c), plainTotal(c))
		mustCount(t, "Many of "+what, Many(c), 256-len(slices.DeleteFunc(slices.Clone(c), func(n int) bool { return n != 0 })))
	}
}

// P5.2: Many and Total of known counts, written out.
func TestManyAndTotalWrittenOut(t *testing.T) {
	for _, x := range []struct {
		c           []int
		many, total int
	}{
		{all(256, 0), 0, 0},
		{all(256, 1), 256, 256},
		{with(0, 1, 1, 2), 2, 3},
		{with(0, 7), 1, 7},
		{with(255, 7), 1, 7},
		{with(0, 1, 255, 1), 2, 2},
		{with(3, MaxCount), 1, MaxCount},
		{with(0, MaxCount-1, 255, 1), 2, MaxCount},
		{all(256, MaxCount/256), 256, MaxCount},
	} {
		mustCount(t, fmt.Sprint("Many of ", x.c), Many(x.c), x.many)
		mustCount(t, fmt.Sprint("Total of ", x.c), Total(x.c), x.total)
	}
}

// P5.2: of others Many and Total are 0.
func TestManyAndTotalOfWrongOnes(t *testing.T) {
	for what, c := range wrongOnes() {
		mustCount(t, "Many of "+what, Many(c), 0)
		mustCount(t, "Total of "+what, Total(c), 0)
	}
}

// P5.2: right counts are added one by one; the list and true are told just if the sums are right.
func TestAddRightOnes(t *testing.T) {
	for one, a := range rightOnes() {
		for two, b := range rightOnes() {
			what := one + " and " + two
			if plainTotal(a)+plainTotal(b) > MaxCount {
				mustNotAdd(t, what, a, b)
				continue
			}
			want := make([]int, 256)
			for i := range want {
				want[i] = a[i] + b[i]
			}
			mustAdd(t, what, a, b, want)
		}
	}
}

// P5.2: Add of known counts, written out.
func TestAddWrittenOut(t *testing.T) {
	mustAdd(t, "known ones", with(0, 1, 1, 2, 255, 4), with(1, 5, 2, 6, 255, 7), with(0, 1, 1, 7, 2, 6, 255, 11))
	mustAdd(t, "zeros", with(), with(), with())
}

// P5.2: sums that are MaxCount together are told, and one more is refused, at one place or at two, at the first and the last one.
func TestAddUpToMaxCount(t *testing.T) {
	for _, at := range [][2]int{{0, 0}, {255, 255}, {0, 255}, {255, 0}, {77, 78}} {
		i, j := at[0], at[1]
		for _, part := range []int{0, 1, MaxCount / 2, MaxCount - 1, MaxCount} {
			a := with(i, part)
			want := with(i, part)
			want[j] += MaxCount - part
			mustAdd(t, fmt.Sprint("MaxCount together ", at, part), a, with(j, MaxCount-part), want)
			if part > 0 {
				mustNotAdd(t, fmt.Sprint("one more ", at, part), a, with(j, MaxCount-part+1))
			}
		}
	}
	full := all(256, MaxCount/256)
	mustAdd(t, "full and none", full, with(), full)
	mustAdd(t, "halves of full", all(256, MaxCount/512), all(256, MaxCount/512), full)
	for i := range 256 {
		mustNotAdd(t, fmt.Sprint("full, and one more at ", i), full, with(i, 1))
		mustNotAdd(t, fmt.Sprint("one more, and full, at ", i), with(i, 1), full)
	}
}

// P5.2: what is not right is never added, on neither side, even where the sums would be right.
func TestAddWrongOnes(t *testing.T) {
	for one, a := range wrongOnes() {
		for two, b := range rightOnes() {
			mustNotAdd(t, one+" and "+two, a, b)
			mustNotAdd(t, two+" and "+one, b, a)
		}
		for two, b := range wrongOnes() {
			mustNotAdd(t, one+" and "+two, a, b)
		}
	}
	mustNotAdd(t, "below 0, and enough", with(5, -1), with(5, 1))
	mustNotAdd(t, "enough, and below 0", with(5, 1), with(5, -1))
	mustNotAdd(t, "above, and less", with(5, MaxCount+1), with(5, -1))
}

// P5.3: the counts of bytes behind bytes are both's, added, in both orders.
func TestCountsOfBytesBehindBytes(t *testing.T) {
	texts := [][]byte{nil, {0}, {255}, []byte("puncheon"), make([]byte, 300), manyBytes(3, 1000), manyBytes(4, 257)}
	for _, one := range texts {
		for _, two := range texts {
			what := fmt.Sprintf("%d bytes and %d", len(one), len(two))
			mustAdd(t, what, Of(one), Of(two), Of(append(bytes.Clone(one), two...)))
			mustAdd(t, what+", the other way round", Of(two), Of(one), Of(append(bytes.Clone(one), two...)))
		}
	}
}

// P5.3: wherever bytes are cut, the parts' counts are the whole's.
func TestCountsOfBytesCutAnywhere(t *testing.T) {
	b := manyBytes(5, 300)
	for i := range len(b) + 1 {
		mustAdd(t, fmt.Sprint("bytes cut at ", i), Of(b[:i]), Of(b[i:]), Of(b))
	}
}

// R5: neither bytes nor counts that are handed in are changed, nor what lies behind them.
func TestNothingHandedInIsChanged(t *testing.T) {
	b := manyBytes(6, 200)
	kept := bytes.Clone(b)
	Of(b[:100])
	if !bytes.Equal(b, kept) {
		t.Fatal("Of changed the bytes")
	}
	for what, c := range rightOnes() {
		mustKeep(t, what, c)
	}
	for what, c := range wrongOnes() {
		mustKeep(t, what, c)
	}
}

// mustKeep asks all that can be asked of counts, that have room behind them, and of themselves on both sides.
func mustKeep(t *testing.T, what string, c []int) {
	t.Helper()
	room := append(slices.Clone(c), 7, 7, 7)
	handed, other := room[:len(c)], with(3, 4)
	Right(handed)
	Many(handed)
	Total(handed)
	Add(handed, other)
	Add(other, handed)
	Add(handed, handed)
	mustBe(t, what+", behind all calls", room, append(slices.Clone(c), 7, 7, 7))
	mustBe(t, "the other counts", other, with(3, 4))
}

// R5: what was told hangs neither on what was handed in, nor on what is told later.
func TestAnswersAreTheirOwn(t *testing.T) {
	b := []byte{1, 1, 0}
	c := Of(b)
	b[0] = 9
	mustBe(t, "Of, the bytes changed", c, with(0, 1, 1, 2))
	again := Of([]byte{1, 1, 0})
	again[7] = 5
	mustBe(t, "Of, another answer changed", c, with(0, 1, 1, 2))
	c[0] = 100
	mustBe(t, "Of, once more", Of([]byte{1, 1, 0}), with(0, 1, 1, 2))

	one, two := with(1, 2), with(1, 3)
	s, _ := Add(one, two)
	one[1], two[2] = 50, 60
	mustBe(t, "Add, the counts changed", s, with(1, 5))
	s[1] = 9
	mustBe(t, "the first counts, the sums changed", one, with(1, 50))
	mustBe(t, "the other counts, the sums changed", two, with(1, 3, 2, 60))
	zero, _ := Add(with(), one)
	zero[1] = 1
	mustBe(t, "counts to which none were added", one, with(1, 50))
	zero, _ = Add(one, with())
	zero[1] = 1
	mustBe(t, "counts that were added to none", one, with(1, 50))
}

// R5: who appends to an answer reaches no other one.
func TestAnswersHaveNoRoomInCommon(t *testing.T) {
	c := Of([]byte{1})
	left, right := append(c, 1), append(c, 2)
	mustBe(t, "appended", []int{left[256], right[256]}, []int{1, 2})
	s, _ := Add(c, c)
	left, right = append(s, 1), append(s, 2)
	mustBe(t, "appended to sums", []int{left[256], right[256]}, []int{1, 2})
}

// R6: the same arguments have the same answer, whatever was asked ahead.
func TestSameAnswerEachTime(t *testing.T) {
	b := manyBytes(8, 500)
	first, c := Of(b), manyCounts(9)
	many, total := Many(c), Total(c)
	sums, _ := Add(first, c)
	for range 3 {
		Of(manyBytes(10, 300))
		Add(with(0, MaxCount), with(0, 1))
		mustBe(t, "Of", Of(b), first)
		mustAdd(t, "the same", first, c, sums)
		mustCount(t, "Many", Many(c), many)
		mustCount(t, "Total", Total(c), total)
	}
}
