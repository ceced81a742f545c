package norm

import (
	"fmt"
	"math"
	"slices"
	"testing"

	"puncheon/api"
	"puncheon/hist"
)

// first are 256 counts, of which the first ones are written out, and all others are 0.
func first(l ...int) []int { return append(slices.Clone(l), make([]int, 256-len(l))...) }

// with are 256 zeros, but for numbers at places: a place, its number, the next place, and so on.
func with(placed ...int) []int {
	c := make([]int, 256)
	for i := 0; i < len(placed); i += 2 {
		c[placed[i]] = placed[i+1]
	}
	return c
}

// all are some numbers that are the same.
func all(many, number int) []int { return slices.Repeat([]int{number}, many) }

// manyCounts are right counts of some symbols from the last one down, the same ones each time for one seed: the greater steep is, the more unlike they are.
func manyCounts(seed uint64, many, steep int) []int {
	c := make([]int, 256)
	x := seed*2862933555777941757 + 3037000493
	for i := range many {
		x = x*6364136223846793005 + 1442695040888963407
		c[255-i] = 1 + int(x>>40%(1<<20)>>(x>>20%uint64(steep)))
	}
	return c
}

// sum is all together.
func sum(l []int) int {
	s := 0
	for _, x := range l {
		s += x
	}
	return s
}

// plain is Counts of what is no error, in the chapter's words, step by step; and whether one was raised to 1.
func plain(c []int, r int) ([]int, bool) {
	n, size := sum(c), 1<<r
	q, left := make([]int, 256), make([]int, 256)
	raised, more := make([]bool, 256), make([]bool, 256)
	for v, x := range c {
		q[v] = x * size / n
		left[v] = x*size - q[v]*n
		if q[v] == 0 && x != 0 {
			q[v], raised[v] = 1, true
		}
	}
	for sum(q) < size {
		one := -1
		for v := range q {
			if !raised[v] && !more[v] && (one < 0 || left[v] > left[one]) {
				one = v
			}
		}
		q[one]++
		more[one] = true
	}
	for sum(q) > size {
		one := 0
		for v := range q {
			if q[v] > q[one] || q[v] == q[one] && c[v] <= c[one] {
				one = v
			}
		}
		q[one]--
	}
	return q, slices.Contains(raised, true)
}

// someCounts hands over right counts of many kinds, with each log at which they are no error.
func someCounts(hand func(what string, c []int, r int)) {
	kinds := map[string][]int{
		"all alike":             all(256, 1),
		"all alike, and great":  all(256, hist.MaxCount/256),
		"rising":                rising(256),
		"rising, few":           rising(7),
		"doubling":              doubling(),
		"one great, all others": append(all(255, 1), hist.MaxCount-255),
		"two great, all others": append(all(254, 1), hist.MaxCount/2-127, hist.MaxCount/2-127),
		"full, of three":        first(hist.MaxCount/3, hist.MaxCount/3, hist.MaxCount/3+1),
		"full, but for one":     first(1, hist.MaxCount-1),
	}
	for _, many := range []int{1, 2, 3, 5, 8, 17, 32, 100, 200, 255, 256} {
		for _, steep := range []int{1, 4, 20} {
			for seed := range uint64(4) {
				kinds[fmt.Sprintf("%d of %d, steep %d", seed, many, steep)] = manyCounts(seed, many, steep)
			}
		}
	}
	for what, c := range kinds {
		for r := 1; r <= MaxLog; r++ {
			if hist.Many(c) <= 1<<r {
				hand(fmt.Sprintf("%s, log %d", what, r), c, r)
			}
		}
	}
}

// rising are counts from 1 on.
func rising(many int) []int {
	c := make([]int, 256)
	for i := range many {
		c[i] = i + 1
	}
	return c
}

// doubling are counts of powers of two, full together.
func doubling() []int {
	c := with(30, 1)
	for i := range 30 {
		c[i] = 1 << i
	}
	return c
}

// mustCount holds Counts of what is no error to what it must be.
func mustCount(t *testing.T, what string, c []int, r int, want []int) {
	t.Helper()
	got, e := Counts(c, r)
	if e != api.OK || !slices.Equal(got, want) {
		t.Fatalf("Counts of %s, log %d: %v %v, want %v", what, r, got, e, want)
	}
}

// mustTell is mustCount of a few counts, written out.
func mustTell(t *testing.T, c []int, r int, want ...int) {
	t.Helper()
	mustCount(t, fmt.Sprint(c), first(c...), r, first(want...))
}

// mustRefuse holds Counts to ErrArg, and no counts (R3).
func mustRefuse(t *testing.T, what string, c []int, r int) {
	t.Helper()
	if got, e := Counts(c, r); e != api.ErrArg || len(got) != 0 {
		t.Fatalf("Counts of %s, log %d: %v %v, want none and ErrArg", what, r, got, e)
	}
}

// wrongCounts are lists of numbers that are no right counts, by what they are.
func wrongCounts() map[string][]int {
	return map[string][]int{
		"nil":                         nil,
		"an empty list":               {},
		"one number":                  {5},
		"255 numbers":                 all(255, 1),
		"257 numbers":                 all(257, 1),
		"257, the last one 0":         append(first(1), 0),
		"512 numbers":                 all(512, 1),
		"-1 first":                    first(-1, 5),
		"-1 last":                     with(0, 5, 255, -1),
		"-1 alone":                    first(-1),
		"-2 beside what is as much":   first(2, -2),
		"above MaxCount":              first(hist.MaxCount + 1),
		"above MaxCount together":     first(hist.MaxCount, 1),
		"above MaxCount at the ends":  with(0, hist.MaxCount-1, 255, 2),
		"full, and one more, and -1":  first(hist.MaxCount, 1, -1),
		"full at all places":          all(256, hist.MaxCount),
		"the least":                   first(5, math.MinInt),
		"the greatest":                first(5, math.MaxInt),
		"what wraps round to 0":       first(1<<62, 1<<62, 1<<62, 1<<62),
		"what wraps round to 8":       first(math.MaxInt, math.MaxInt, 10),
		"the greatest, and the least": first(math.MaxInt, math.MinInt, 9),
	}
}

// noLogs are numbers that are no logs.
func noLogs() []int {
	return []int{0, -1, -2, -12, -63, -64, math.MinInt, math.MinInt + 1, MaxLog + 1, 14, 30, 31, 32, 62, 63, 64, 65, 1 << 32, 1<<32 + 5, math.MaxInt}
}

// P8.1: the chapter's examples.
func TestExamples(t *testing.T) {
	mustTell(t, []int{5, 3, 2}, 3, 4, 2, 2)
	mustTell(t, []int{1000, 1, 1, 1}, 2, 1, 1, 1, 1)
}

// P8.1: MaxLog is 12.
func TestMaxLog(t *testing.T) {
	if MaxLog != 12 {
		t.Fatal("MaxLog: ", MaxLog)
	}
	mustTell(t, []int{1, 1}, 12, 2048, 2048)
	mustRefuse(t, "1, 1", first(1, 1), 13)
}

// P8.1: what needs no rounding is told as it is.
func TestWhatNeedsNoRounding(t *testing.T) {
	mustTell(t, []int{1, 1}, 1, 1, 1)
	mustTell(t, []int{0, 3, 0, 1}, 3, 0, 6, 0, 2)
	mustTell(t, []int{2, 4, 10}, 3, 1, 2, 5)
	mustTell(t, []int{2, 4, 10}, 4, 2, 4, 10)
	mustTell(t, []int{2, 4, 10}, 12, 512, 1024, 2560)
	mustTell(t, []int{hist.MaxCount / 4 * 3, hist.MaxCount / 4}, 12, 3072, 1024)
}

// P8.1: where the sum is below, those of which most was left have one more, whatever their counts are.
func TestMostLeftHasOneMore(t *testing.T) {
	mustTell(t, []int{2, 3, 5}, 3, 2, 2, 4)
	mustTell(t, []int{3, 2, 5}, 3, 2, 2, 4)
	// 100 * 16 / 123 is 13, and 1 is left; 23 * 16 / 123 is 2, and 122 are left.
	mustTell(t, []int{100, 23}, 4, 13, 3)
	mustTell(t, []int{23, 100}, 4, 3, 13)
	// 13 * 8 / 39 is 2, and 26 are left; 14 * 8 / 39 is 2, and 34 are left; 12 * 8 / 39 is 2, and 18 are left.
	mustTell(t, []int{13, 14, 12}, 3, 3, 3, 2)
	mustTell(t, []int{12, 13, 14}, 3, 2, 3, 3)
}

// P8.1: of like ones that have left most the one with the least value has one more, whatever the counts are; and nobody has two more.
func TestLikeOnesThatAreLeft(t *testing.T) {
	mustTell(t, []int{1, 1, 1}, 2, 2, 1, 1)
	mustTell(t, []int{1, 1, 1}, 5, 11, 11, 10)
	mustTell(t, []int{0, 7, 0, 7, 7}, 5, 0, 11, 0, 11, 10)
	mustTell(t, []int{1, 1, 1, 1, 1}, 3, 2, 2, 2, 1, 1)
	mustTell(t, []int{1, 1, 1, 1, 1}, 4, 4, 3, 3, 3, 3)
	// 1 * 8 / 6 is 1, and 2 are left; 4 * 8 / 6 is 5, and 2 are left too.
	mustTell(t, []int{1, 1, 4}, 3, 2, 1, 5)
	mustTell(t, []int{1, 4, 1}, 3, 2, 5, 1)
	mustTell(t, []int{4, 1, 1}, 3, 6, 1, 1)
	mustCount(t, "three at the end", with(250, 9, 254, 9, 255, 9), 6, with(250, 22, 254, 21, 255, 21))
}

// P8.1: who was raised to 1 has no more, whatever was left of it, though the sum is below.
func TestWhoWasRaisedHasNoMore(t *testing.T) {
	// 9 * 8 / 80 is 0, and 72 are left; 24 * 8 / 80 is 2, and 32 are left; 23 * 8 / 80 is 2, and 24 are left.
	mustTell(t, []int{9, 24, 24, 23}, 3, 1, 3, 2, 2)
	mustTell(t, []int{23, 24, 24, 9}, 3, 2, 3, 2, 1)
	mustTell(t, []int{24, 23, 9, 24}, 3, 3, 2, 1, 2)
	mustTell(t, []int{33, 33, 33, 1}, 3, 3, 2, 2, 1)
}

// P8.1: some are raised to 1, and the sum is just what it must be.
func TestRaisedAndNothingElse(t *testing.T) {
	// 99 * 8 / 100 is 7, and 1 * 8 / 100 is 0.
	mustTell(t, []int{99, 1}, 3, 7, 1)
	mustTell(t, []int{1, 99}, 3, 1, 7)
	mustTell(t, []int{1, hist.MaxCount - 1}, 12, 1, 4095)
}

// P8.1: where the sum is above, the greatest has one less, again and again.
func TestGreatestHasOneLess(t *testing.T) {
	mustTell(t, []int{60, 30, 1, 1, 1}, 3, 3, 2, 1, 1, 1)
	mustTell(t, []int{30, 60, 1, 1, 1}, 3, 2, 3, 1, 1, 1)
	mustTell(t, []int{60, 30, 1, 1, 1, 1}, 3, 2, 2, 1, 1, 1, 1)
	mustTell(t, []int{1, 1, 1, 1000}, 2, 1, 1, 1, 1)
	mustTell(t, []int{1, 1, 1, 1000}, 3, 1, 1, 1, 5)
}

// P8.1: of like ones that are greatest the one whose count is least has one less, also where they are alike only then.
func TestLikeOnesThatAreGreatest(t *testing.T) {
	mustTell(t, []int{50, 49, 1, 1, 1}, 3, 3, 2, 1, 1, 1)
	mustTell(t, []int{49, 50, 1, 1, 1}, 3, 2, 3, 1, 1, 1)
	mustTell(t, []int{60, 30, 1, 1, 1, 1, 1}, 3, 2, 1, 1, 1, 1, 1, 1)
	mustTell(t, []int{30, 60, 1, 1, 1, 1, 1}, 3, 1, 2, 1, 1, 1, 1, 1)
	// Each of 50, 49 and 48 has 5 first, of 16 in all, and two are over.
	mustTell(t, []int{48, 50, 49, 1, 1, 1}, 4, 4, 5, 4, 1, 1, 1)
	mustTell(t, []int{49, 48, 50, 1, 1, 1}, 4, 4, 4, 5, 1, 1, 1)
}

// P8.1: of like counts of these the one with the greatest value has one less.
func TestLikeCountsOfTheGreatest(t *testing.T) {
	mustTell(t, []int{50, 50, 1, 1, 1}, 3, 3, 2, 1, 1, 1)
	mustTell(t, []int{1, 50, 1, 50, 1}, 3, 1, 3, 1, 2, 1)
	mustTell(t, []int{50, 49, 49, 1, 1}, 4, 5, 5, 4, 1, 1)
	mustTell(t, []int{49, 49, 50, 1, 1}, 4, 5, 4, 5, 1, 1)
	mustTell(t, []int{50, 49, 49, 1, 1, 1}, 4, 5, 4, 4, 1, 1, 1)
	mustTell(t, []int{50, 50, 50, 1, 1, 1, 1, 1}, 4, 4, 4, 3, 1, 1, 1, 1, 1)
	mustTell(t, []int{50, 50, 1, 1, 1, 1, 1, 1}, 3, 1, 1, 1, 1, 1, 1, 1, 1)
	mustCount(t, "three, the last ones", with(0, 1, 1, 1, 253, 50, 254, 50, 255, 50), 4, with(0, 1, 1, 1, 253, 5, 254, 5, 255, 4))
}

// P8.1: one value alone has all, whatever it and its count are.
func TestOneValueAlone(t *testing.T) {
	for r := 1; r <= MaxLog; r++ {
		for v := range 256 {
			for _, x := range []int{1, 2, 7, 4096, hist.MaxCount - 1, hist.MaxCount} {
				mustCount(t, fmt.Sprintf("%d alone, %d times", v, x), with(v, x), r, with(v, 1<<r))
			}
		}
	}
}

// P8.1: 256 values, alike and not.
func TestAllValues(t *testing.T) {
	for r := 8; r <= MaxLog; r++ {
		for _, x := range []int{1, 3, hist.MaxCount / 256} {
			mustCount(t, fmt.Sprintf("all, %d times", x), all(256, x), r, all(256, 1<<(r-8)))
		}
		great := append(all(255, 1), hist.MaxCount-255)
		mustCount(t, "one great", great, r, append(all(255, 1), 1<<r-255))
	}
	mustCount(t, "all, rising", rising(256), 8, all(256, 1))
	for r := 1; r < 8; r++ {
		mustRefuse(t, "all", all(256, 1), r)
	}
}

// P8.1: counts as great as may be.
func TestAsGreatAsMayBe(t *testing.T) {
	for r := 1; r <= MaxLog; r++ {
		half := hist.MaxCount / 2
		mustCount(t, "two halves", with(7, half, 200, half), r, with(7, 1<<(r-1), 200, 1<<(r-1)))
		mustCount(t, "all but one", with(7, hist.MaxCount-1, 200, 1), r, with(7, 1<<r-1, 200, 1))
		mustCount(t, "one, and all others", with(7, 1, 200, hist.MaxCount-1), r, with(7, 1, 200, 1<<r-1))
	}
	third := hist.MaxCount / 3
	mustTell(t, []int{third, third, third + 1}, 12, 1365, 1365, 1366)
	mustTell(t, []int{third, third, third}, 12, 1366, 1365, 1365)
}

// P8.1: as many above 0 as 2^r have one each; one more is refused.
func TestAsManyAsThereIsRoom(t *testing.T) {
	for r := 1; r <= 8; r++ {
		many := 1 << r
		mustCount(t, fmt.Sprint(many, " values"), manyCounts(3, many, 20), r, first(append(all(256-many, 0), all(many, 1)...)...))
		if r < 8 {
			mustRefuse(t, fmt.Sprint(many+1, " values"), manyCounts(3, many+1, 20), r)
			mustRefuse(t, fmt.Sprint(many+1, " values alike"), first(all(many+1, 1)...), r)
		}
	}
}

// P8.1: counts that aren't right are refused, with each log, and so are such of which none is above 0.
func TestWrongCounts(t *testing.T) {
	for what, c := range wrongCounts() {
		for r := 1; r <= MaxLog; r++ {
			mustRefuse(t, what, c, r)
		}
	}
	for r := 1; r <= MaxLog; r++ {
		mustRefuse(t, "256 zeros", all(256, 0), r)
	}
}

// P8.1, R1: logs below 1 and above MaxLog are refused, whatever the counts are.
func TestWrongLogs(t *testing.T) {
	for _, r := range noLogs() {
		mustRefuse(t, "1", first(1), r)
		mustRefuse(t, "5, 3, 2", first(5, 3, 2), r)
		mustRefuse(t, "all", all(256, 1), r)
		mustRefuse(t, "256 zeros", all(256, 0), r)
		mustRefuse(t, "full", first(hist.MaxCount), r)
		for what, c := range wrongCounts() {
			mustRefuse(t, what, c, r)
		}
	}
}

// P8.1: counts of many kinds, at each log, held to the chapter's words.
func TestByTheChaptersWords(t *testing.T) {
	below, above, raisedBelow := 0, 0, 0
	someCounts(func(what string, c []int, r int) {
		want, raised := plain(c, r)
		mustCount(t, what, c, r, want)
		switch over := sum(divided(c, r)) - 1<<r; {
		case over > 0:
			above++
		case over < 0 && raised:
			raisedBelow++
		case over < 0:
			below++
		}
	})
	if below < 100 || above < 100 || raisedBelow < 10 {
		t.Fatalf("too few of a kind: %d below, %d above, %d below though some are raised", below, above, raisedBelow)
	}
}

// divided are the numbers that the chapter has first: rounded down, but 1 at least of who is there.
func divided(c []int, r int) []int {
	q := make([]int, 256)
	for v, x := range c {
		q[v] = max(x<<r/sum(c), min(x, 1))
	}
	return q
}

// P8.1: all small counts of four values, at small logs, held to the chapter's words.
func TestAllSmallCounts(t *testing.T) {
	for i := range 12 * 12 * 12 * 12 {
		l := []int{i % 12, i / 12 % 12, i / 144 % 12, i / 1728}
		for r := 2; r <= 5 && i > 0; r++ {
			c := first(l...)
			want, _ := plain(c, r)
			mustCount(t, fmt.Sprint(l), c, r, want)
		}
	}
}

// P8.1, P8.2: what Counts tells is right, of its log and of no other one.
func TestCountsAreRight(t *testing.T) {
	someCounts(func(what string, c []int, r int) {
		q, e := Counts(c, r)
		if e != api.OK {
			t.Fatalf("%s: %v", what, e)
		}
		mustBeOf(t, what, q, r)
	})
}

// mustBeOf holds Right and Log to a list that is normalized counts of a log.
func mustBeOf(t *testing.T, what string, q []int, r int) {
	t.Helper()
	if log, ok := Log(q); log != r || !ok {
		t.Fatalf("Log of %s: %d %v, want %d and true", what, log, ok, r)
	}
	for other := -2; other <= MaxLog+3; other++ {
		if Right(q, other) != (other == r) {
			t.Fatalf("Right of %s, log %d: %v", what, other, other != r)
		}
	}
	mustNotBeOfNoLog(t, what, q)
}

// mustBeOfNone holds Right and Log to a list that is no normalized counts at all (R3: 0 with false).
func mustBeOfNone(t *testing.T, what string, q []int) {
	t.Helper()
	if log, ok := Log(q); log != 0 || ok {
		t.Fatalf("Log of %s: %d %v, want 0 and false", what, log, ok)
	}
	for r := 1; r <= MaxLog; r++ {
		if Right(q, r) {
			t.Fatalf("Right of %s, log %d: true", what, r)
		}
	}
	mustNotBeOfNoLog(t, what, q)
}

// mustNotBeOfNoLog holds Right to false where the log is none.
func mustNotBeOfNoLog(t *testing.T, what string, q []int) {
	t.Helper()
	for _, r := range noLogs() {
		if Right(q, r) {
			t.Fatalf("Right of %s, log %d: true", what, r)
		}
	}
}

// P8.2: normalized counts of each log, however they are shared.
func TestNormalizedCounts(t *testing.T) {
	for r := 1; r <= MaxLog; r++ {
		size := 1 << r
		mustBeOf(t, "all at first", with(0, size), r)
		mustBeOf(t, "all in the middle", with(100, size), r)
		mustBeOf(t, "all at last", with(255, size), r)
		mustBeOf(t, "both ends", with(0, 1, 255, size-1), r)
		mustBeOf(t, "both ends, the other way round", with(0, size-1, 255, 1), r)
		mustBeOf(t, "halves", with(9, size/2, 10, size/2), r)
		if r >= 8 {
			mustBeOf(t, "all alike", all(256, size/256), r)
		} else {
			mustBeOf(t, "ones", first(all(size, 1)...), r)
		}
	}
	mustBeOf(t, "the example", first(4, 2, 2), 3)
}

// P8.2: another number of them than 256, whatever their sum is.
func TestNotAsManyAsThereAreBytes(t *testing.T) {
	mustBeOfNone(t, "nil", nil)
	mustBeOfNone(t, "an empty list", []int{})
	mustBeOfNone(t, "257 zeros", all(257, 0))
	mustBeOfNone(t, "512 ones", all(512, 1))
	for r := 1; r <= MaxLog; r++ {
		mustBeOfNone(t, "one number", []int{1 << r})
		mustBeOfNone(t, "255 numbers", with(0, 1<<r)[:255])
		mustBeOfNone(t, "257 numbers", append(with(0, 1<<r), 0))
		mustBeOfNone(t, "257 numbers, all at last", append(with(), 1<<r))
	}
}

// P8.2: one below 0, though the sum is a power of two.
func TestOneBelowZero(t *testing.T) {
	for r := 1; r <= MaxLog; r++ {
		mustBeOfNone(t, "-1 at last", with(0, 1<<r+1, 255, -1))
		mustBeOfNone(t, "-1 at first", with(0, -1, 255, 1<<r+1))
		mustBeOfNone(t, "-1 in the middle", with(3, 1, 100, -1, 255, 1<<r))
		mustBeOfNone(t, "as much below 0", with(0, 1<<r, 1, -(1<<r), 255, 1<<r))
		mustBeOfNone(t, "below 0 alone", with(0, -(1<<r)))
		mustBeOfNone(t, "the least twice", with(0, math.MinInt, 1, math.MinInt, 2, 1<<r))
		mustBeOfNone(t, "the least and the greatest", with(0, math.MaxInt, 1, math.MinInt, 2, 1<<r+1))
	}
}

// P8.2: a sum that is no power of two, or is 1, or is none.
func TestSumThatIsNoPowerOfTwo(t *testing.T) {
	mustBeOfNone(t, "256 zeros", all(256, 0))
	mustBeOfNone(t, "1", first(1))
	mustBeOfNone(t, "1 at last", with(255, 1))
	mustBeOfNone(t, "3", first(1, 1, 1))
	for size := range 1<<MaxLog + 200 {
		if size&(size-1) != 0 {
			mustBeOfNone(t, fmt.Sprint("the sum ", size), with(5, size-size/3, 6, size/3))
		}
	}
	mustBeOfNone(t, "all alike, 3 times", all(256, 3))
}

// P8.2: a sum that is too great, a power of two or one that would wrap round to one.
func TestSumThatIsTooGreat(t *testing.T) {
	for r := MaxLog + 1; r < 63; r++ {
		mustBeOfNone(t, fmt.Sprintf("2^%d", r), with(7, 1<<r))
		mustBeOfNone(t, fmt.Sprintf("2^%d, by halves", r), with(7, 1<<(r-1), 255, 1<<(r-1)))
	}
	mustBeOfNone(t, "all alike, 32 times", all(256, 32))
	mustBeOfNone(t, "all 2^56", all(256, 1<<56))
	for r := 1; r <= MaxLog; r++ {
		mustBeOfNone(t, "four of 2^62, and more", with(0, 1<<62, 1, 1<<62, 2, 1<<62, 3, 1<<62, 4, 1<<r))
		mustBeOfNone(t, "the greatest twice, and more", with(0, math.MaxInt, 1, math.MaxInt, 255, 1<<r+2))
		mustBeOfNone(t, "2^32 beside it", with(0, 1<<32, 1, 1<<r))
	}
}

// P8.3: just those are above 0 that are so in c; who has the greater count has no lesser one; where none is raised to 1, none differs by one or more from its part.
func TestWhatFollows(t *testing.T) {
	someCounts(func(what string, c []int, r int) {
		q, e := Counts(c, r)
		if e != api.OK {
			t.Fatalf("%s: %v", what, e)
		}
		_, raised := plain(c, r)
		for v := range c {
			if (q[v] > 0) != (c[v] > 0) || q[v] < 0 {
				t.Fatalf("%s: %d has %d, of the count %d", what, v, q[v], c[v])
			}
			if apart := q[v]*sum(c) - c[v]<<r; !raised && (apart >= sum(c) || -apart >= sum(c)) {
				t.Fatalf("%s: %d has %d, that is not near its part", what, v, q[v])
			}
		}
		mustKeepOrder(t, what, c, q)
	})
}

// mustKeepOrder holds q to the order of c: who has the greater count has no lesser one.
func mustKeepOrder(t *testing.T, what string, c, q []int) {
	t.Helper()
	for v := range c {
		for other := range c {
			if c[v] > c[other] && q[v] < q[other] {
				t.Fatalf("%s: %d has %d of %d, %d has %d of %d", what, v, q[v], c[v], other, q[other], c[other])
			}
		}
	}
}

// P8.1, P8.2: what lies in memory behind the counts isn't looked at.
func TestCountsThatAreCutOut(t *testing.T) {
	long := append(append(all(3, 9), first(5, 3, 2)...), all(9, 1000)...)
	mustCount(t, "what is cut out", long[3:259], 3, first(4, 2, 2))
	q := append(append(all(3, 9), first(4, 2, 2)...), all(9, 1000)...)
	mustBeOf(t, "what is cut out", q[3:259], 3)
}

// R5: what is handed in stays as it is, and so does what lies behind it.
func TestNothingHandedInIsChanged(t *testing.T) {
	for _, c := range [][]int{first(5, 3, 2), first(1000, 1, 1, 1), manyCounts(1, 200, 4), all(256, 1), all(256, 0), first(-1, 5)} {
		long := append(slices.Clone(c), 1, 2, 3, 4)
		kept := slices.Clone(long)
		for r := -1; r <= MaxLog+1; r++ {
			Counts(long[:256], r)
			Right(long[:256], r)
			Log(long[:256])
		}
		if !slices.Equal(long, kept) {
			t.Fatalf("%v was changed to %v", kept, long)
		}
	}
}

// R5: what was told hangs neither on what was handed in, nor on what is told ahead or later.
func TestAnswersAreTheirOwn(t *testing.T) {
	for _, l := range [][2][]int{{first(5, 3, 2), first(4, 2, 2)}, {first(4, 2, 2), first(4, 2, 2)}, {first(60, 1, 1), first(6, 1, 1)}} {
		c := slices.Clone(l[0])
		one, _ := Counts(c, 3)
		two, _ := Counts(c, 3)
		clear(c)
		clear(two)
		three, _ := Counts(l[0], 3)
		clear(three)
		if !slices.Equal(one, l[1]) {
			t.Fatalf("an answer was changed: %v, want %v", one, l[1])
		}
		mustCount(t, "the same again", l[0], 3, l[1])
	}
}

// R5: who appends to an answer reaches no other one.
func TestAnswersHaveNoRoomInCommon(t *testing.T) {
	one, _ := Counts(first(5, 3, 2), 3)
	two, _ := Counts(first(3, 5, 2), 3)
	_ = append(one, all(300, 7)...)
	if !slices.Equal(one, first(4, 2, 2)) || !slices.Equal(two, first(2, 4, 2)) {
		t.Fatal("an answer was changed: ", one, two)
	}
}

// R6: the same arguments have the same answer, whatever was asked ahead.
func TestSameAnswerEachTime(t *testing.T) {
	for range 3 {
		mustTell(t, []int{5, 3, 2}, 3, 4, 2, 2)
		mustRefuse(t, "256 zeros", all(256, 0), 3)
		mustTell(t, []int{50, 50, 1, 1, 1}, 3, 3, 2, 1, 1, 1)
		mustBeOf(t, "the example", first(4, 2, 2), 3)
		mustBeOfNone(t, "3", first(3))
	}
}

// A queue tells shares in the order that it was made with, whatever order they came in.
func TestQueue(t *testing.T) {
	w := &queue{ahead: moreLeft}
	for _, left := range []int{5, 1, 9, 5, 0, 7, 9} {
		w.add(share{symbol: w.Len(), left: left})
	}
	for _, symbol := range []int{2, 6, 5, 0, 3, 1, 4} {
		if s := w.next(); s.symbol != symbol {
			t.Fatalf("the share of %d came, want that of %d", s.symbol, symbol)
		}
	}
	if w.Len() != 0 {
		t.Fatal("still waiting: ", w.Len())
	}
}
