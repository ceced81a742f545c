package spread

import (
	"fmt"
	"math"
	"slices"
	"testing"

	"puncheon/api"
	"puncheon/frac"
	"puncheon/norm"
)

// first are 256 counts, of which the first ones are written out, and all others are 0.
func first(l ...int) []int { return append(slices.Clone(l), make([]int, 256-len(l))...) }

// with are 256 zeros, but for numbers at symbols: a symbol, its number, the next symbol, and so on.
func with(placed ...int) []int {
	q := make([]int, 256)
	for i := 0; i < len(placed); i += 2 {
		q[placed[i]] = placed[i+1]
	}
	return q
}

// all are some numbers that are the same.
func all(many, number int) []int { return slices.Repeat([]int{number}, many) }

// sum is all together.
func sum(l []int) int {
	s := 0
	for _, x := range l {
		s += x
	}
	return s
}

// plain are all keys of normalized counts in their order, in the chapter's words: all are made, and then put in order.
func plain(q []int) []frac.Key {
	var l []frac.Key
	for s := range q {
		for i := q[s]; i <= 2*q[s]-1; i++ {
			l = append(l, frac.Key{I: i, Q: q[s], S: s})
		}
	}
	slices.SortFunc(l, func(a, b frac.Key) int {
		if c := a.I*b.Q - b.I*a.Q; c != 0 {
			return c
		}
		return a.S - b.S
	})
	return l
}

// shared are normalized counts of so many symbols of the 256, one each and the rest thrown at them, the same each time for one seed: the steeper, the more goes to few.
func shared(seed uint64, r, many, steep int) []int {
	q := make([]int, 256)
	x := seed*2862933555777941757 + 3037000493
	draw := func(below int) int {
		x = x*6364136223846793005 + 1442695040888963407
		return int(x>>33) % below
	}
	var there []int
	for len(there) < many {
		if s := draw(256); q[s] == 0 {
			q[s] = 1
			there = append(there, s)
		}
	}
	for range 1<<r - many {
		to := draw(many)
		for range steep {
			to = min(to, draw(many))
		}
		q[there[to]]++
	}
	return q
}

// alike are normalized counts of so many symbols, a power of two, from one on, that all have the same.
func alike(r, many, from int) []int {
	q := make([]int, 256)
	for s := range many {
		q[from+s] = 1 << r / many
	}
	return q
}

// halving are normalized counts of which each is half of the one ahead of it, and the last two are 1.
func halving(r, from int) []int {
	q := make([]int, 256)
	for i := range r {
		q[from+i] = 1 << (r - 1 - i)
	}
	q[from+r] = 1
	return q
}

// normalized hands over normalized counts of many kinds, of each log.
func normalized(hand func(what string, q []int, r int)) {
	for r := 1; r <= norm.MaxLog; r++ {
		size := 1 << r
		tell := func(what string, q []int) { hand(fmt.Sprintf("%s, log %d", what, r), q, r) }
		for _, s := range []int{0, 1, 100, 254, 255} {
			tell(fmt.Sprint(s, " alone"), with(s, size))
		}
		tell("the first and the last, halves", with(0, size/2, 255, size/2))
		tell("the first once, and the last", with(0, 1, 255, size-1))
		tell("the first, and the last once", with(0, size-1, 255, 1))
		tell("a third, and the rest", with(7, size-size/3, 9, size/3))
		tell("halving", halving(r, 0))
		tell("halving, at last", halving(r, 255-r))
		for many := 2; many <= min(size, 256); many *= 2 {
			tell(fmt.Sprint(many, " alike"), alike(r, many, 0))
			tell(fmt.Sprint(many, " alike, at last"), alike(r, many, 256-many))
		}
		for _, many := range []int{2, 3, 5, 16, 100, 255, 256} {
			for steep := 0; many <= size && steep <= 8; steep += 4 {
				tell(fmt.Sprint(many, " shared, steep ", steep), shared(uint64(many), r, many, steep))
			}
		}
		if size > 256 {
			tell("all, one great", append(all(255, 1), size-255))
			tell("all, the first one great", append([]int{size - 255}, all(255, 1)...))
		}
	}
}

// wrongCounts are lists of numbers that are no normalized counts of any log, by what they are.
func wrongCounts() map[string][]int {
	l := map[string][]int{
		"nil":                        nil,
		"an empty list":              {},
		"one number":                 {4},
		"the example, three numbers": {5, 2, 1},
		"255 numbers":                with(0, 8)[:255],
		"257 numbers":                append(with(0, 8), 0),
		"257 numbers, all at last":   append(with(), 8),
		"512 numbers":                all(512, 1),
		"8192 numbers":               all(8192, 0),
		"256 zeros":                  all(256, 0),
		"the sum 1":                  first(1),
		"the sum 1, at last":         with(255, 1),
		"the sum 3":                  first(1, 1, 1),
		"the sum 768":                all(256, 3),
		"the sum 255":                append(all(255, 1), 0),
		"the sum 257":                append(all(255, 1), 2),
		"the sum 4095":               with(0, 4000, 255, 95),
		"the sum 4097":               with(0, 4000, 255, 97),
		"the sum 8192":               all(256, 32),
		"8192 alone":                 with(9, 8192),
		"2^30":                       with(9, 1<<30),
		"2^31":                       with(9, 1<<31),
		"2^32":                       with(9, 1<<32),
		"2^32 and 8":                 with(9, 1<<32, 10, 8),
		"2^62":                       with(9, 1<<62),
		"-1 first":                   first(-1, 9),
		"-1 last":                    with(0, 9, 255, -1),
		"-1 alone":                   first(-1),
		"-8 alone":                   first(-8),
		"8, -8 and 8":                first(8, -8, 8),
		"all below 0":                all(256, -1),
		"the greatest":               first(math.MaxInt),
		"the greatest, at last":      with(255, math.MaxInt),
		"the least":                  first(math.MinInt),
		"the least, at last":         with(255, math.MinInt),
		"the greatest and the least": first(math.MaxInt, math.MinInt, 9),
		"the least twice, and 8":     first(math.MinInt, math.MinInt, 8),
		"the greatest twice, and 10": first(math.MaxInt, math.MaxInt, 10),
		"four of 2^62, and 8":        first(1<<62, 1<<62, 1<<62, 1<<62, 8),
		"all 2^56":                   all(256, 1<<56),
		"all the greatest":           all(256, math.MaxInt),
		"all the least":              all(256, math.MinInt),
	}
	for r := 1; r <= norm.MaxLog; r++ {
		l[fmt.Sprint("one less than log ", r+1)] = with(3, 1<<r, 4, 1<<r-1)
		l[fmt.Sprint("one more than log ", r)] = with(3, 1<<r, 255, 1)
		l[fmt.Sprint("-1 beside log ", r)] = with(3, -1, 4, 1<<r+1)
		l[fmt.Sprint("255 numbers, log ", r)] = with(3, 1<<r)[:255]
		l[fmt.Sprint("257 numbers, log ", r)] = append(with(3, 1<<r), 0)
	}
	return l
}

// extremes are numbers as great and as small as an int can be, and such as are small ones where only some of their bits are looked at.
func extremes() []int {
	return []int{math.MinInt, math.MinInt + 1, math.MinInt + 5, -1 << 32, -1<<32 + 5, -257, -256, -255, -2, -1, 256, 257, 512, 65536, 1 << 32, 1<<32 + 1, 1<<32 + 5, 1 << 62, math.MaxInt - 1, math.MaxInt}
}

// mustSpread holds Of and Log of normalized counts to what they must be.
func mustSpread(t *testing.T, what string, q []int, r int, want []uint8) {
	t.Helper()
	got, e := Of(q)
	if e != api.OK || !slices.Equal(got, want) {
		t.Fatalf("Of %s: %v %v, want %v", what, got, e, want)
	}
	if log := Log(q); log != r {
		t.Fatalf("Log of %s: %d, want %d", what, log, r)
	}
}

// mustStand holds Place of a key to a place, and true.
func mustStand(t *testing.T, what string, q []int, s, i, want int) {
	t.Helper()
	if at, ok := Place(q, s, i); !ok || at != want {
		t.Fatalf("Place of %d and %d, of %s: %d %v, want %d and true", s, i, what, at, ok, want)
	}
}

// mustNotStand holds Place to 0, and false (R3).
func mustNotStand(t *testing.T, what string, q []int, s, i int) {
	t.Helper()
	if at, ok := Place(q, s, i); ok || at != 0 {
		t.Fatalf("Place of %d and %d, of %s: %d %v, want 0 and false", s, i, what, at, ok)
	}
}

// mustRefuse holds Of and Log to ErrArg, nothing (R3), and 0.
func mustRefuse(t *testing.T, what string, q []int) {
	t.Helper()
	if got, e := Of(q); e != api.ErrArg || len(got) != 0 {
		t.Fatalf("Of %s: %v %v, want none and ErrArg", what, got, e)
	}
	if log := Log(q); log != 0 {
		t.Fatalf("Log of %s: %d, want 0", what, log)
	}
}

// P10.1, P10.2: the chapter's example.
func TestExample(t *testing.T) {
	q := first(5, 2, 1)
	mustSpread(t, "the example", q, 3, []uint8{0, 1, 2, 0, 0, 1, 0, 0})
	for place, k := range []frac.Key{{I: 5, S: 0}, {I: 2, S: 1}, {I: 1, S: 2}, {I: 6, S: 0}, {I: 7, S: 0}, {I: 3, S: 1}, {I: 8, S: 0}, {I: 9, S: 0}} {
		mustStand(t, "the example", q, k.S, k.I, place)
	}
}

// P10.1: spreads that are written out.
func TestWrittenOut(t *testing.T) {
	mustSpread(t, "1 and 1", first(1, 1), 1, []uint8{0, 1})
	mustSpread(t, "2 alone", with(255, 2), 1, []uint8{255, 255})
	mustSpread(t, "1 and 3", first(1, 3), 2, []uint8{0, 1, 1, 1})
	mustSpread(t, "3 and 1", first(3, 1), 2, []uint8{0, 1, 0, 0})
	mustSpread(t, "2, 1, 1", with(200, 2, 7, 1, 255, 1), 2, []uint8{7, 200, 255, 200})
	// 1 of both, 6/5, 4/3, 7/5, 8/5, 5/3, 9/5.
	mustSpread(t, "3 and 5", first(3, 5), 3, []uint8{0, 1, 1, 0, 1, 1, 0, 1})
	// 1 of all, 3/2 of both that have it: 3/2 and 6/4 are as great, so that the symbol tells.
	mustSpread(t, "4, 2, 2", with(9, 2, 10, 4, 11, 2), 3, []uint8{9, 10, 11, 10, 9, 10, 11, 10})
}

// P10.1: one symbol alone stands everywhere, whatever it is.
func TestOneSymbolAlone(t *testing.T) {
	for s := range 256 {
		for r := 1; r <= norm.MaxLog; r++ {
			mustSpread(t, fmt.Sprint(s, " alone"), with(s, 1<<r), r, slices.Repeat([]uint8{uint8(s)}, 1<<r))
		}
	}
}

// P10.1: symbols that have the same take turns, the least one first.
func TestAlike(t *testing.T) {
	for r := 1; r <= norm.MaxLog; r++ {
		for many := 2; many <= min(1<<r, 256); many *= 2 {
			for _, from := range []int{0, (256 - many) / 2, 256 - many} {
				var turn []uint8
				for s := range many {
					turn = append(turn, uint8(from+s))
				}
				mustSpread(t, fmt.Sprint(many, " alike"), alike(r, many, from), r, slices.Repeat(turn, 1<<r/many))
			}
		}
	}
}

// P10.1, P10.2: counts of all kinds, of each log, held to the chapter's words; and each key's place is where its symbol stands.
func TestByTheChaptersWords(t *testing.T) {
	logs := map[int]int{}
	normalized(func(what string, q []int, r int) {
		if len(q) != 256 || sum(q) != 1<<r {
			t.Fatalf("%s: the test's own counts are wrong: %v", what, q)
		}
		logs[r]++
		mustBePlain(t, what, q, r)
	})
	for r := 1; r <= norm.MaxLog; r++ {
		if logs[r] < 10 {
			t.Fatalf("log %d: but %d lists", r, logs[r])
		}
	}
}

// mustBePlain holds all three calls to the chapter's words.
func mustBePlain(t *testing.T, what string, q []int, r int) {
	t.Helper()
	var want []uint8
	for place, k := range plain(q) {
		want = append(want, uint8(k.S))
		mustStand(t, what, q, k.S, k.I, place)
	}
	mustSpread(t, what, q, r, want)
}

// P10.1, P10.2: all counts of four symbols, of small logs, held to the chapter's words.
func TestAllSmallCounts(t *testing.T) {
	for r := 1; r <= 4; r++ {
		size := 1 << r
		for a := range size + 1 {
			for b := range size + 1 - a {
				for c := range size + 1 - a - b {
					q := with(0, a, 1, b, 254, c, 255, size-a-b-c)
					mustBePlain(t, fmt.Sprint(a, b, c, size-a-b-c), q, r)
				}
			}
		}
	}
}

// P10.1: counts of two symbols of each sharing, of a great table.
func TestTwoSymbols(t *testing.T) {
	for a := 1; a < 512; a += 3 {
		mustBePlain(t, fmt.Sprint(a, " of 512"), with(3, a, 4, 512-a), 9)
	}
}

// P10.1, R1, R3: ErrArg, no symbols and the log 0, of whatever is no normalized counts.
func TestWrongCounts(t *testing.T) {
	for what, q := range wrongCounts() {
		mustRefuse(t, what, q)
	}
	for size := range 1<<norm.MaxLog + 200 {
		if size < 2 || size&(size-1) != 0 {
			mustRefuse(t, fmt.Sprint("the sum ", size), with(5, size-size/3, 6, size/3))
		}
	}
	for r := norm.MaxLog + 1; r < 63; r++ {
		mustRefuse(t, fmt.Sprint("2 to the power ", r), with(0, 1<<(r-1), 255, 1<<(r-1)))
	}
}

// P10.2, R1, R3: there is no place where the counts aren't normalized, whatever the key is.
func TestPlaceOfWrongCounts(t *testing.T) {
	for what, q := range wrongCounts() {
		for _, s := range append(extremes(), 0, 1, 2, 3, 4, 9, 10, 254, 255) {
			for _, i := range append(extremes(), 0, 1, 2, 3, 4, 8, 9, 15, 16, 4096) {
				mustNotStand(t, what, q, s, i)
			}
		}
		for s, count := range q {
			mustNotStand(t, what, q, s, count)
			mustNotStand(t, what, q, s, 2*count-1)
		}
	}
}

// P10.2, R3: a symbol's i are from its count on, below two times it; one less, and one more, have no place.
func TestPlaceBeyondTheBounds(t *testing.T) {
	normalized(func(what string, q []int, r int) {
		for s, count := range q {
			for _, i := range []int{-count, -1, 0, count - 1, 2 * count, 2*count + 1, 3 * count, 1 << r << 1} {
				if i < count || i >= 2*count {
					mustNotStand(t, what, q, s, i)
				}
			}
		}
	})
}

// P10.2, R3: a symbol that isn't there has no key, not even that of 0.
func TestPlaceOfSymbolsThatAreNotThere(t *testing.T) {
	q := with(0, 5, 9, 2, 254, 1)
	for s, count := range q {
		if count > 0 {
			continue
		}
		for _, i := range append(extremes(), 0, 1, 2, 3, 5, 8) {
			mustNotStand(t, "5, 2, 1", q, s, i)
		}
	}
}

// P10.2, R1, R3: what is no symbol has no key, and no i beyond its bounds is one, however far.
func TestPlaceOfExtremes(t *testing.T) {
	lists := [][]int{first(5, 2, 1), with(0, 4096), with(255, 4096), all(256, 16), all(256, 1), with(0, 1, 255, 1)}
	for _, q := range lists {
		for _, s := range extremes() {
			for _, i := range append(extremes(), 0, 1, 2, 5, 9, 16, 31, 4096, 8191) {
				mustNotStand(t, fmt.Sprint(q[:3]), q, s, i)
			}
		}
		for s := range 256 {
			for _, i := range []int{math.MinInt, math.MinInt + 1, math.MinInt + q[s], -1 << 32, -q[s] - 1, 1<<32 + q[s], 1 << 62, math.MaxInt - 1, math.MaxInt} {
				mustNotStand(t, fmt.Sprint(q[:3]), q, s, i)
			}
		}
	}
}

// P10.3: each symbol has as many places as its count, and their i rise with them.
func TestAsManyPlacesAsItsCount(t *testing.T) {
	normalized(func(what string, q []int, r int) {
		l, e := Of(q)
		if e != api.OK || len(l) != 1<<r {
			t.Fatalf("Of %s: %d symbols, %v", what, len(l), e)
		}
		met := make([]int, 256)
		for place, s := range l {
			mustStand(t, what, q, int(s), q[s]+met[s], place)
			met[s]++
		}
		if !slices.Equal(met, q) {
			t.Fatalf("%s: so many places each: %v, want %v", what, met, q)
		}
	})
}

// P10.3: L and a place, together, times q[s], lie from i times L on, and at most (m - 1) times q[s] above it.
func TestPlacesLieBetweenTheirBounds(t *testing.T) {
	normalized(func(what string, q []int, r int) {
		size, many := 1<<r, 256-len(slices.DeleteFunc(slices.Clone(q), func(count int) bool { return count > 0 }))
		for s, count := range q {
			for i := count; i < 2*count; i++ {
				place, ok := Place(q, s, i)
				over := (size+place)*count - i*size
				if !ok || over < 0 || over > (many-1)*count {
					t.Fatalf("%s: Place of %d and %d: %d %v, that is %d beyond its least", what, s, i, place, ok, over)
				}
			}
		}
	})
}

// P10.1, P10.2: what lies in memory around the counts isn't looked at.
func TestCountsThatAreCutOut(t *testing.T) {
	long := append(append(all(3, 9), first(5, 2, 1)...), all(9, 1000)...)
	mustBePlain(t, "what is cut out", long[3:259], 3)
	mustNotStand(t, "what is cut out", long[3:259], 256, 1000)
	mustNotStand(t, "what is cut out", long[3:259], -1, 9)
}

// R4: nil and an empty list are the same.
func TestNilAndEmpty(t *testing.T) {
	for _, q := range [][]int{nil, {}, first(5, 2, 1)[:0]} {
		mustRefuse(t, "none", q)
		mustNotStand(t, "none", q, 0, 5)
		mustNotStand(t, "none", q, 0, 0)
	}
}

// R5: what is handed in stays as it is, and so does what lies behind it.
func TestNothingHandedInIsChanged(t *testing.T) {
	lists := [][]int{first(5, 2, 1), with(0, 4096), all(256, 16), with(0, 1, 255, 1), shared(4, 11, 200, 4), all(256, 0), first(-1, 9), first(3)}
	for _, q := range lists {
		long := append(slices.Clone(q), 1, 2, 3, 4)
		kept := slices.Clone(long)
		Of(long[:256])
		Log(long[:256])
		for s := -1; s <= 256; s++ {
			for _, i := range []int{0, 1, 2, 5, 16, 4096} {
				Place(long[:256], s, i)
			}
		}
		if !slices.Equal(long, kept) {
			t.Fatalf("%v was changed to %v", kept, long)
		}
	}
}

// R5: what was told hangs neither on what was handed in, nor on what is told ahead or later.
func TestAnswersAreTheirOwn(t *testing.T) {
	want := []uint8{0, 1, 2, 0, 0, 1, 0, 0}
	q := first(5, 2, 1)
	one, _ := Of(q)
	two, _ := Of(q)
	clear(q)
	clear(two)
	_ = append(two, 9, 9, 9, 9)
	three, _ := Of(first(5, 2, 1))
	_ = append(one, slices.Repeat([]uint8{7}, 300)...)
	if !slices.Equal(one, want) || !slices.Equal(three, want) {
		t.Fatalf("an answer was changed: %v, %v, want %v", one, three, want)
	}
	mustRefuse(t, "what was cleared", q)
}

// R6: the same arguments have the same answer, whatever was asked ahead.
func TestSameAnswerEachTime(t *testing.T) {
	for range 3 {
		mustBePlain(t, "the example", first(5, 2, 1), 3)
		mustRefuse(t, "256 zeros", all(256, 0))
		mustNotStand(t, "the example", first(5, 2, 1), 0, 10)
		mustBePlain(t, "200 shared", shared(4, 11, 200, 4), 11)
		mustNotStand(t, "256 zeros", all(256, 0), 0, 0)
	}
}

// A queue tells keys in their order, whatever order they came in.
func TestQueue(t *testing.T) {
	want := plain(first(5, 2, 1))
	for start := range want {
		for _, step := range []int{1, 3, 5, 7} {
			w := &queue{}
			for n := range want {
				w.add(want[(start+n*step)%len(want)])
			}
			for _, k := range want {
				if got := w.least(); got != k {
					t.Fatalf("%v came off, want %v", got, k)
				}
			}
			if w.Len() != 0 {
				t.Fatalf("%d are left", w.Len())
			}
		}
	}
}
