package dtab

import (
	"fmt"
	"math"
	"slices"
	"testing"

	"puncheon/api"
	"puncheon/norm"
	"puncheon/spread"
)

// first are 256 counts, of which the first ones are written out, and all others are 0.
func first(l ...int) []int { return append(slices.Clone(l), make([]int, 256-len(l))...) }

// with are 256 zeros, but for numbers at symbols: a symbol, its number, the next symbol, and so on.
func with(placed ...int) []int {
	q := make([]int, 256)
	for i := 0; i < len(placed); i += 2 {
		q[placed[i]] = placed[i+1]
	}
	return q
}

// all are some numbers that are the same.
func all(many, number int) []int { return slices.Repeat([]int{number}, many) }

// example are the chapter's counts.
func example() []int { return first(5, 2, 1) }

// exampleCells are the cells of the chapter's counts, written out.
func exampleCells() []api.Cell {
	return []api.Cell{
		{Sym: 0, Bits: 1, Base: 2},
		{Sym: 1, Bits: 2, Base: 0},
		{Sym: 2, Bits: 3, Base: 0},
		{Sym: 0, Bits: 1, Base: 4},
		{Sym: 0, Bits: 1, Base: 6},
		{Sym: 1, Bits: 2, Base: 4},
		{Sym: 0, Bits: 0, Base: 0},
		{Sym: 0, Bits: 0, Base: 1},
	}
}

// drawer tells numbers below a bound, the same ones each time for one seed.
func drawer(seed uint64) func(below int) int {
	x := seed*2862933555777941757 + 3037000493
	return func(below int) int {
		x = x*6364136223846793005 + 1442695040888963407
		return int(x>>33) % below
	}
}

// shared are normalized counts of so many symbols of the 256, one each and the rest thrown at them: the steeper, the more goes to few.
func shared(seed uint64, r, many, steep int) []int {
	q := make([]int, 256)
	draw := drawer(seed)
	var there []int
	for len(there) < many {
		if s := draw(256); q[s] == 0 {
			q[s] = 1
			there = append(there, s)
		}
	}
	for range 1<<r - many {
		to := draw(many)
		for range steep {
			to = min(to, draw(many))
		}
		q[there[to]]++
	}
	return q
}

// alike are normalized counts of so many symbols, a power of two, that all have the same, the last one at 255.
func alike(r, many int) []int {
	return slices.Concat(all(256-many, 0), all(many, 1<<r/many))
}

// halving are normalized counts of which each is half of the one ahead of it, and the last two are 1.
func halving(r int) []int {
	var l []int
	for i := range r {
		l = append(l, 1<<(r-1-i))
	}
	return first(append(l, 1)...)
}

// normalized hands over normalized counts of many kinds, of each log.
func normalized(hand func(what string, q []int, r int)) {
	for r := 1; r <= norm.MaxLog; r++ {
		size := 1 << r
		tell := func(what string, q []int) { hand(fmt.Sprintf("%s, log %d", what, r), q, r) }
		for _, s := range []int{0, 100, 255} {
			tell(fmt.Sprint(s, " alone"), with(s, size))
		}
		tell("the first and the last, halves", with(0, size/2, 255, size/2))
		tell("the first once, and the last", with(0, 1, 255, size-1))
		tell("the first, and the last once", with(0, size-1, 255, 1))
		tell("a third, and the rest", with(7, size-size/3, 9, size/3))
		tell("halving", halving(r))
		for many := 4; many <= min(size, 256); many *= 4 {
			tell(fmt.Sprint(many, " alike"), alike(r, many))
		}
		for _, many := range []int{3, 16, 100, 255, 256} {
			for steep := 0; many <= size && steep <= 8; steep += 8 {
				tell(fmt.Sprint(many, " shared, steep ", steep), shared(uint64(many), r, many, steep))
			}
		}
		if size > 256 {
			tell("all, the last one great", append(all(255, 1), size-255))
			tell("all, the first one great", append([]int{size - 255}, all(255, 1)...))
		}
	}
}

// wrongCounts are lists of numbers that are no normalized counts of any log, by what they are.
func wrongCounts() map[string][]int {
	l := map[string][]int{
		"nil":                        nil,
		"an empty list":              {},
		"one number":                 {4},
		"the example, three numbers": {5, 2, 1},
		"512 numbers":                all(512, 1),
		"8192 numbers":               all(8192, 0),
		"256 zeros":                  all(256, 0),
		"255 zeros, and 8 behind":    append(all(256, 0), 8),
		"the sum 1":                  first(1),
		"the sum 1, at last":         with(255, 1),
		"the sum 3":                  first(1, 1, 1),
		"the sum 768":                all(256, 3),
		"the sum 255":                append(all(255, 1), 0),
		"the sum 257":                append(all(255, 1), 2),
		"the sum 4095":               with(0, 4000, 255, 95),
		"the sum 4097":               with(0, 4000, 255, 97),
		"the sum 8192":               all(256, 32),
		"8192 alone":                 with(9, 8192),
		"2^32":                       with(9, 1<<32),
		"2^32 and 8":                 with(9, 1<<32, 10, 8),
		"2^62":                       with(9, 1<<62),
		"-1 first":                   first(-1, 9),
		"-1 last":                    with(0, 9, 255, -1),
		"-8 alone":                   first(-8),
		"8, -8 and 8":                first(8, -8, 8),
		"all below 0":                all(256, -1),
		"the greatest":               first(math.MaxInt),
		"the greatest, at last":      with(255, math.MaxInt),
		"the least":                  first(math.MinInt),
		"the least, at last":         with(255, math.MinInt),
		"the greatest and the least": first(math.MaxInt, math.MinInt, 9),
		"the least twice, and 8":     first(math.MinInt, math.MinInt, 8),
		"the greatest twice, and 10": first(math.MaxInt, math.MaxInt, 10),
		"four of 2^62, and 8":        first(1<<62, 1<<62, 1<<62, 1<<62, 8),
		"all the greatest":           all(256, math.MaxInt),
		"all the least":              all(256, math.MinInt),
	}
	for r := 1; r <= norm.MaxLog; r++ {
		l[fmt.Sprint("one less than log ", r+1)] = with(3, 1<<r, 4, 1<<r-1)
		l[fmt.Sprint("one more than log ", r)] = with(3, 1<<r, 255, 1)
		l[fmt.Sprint("-1 beside log ", r)] = with(3, -1, 4, 1<<r+1)
		l[fmt.Sprint("255 numbers, log ", r)] = with(3, 1<<r)[:255]
		l[fmt.Sprint("257 numbers, log ", r)] = append(with(3, 1<<r), 0)
	}
	for r := norm.MaxLog + 1; r < 63; r++ {
		l[fmt.Sprint("2 to the power ", r)] = with(0, 1<<(r-1), 255, 1<<(r-1))
	}
	return l
}

// extremes are numbers as great and as small as an int can be, and such as are small ones where only some of their bits are looked at.
func extremes() []int {
	return []int{math.MinInt, math.MinInt + 1, math.MinInt + 5, -1 << 32, -1<<32 + 5, -256, -64, -8, -2, -1, 64, 65, 256, 257, 65536, 1 << 31, 1 << 32, 1<<32 + 1, 1<<32 + 5, 1 << 62, math.MaxInt - 1, math.MaxInt}
}

// plain are the cells of normalized counts in the chapters' words: all keys are made and put in order, and each tells its cell.
func plain(q []int, r int) []api.Cell {
	var keys [][2]int // of each a symbol, and its i
	for s := range q {
		for i := q[s]; i <= 2*q[s]-1; i++ {
			keys = append(keys, [2]int{s, i})
		}
	}
	slices.SortFunc(keys, func(a, b [2]int) int {
		if c := a[1]*q[b[0]] - b[1]*q[a[0]]; c != 0 {
			return c
		}
		return a[0] - b[0]
	})
	var l []api.Cell
	for _, k := range keys {
		bits := r
		for power := 2; power <= k[1]; power *= 2 {
			bits--
		}
		base := k[1]
		for range bits {
			base *= 2
		}
		l = append(l, api.Cell{Sym: uint8(k[0]), Bits: bits, Base: base - 1<<r})
	}
	return l
}

// plainWhole is Whole in the chapter's words: of each symbol that some cell has it is counted how often each number comes.
func plainWhole(l []api.Cell) bool {
	if !slices.Contains([]int{2, 4, 8, 16, 32, 64, 128, 256, 512, 1024, 2048, 4096}, len(l)) {
		return false
	}
	var times [256][]int
	for _, c := range l {
		if c.Bits < 0 || c.Bits > 12 || c.Base < 0 || c.Base > len(l)-1<<c.Bits {
			return false
		}
		if times[c.Sym] == nil {
			times[c.Sym] = make([]int, len(l))
		}
		for i := range 1 << c.Bits {
			times[c.Sym][c.Base+i]++
		}
	}
	for _, of := range times {
		if slices.ContainsFunc(of, func(many int) bool { return many != 1 }) {
			return false
		}
	}
	return true
}

// cellsOf are the cells of counts, that must be normalized.
func cellsOf(t *testing.T, what string, q []int) []api.Cell {
	t.Helper()
	l, e := Of(q)
	if e != api.OK {
		t.Fatalf("Of %s: %v", what, e)
	}
	return l
}

// mustTell holds Of to cells.
func mustTell(t *testing.T, what string, q []int, want []api.Cell) {
	t.Helper()
	l := cellsOf(t, what, q)
	if len(l) != len(want) {
		t.Fatalf("Of %s: %d cells, want %d", what, len(l), len(want))
	}
	for x, c := range l {
		if c != want[x] {
			t.Fatalf("Of %s: cell %d is %v, want %v", what, x, c, want[x])
		}
	}
}

// mustRefuse holds Of to ErrArg, and no cells (R3).
func mustRefuse(t *testing.T, what string, q []int) {
	t.Helper()
	if l, e := Of(q); e != api.ErrArg || len(l) != 0 {
		t.Fatalf("Of %s: %v %v, want none and ErrArg", what, l, e)
	}
}

// mustStep holds Step to a symbol, a state, and true.
func mustStep(t *testing.T, l []api.Cell, x int, more uint32, s uint8, next int) {
	t.Helper()
	if gotS, gotNext, ok := Step(l, x, more); gotS != s || gotNext != next || !ok {
		t.Fatalf("Step from %d with %d: %d %d %v, want %d %d true", x, more, gotS, gotNext, ok, s, next)
	}
}

// mustNotStep holds Step to 0, 0, and false (R3).
func mustNotStep(t *testing.T, l []api.Cell, x int, more uint32) {
	t.Helper()
	if s, next, ok := Step(l, x, more); s != 0 || next != 0 || ok {
		t.Fatalf("Step from %d with %d, of %d cells: %d %d %v, want 0 0 false", x, more, len(l), s, next, ok)
	}
}

// mustBeWhole holds Whole to an answer, and that to the chapter's words.
func mustBeWhole(t *testing.T, what string, l []api.Cell, want bool) {
	t.Helper()
	if plainWhole(l) != want {
		t.Fatalf("%s: the test's own answer is wrong", what)
	}
	if got := Whole(l); got != want {
		t.Fatalf("Whole of %s: %v, want %v", what, got, want)
	}
}

// P11.1: the chapter's example, all of its cells written out.
func TestExample(t *testing.T) {
	mustTell(t, "the example", example(), exampleCells())
	if c := cellsOf(t, "the example", example())[5]; c != (api.Cell{Sym: 1, Bits: 2, Base: 4}) {
		t.Fatalf("cell 5: %v", c)
	}
	mustBeWhole(t, "the example", exampleCells(), true)
}

// P11.1: cells that are written out.
func TestWrittenOut(t *testing.T) {
	mustTell(t, "1 and 1", first(1, 1), []api.Cell{{Sym: 0, Bits: 1}, {Sym: 1, Bits: 1}})
	mustTell(t, "2 alone", with(255, 2), []api.Cell{{Sym: 255}, {Sym: 255, Base: 1}})
	mustTell(t, "3 and 1", with(0, 3, 255, 1), []api.Cell{{Bits: 1, Base: 2}, {Sym: 255, Bits: 2}, {Bits: 0, Base: 0}, {Bits: 0, Base: 1}})
	mustTell(t, "1 and 3", with(0, 1, 255, 3), []api.Cell{{Bits: 2}, {Sym: 255, Bits: 1, Base: 2}, {Sym: 255}, {Sym: 255, Base: 1}})
	mustTell(t, "2, 1, 1", with(200, 2, 7, 1, 255, 1), []api.Cell{{Sym: 7, Bits: 2}, {Sym: 200, Bits: 1}, {Sym: 255, Bits: 2}, {Sym: 200, Bits: 1, Base: 2}})
}

// P11.1: one symbol alone, whatever it is, takes no bits, and each state is its own.
func TestOneSymbolAlone(t *testing.T) {
	for s := range 256 {
		for r := 1; r <= norm.MaxLog; r++ {
			var want []api.Cell
			for x := range 1 << r {
				want = append(want, api.Cell{Sym: uint8(s), Base: x})
			}
			mustTell(t, fmt.Sprint(s, " alone"), with(s, 1<<r), want)
		}
	}
}

// P11.1: all symbols, alike: each stands in its turn, with as many bits as the log is above 8.
func TestAllSymbolsAlike(t *testing.T) {
	for r := 8; r <= norm.MaxLog; r++ {
		var want []api.Cell
		for x := range 1 << r {
			want = append(want, api.Cell{Sym: uint8(x), Bits: 8, Base: x >> 8 << 8})
		}
		mustTell(t, fmt.Sprint("all alike, log ", r), all(256, 1<<r/256), want)
	}
}

// P11.1: counts of all kinds, of each log, held to the chapter's words.
func TestByTheChaptersWords(t *testing.T) {
	logs := map[int]int{}
	normalized(func(what string, q []int, r int) {
		if log, ok := norm.Log(q); !ok || log != r {
			t.Fatalf("%s: the test's own counts are wrong: %v", what, q)
		}
		logs[r]++
		mustTell(t, what, q, plain(q, r))
	})
	for r := 1; r <= norm.MaxLog; r++ {
		if logs[r] < 8 {
			t.Fatalf("log %d: but %d lists", r, logs[r])
		}
	}
}

// P11.1: all counts of four symbols, of small logs, held to the chapter's words.
func TestAllSmallCounts(t *testing.T) {
	for r := 1; r <= 4; r++ {
		size := 1 << r
		for a := range size + 1 {
			for b := range size + 1 - a {
				for c := range size + 1 - a - b {
					q := with(0, a, 1, b, 254, c, 255, size-a-b-c)
					mustTell(t, fmt.Sprint(a, b, c, size-a-b-c), q, plain(q, r))
					mustBeWhole(t, fmt.Sprint(a, b, c, size-a-b-c), cellsOf(t, "small counts", q), true)
				}
			}
		}
	}
}

// P11.1: each cell is its symbol's at its place, as spread tells them both.
func TestCellsStandWhereSpreadSays(t *testing.T) {
	normalized(func(what string, q []int, r int) {
		l := cellsOf(t, what, q)
		symbols, _ := spread.Of(q)
		for x, c := range l {
			i := (c.Base + 1<<r) >> c.Bits
			place, ok := spread.Place(q, int(c.Sym), i)
			if c.Sym != symbols[x] || !ok || place != x || i<<c.Bits != c.Base+1<<r {
				t.Fatalf("%s: cell %d is %v, that has i %d at place %d", what, x, c, i, place)
			}
		}
	})
}

// P11.1, R1, R3: ErrArg, and no cells, of whatever is no normalized counts.
func TestWrongCounts(t *testing.T) {
	for what, q := range wrongCounts() {
		mustRefuse(t, what, q)
	}
	for size := range 1<<norm.MaxLog + 200 {
		if size < 2 || size&(size-1) != 0 {
			mustRefuse(t, fmt.Sprint("the sum ", size), with(5, size-size/3, 6, size/3))
		}
	}
}

// P11.2: at each cell the least and the greatest number of its bits are right, and the next one isn't.
func TestStepAtEachCell(t *testing.T) {
	normalized(func(what string, q []int, r int) {
		l := cellsOf(t, what, q)
		for x, c := range l {
			past := uint32(1) << c.Bits
			mustStep(t, l, x, 0, c.Sym, c.Base)
			mustStep(t, l, x, past-1, c.Sym, c.Base+int(past-1))
			mustStep(t, l, x, past/2, c.Sym, c.Base+int(past/2)*min(c.Bits, 1))
			mustNotStep(t, l, x, past)
			mustNotStep(t, l, x, past+1)
			mustNotStep(t, l, x, math.MaxUint32)
		}
		for _, x := range []int{-1, len(l), len(l) + 1, math.MinInt, math.MaxInt, 1 << 32, -1 << 32} {
			mustNotStep(t, l, x, 0)
		}
	})
}

// P11.2: steps of the chapter's example.
func TestStepExample(t *testing.T) {
	l := exampleCells()
	mustStep(t, l, 5, 3, 1, 7)
	mustNotStep(t, l, 5, 4)
	mustStep(t, l, 6, 0, 0, 0)
	mustNotStep(t, l, 6, 1)
	mustStep(t, l, 2, 7, 2, 7)
	mustNotStep(t, l, 2, 8)
}

// P11.2: Bits are from 0 to 24, each of them as wide as it is; of others there is no answer, however great or small.
func TestStepWithAllBits(t *testing.T) {
	for bits := range 25 {
		l := []api.Cell{{}, {Sym: 200, Bits: bits, Base: 1000}}
		past := uint32(1) << bits
		mustStep(t, l, 1, 0, 200, 1000)
		mustStep(t, l, 1, past-1, 200, 999+int(past))
		mustNotStep(t, l, 1, past)
		mustNotStep(t, l, 1, math.MaxUint32)
	}
	for _, bits := range append(extremes(), -1, 25, 26, 31, 32, 33, 48, 63) {
		l := []api.Cell{{Sym: 200, Bits: bits, Base: 1000}, {Sym: 7, Base: 3}}
		for _, more := range []uint32{0, 1, 2, 1 << 24, 1 << 25, math.MaxUint32} {
			mustNotStep(t, l, 0, more)
		}
		mustStep(t, l, 1, 0, 7, 3)
	}
}

// P11.2: a Base needn't be a state's, nor the cells a table; they may be any number of them.
func TestStepOfAnyCells(t *testing.T) {
	for _, base := range []int{-1 << 40, -1<<40 + 1, -1 << 32, -5, -1, 0, 1, 4096, 1 << 31, 1 << 32, 1<<40 - 1, 1 << 40} {
		for _, many := range []int{1, 3, 8192} {
			l := slices.Repeat([]api.Cell{{Sym: 9, Bits: 24, Base: base}}, many)
			for _, x := range []int{0, many / 2, many - 1} {
				mustStep(t, l, x, 0, 9, base)
				mustStep(t, l, x, 1<<24-1, 9, base+1<<24-1)
				mustNotStep(t, l, x, 1<<24)
			}
			mustNotStep(t, l, many, 0)
		}
	}
}

// P11.2, R1, R3: no state beyond the cells has an answer, though there be more in memory.
func TestStepBeyondTheCells(t *testing.T) {
	long := exampleCells()
	for many := range long {
		for _, x := range append(extremes(), -many, -1, many, many+1, 8, 9) {
			if x < 0 || x >= many {
				mustNotStep(t, long[:many], x, 0)
			}
		}
	}
	for _, none := range [][]api.Cell{nil, {}} {
		for _, x := range append(extremes(), 0, 1) {
			mustNotStep(t, none, x, 0)
			mustNotStep(t, none, x, 1)
		}
	}
}

// P11.4: what Of tells is whole, of each log.
func TestWhatOfTellsIsWhole(t *testing.T) {
	normalized(func(what string, q []int, r int) {
		mustBeWhole(t, what, cellsOf(t, what, q), true)
	})
}

// P11.4: of each symbol that is there each state is reached by just one state, and one number of its bits.
func TestEachStateComesInOneWay(t *testing.T) {
	normalized(func(what string, q []int, r int) {
		l := cellsOf(t, what, q)
		var ways [256][]int
		for s, count := range q {
			if count > 0 {
				ways[s] = make([]int, len(l))
			}
		}
		for x, c := range l {
			for more := range uint32(1) << c.Bits {
				s, next, ok := Step(l, x, more)
				if !ok || next < 0 || next >= len(l) {
					t.Fatalf("%s: from %d with %d: %d %d %v", what, x, more, s, next, ok)
				}
				ways[s][next]++
			}
		}
		for s, many := range ways {
			if !slices.Equal(many, all(len(many), 1)) {
				t.Fatalf("%s: symbol %d leads to states in so many ways: %v", what, s, many)
			}
		}
	})
}

// P11.3: a table has from 2 to 4096 cells, a power of two, though each symbol's numbers be right.
func TestWholeByHowManyCells(t *testing.T) {
	for many := range 4200 {
		var l []api.Cell
		for x := range many {
			l = append(l, api.Cell{Sym: 5, Base: x})
		}
		want := many >= 2 && many <= 4096 && many&(many-1) == 0
		if got := Whole(l); got != want {
			t.Fatalf("Whole of %d cells: %v, want %v", many, got, want)
		}
	}
	for _, many := range []int{8191, 8192, 8193, 16384, 65536} {
		l := make([]api.Cell, many)
		for x := range l {
			l[x] = api.Cell{Sym: 5, Base: x}
		}
		mustBeWhole(t, fmt.Sprint(many, " cells"), l, false)
	}
	mustBeWhole(t, "one cell of two numbers", []api.Cell{{Bits: 1}}, false)
	mustBeWhole(t, "three cells of four numbers", []api.Cell{{Bits: 1}, {Base: 2}, {Base: 3}}, false)
}

// P11.3: cells that are written out.
func TestWholeWrittenOut(t *testing.T) {
	whole := map[string][]api.Cell{
		"1, 0":                          {{Base: 1}, {}},
		"two symbols":                   {{Sym: 1, Bits: 1}, {Sym: 2, Bits: 1}},
		"bases that are odd":            {{Sym: 8}, {Sym: 8, Bits: 1, Base: 1}, {Sym: 8, Base: 3}, {Sym: 0, Bits: 2}},
		"the first and the last symbol": {{Sym: 255, Bits: 1}, {Sym: 0, Bits: 1}},
	}
	for what, l := range whole {
		mustBeWhole(t, what, l, true)
	}
	wrong := map[string][]api.Cell{
		"both numbers twice":         {{Bits: 1}, {Bits: 1}},
		"0 twice":                    {{}, {}},
		"1 twice":                    {{Base: 1}, {Base: 1}},
		"0 and 2":                    {{}, {Base: 2}},
		"-1 and 1":                   {{Base: -1}, {Base: 1}},
		"1 missing of one symbol":    {{Sym: 1, Bits: 1}, {Sym: 2}},
		"0 missing of one symbol":    {{Sym: 1, Base: 1}, {Sym: 2, Bits: 1}},
		"13 bits":                    {{Bits: 13}, {}},
		"all, and one more twice":    {{Sym: 3, Bits: 1}, {Sym: 3}},
		"one more, and all":          {{Sym: 3, Base: 1}, {Sym: 3, Bits: 1}},
		"two overlap":                {{Bits: 1}, {Bits: 1, Base: 1}, {Base: 3}, {Sym: 1, Bits: 2}},
		"beyond the end by one":      {{}, {Bits: 1, Base: 1}, {Bits: 1, Base: 3}, {Sym: 1, Bits: 2}},
		"begins below 0":             {{Bits: 1, Base: -1}, {Bits: 1, Base: 1}, {Base: 3}, {Sym: 1, Bits: 2}},
		"as many as states, 3 twice": {{Bits: 1}, {Base: 3}, {Base: 3}, {Sym: 1, Bits: 2}},
		"one twice, one missing":     {{Sym: 4, Bits: 2}, {Sym: 4}, {Sym: 7, Bits: 1}, {Sym: 7}},
		"of others just the numbers": {{Sym: 1}, {Sym: 2, Base: 1}},
	}
	for what, l := range wrong {
		mustBeWhole(t, what, l, false)
	}
}

// P11.3: of each number of bits, up to all 12.
func TestWholeWithAllBits(t *testing.T) {
	for r := 1; r <= 12; r++ {
		size := 1 << r
		l := []api.Cell{{Sym: 255, Bits: r}, {Base: 0}}
		for x := 1; len(l) < size; x++ {
			l = append(l, api.Cell{Base: x})
		}
		mustBeWhole(t, "the last number of one missing", l, false)
		l[size-1].Bits = 1
		mustBeWhole(t, "all bits", l, true)
		for _, bits := range append(extremes(), r+1, r-1, 12, 13, 62, 63) {
			if bits != r {
				other := slices.Clone(l)
				other[0].Bits = bits
				mustBeWhole(t, fmt.Sprintf("%d bits of %d", bits, r), other, false)
			}
		}
	}
}

// changes hands over cells of which one was changed in one field, to one beside what it was, and to others.
func changes(l []api.Cell, hand func(what string, changed []api.Cell)) {
	for x, c := range l {
		changed := slices.Clone(l)
		tell := func(c api.Cell) {
			changed[x] = c
			hand(fmt.Sprintf("%v instead of %v at %d", c, l[x], x), changed)
		}
		for _, s := range []uint8{c.Sym + 1, c.Sym - 1, 0, 1, 2, 255} {
			tell(api.Cell{Sym: s, Bits: c.Bits, Base: c.Base})
		}
		for _, bits := range []int{c.Bits - 1, c.Bits + 1, 0, 1, 2, 3, 12, 13, 24, 25} {
			tell(api.Cell{Sym: c.Sym, Bits: bits, Base: c.Base})
		}
		for _, base := range []int{c.Base - 1, c.Base + 1, -c.Base, c.Base - 1<<c.Bits, c.Base + 1<<c.Bits, 0, len(l) - 1, len(l)} {
			tell(api.Cell{Sym: c.Sym, Bits: c.Bits, Base: base})
		}
	}
}

// P11.3: whatever is changed in one cell, held to the chapter's words; most often it isn't whole any more.
func TestWholeWithOneCellChanged(t *testing.T) {
	lists := [][]int{example(), first(1, 1), with(255, 2), with(0, 3, 255, 1), with(7, 16), with(0, 1, 255, 31), alike(6, 16), halving(6), shared(3, 7, 20, 4), shared(5, 5, 3, 0)}
	for _, q := range lists {
		wrong := 0
		changes(cellsOf(t, fmt.Sprint(q), q), func(what string, changed []api.Cell) {
			want := plainWhole(changed)
			if !want {
				wrong++
			}
			mustBeWhole(t, what, changed, want)
		})
		if wrong < 10 {
			t.Fatalf("%v: but %d changes are wrong", q, wrong)
		}
	}
}

// P11.3: in tables of all kinds one number more or less of Bits or Base is always found; a symbol is, too, where it is one that stands elsewhere as well.
func TestWholeFindsEachChange(t *testing.T) {
	normalized(func(what string, q []int, r int) {
		l := cellsOf(t, what, q)
		draw := drawer(uint64(len(l)))
		for range 3 {
			x := draw(len(l))
			c := l[x]
			for _, other := range []api.Cell{{Bits: -1}, {Bits: 1}, {Base: -1}, {Base: 1}} {
				l[x] = api.Cell{Sym: c.Sym, Bits: c.Bits + other.Bits, Base: c.Base + other.Base}
				mustBeWhole(t, fmt.Sprintf("%s: %v instead of %v", what, l[x], c), l, false)
			}
			l[x] = c
			if s := l[draw(len(l))].Sym; s != c.Sym {
				l[x].Sym = s
				mustBeWhole(t, fmt.Sprintf("%s: symbol %d instead of %d", what, s, c.Sym), l, false)
			}
			l[x] = c
		}
	})
}

// P11.3: where the cells stand is all the same; only what they tell counts.
func TestWholeWithTwoCellsChangedAbout(t *testing.T) {
	normalized(func(what string, q []int, r int) {
		l := cellsOf(t, what, q)
		l[0], l[len(l)-1] = l[len(l)-1], l[0]
		mustBeWhole(t, what+", first and last changed about", l, true)
		slices.Reverse(l)
		mustBeWhole(t, what+", from behind", l, true)
		// Just what they are added to: whole only where they are as wide, and of one symbol.
		draw := drawer(uint64(r))
		a, b := draw(len(l)), draw(len(l))
		l[a].Base, l[b].Base = l[b].Base, l[a].Base
		mustBeWhole(t, what+", two bases changed about", l, plainWhole(l))
	})
}

// P11.3: one cell less, or one more, is never whole.
func TestWholeWithACellFewerOrMore(t *testing.T) {
	normalized(func(what string, q []int, r int) {
		l := cellsOf(t, what, q)
		mustBeWhole(t, what+", without the last", l[:len(l)-1], false)
		mustBeWhole(t, what+", without the first", l[1:], false)
		for _, more := range []api.Cell{{}, l[0], {Sym: 77, Bits: r}} {
			mustBeWhole(t, fmt.Sprint(what, ", and ", more), append(slices.Clone(l), more), false)
		}
		// Half of one and twice one have as many cells as a table may have.
		mustBeWhole(t, what+", the first half", l[:len(l)/2], plainWhole(l[:len(l)/2]))
		mustBeWhole(t, what+", twice", append(slices.Clone(l), l...), false)
	})
}

// P11.3, R1: Bits and Base that are as great and as small as an int can be, and what they would be if but some of their bits were looked at.
func TestWholeOfExtremes(t *testing.T) {
	for _, q := range [][]int{example(), first(1, 1), with(255, 2), all(256, 1), with(0, 4096), with(0, 1, 255, 4095)} {
		l := cellsOf(t, fmt.Sprint(q), q)
		for _, x := range []int{0, len(l) / 2, len(l) - 1} {
			c := l[x]
			for _, number := range extremes() {
				if number != c.Bits {
					l[x].Bits = number
					mustBeWhole(t, fmt.Sprintf("%d cells, with Bits %d at %d", len(l), number, x), l, false)
				}
				l[x] = c
				// A sum that goes round would bring one back to where it was.
				for _, base := range []int{number, c.Base + number, number - 1<<c.Bits} {
					l[x].Base = base
					mustBeWhole(t, fmt.Sprintf("%d cells, with Base %d at %d", len(l), base, x), l, plainWhole(l))
				}
				l[x] = api.Cell{Sym: c.Sym, Bits: number, Base: number}
				mustBeWhole(t, fmt.Sprintf("%d cells, with both %d at %d", len(l), number, x), l, false)
				l[x] = c
			}
		}
	}
	for _, bits := range append(extremes(), 2, 3, 12, 13, 62, 63) {
		// A width that goes round is none, and a base may be as far below 0 as a width is above the states.
		for _, base := range append(extremes(), 0, 1, 2, 2-1<<(uint(bits)&63)) {
			c := api.Cell{Sym: 255, Bits: bits, Base: base}
			mustBeWhole(t, fmt.Sprint("twice ", c), []api.Cell{c, c}, false)
			for _, s := range []uint8{0, 255} {
				mustBeWhole(t, fmt.Sprint("a whole symbol, ", s, ", beside ", c), []api.Cell{{Sym: s, Bits: 1}, c}, false)
			}
		}
	}
}

// P11.3: one wrong symbol is enough, whichever of all it is.
func TestWholeWithOneWrongSymbol(t *testing.T) {
	for wrong := range 256 {
		l := cellsOf(t, "all alike", all(256, 1))
		l[wrong].Bits = 7
		mustBeWhole(t, fmt.Sprint("the first half only, of ", wrong), l, false)
		l[wrong].Base = 128
		mustBeWhole(t, fmt.Sprint("the other half only, of ", wrong), l, false)
		l[wrong] = api.Cell{Sym: l[wrong].Sym, Bits: 8, Base: 1}
		mustBeWhole(t, fmt.Sprint("one beyond, of ", wrong), l, false)
		l[wrong] = l[(wrong+1)%256]
		mustBeWhole(t, fmt.Sprint("all twice, instead of ", wrong), l, false)
		l[wrong] = api.Cell{Sym: uint8(wrong), Bits: 8}
		mustBeWhole(t, "all alike", l, true)
	}
}

// P11.3: all tables of two cells with small numbers, and many of four, held to the chapter's words.
func TestWholeOfAllSmallTables(t *testing.T) {
	var cells []api.Cell
	for s := range uint8(2) {
		for bits := -1; bits <= 2; bits++ {
			for base := -1; base <= 3; base++ {
				cells = append(cells, api.Cell{Sym: s, Bits: bits, Base: base})
			}
		}
	}
	whole := 0
	for _, a := range cells {
		for _, b := range cells {
			mustAgree(t, []api.Cell{a, b}, &whole)
			for _, c := range cells {
				if a.Sym <= b.Sym && b.Sym <= c.Sym {
					mustAgree(t, []api.Cell{a, b, c, {Sym: 1, Bits: 2}}, &whole)
					mustAgree(t, []api.Cell{a, b, c, {Sym: 0, Bits: 0, Base: 3}}, &whole)
					mustAgree(t, []api.Cell{a, b, c, {Sym: 1, Bits: 1, Base: 2}}, &whole)
				}
			}
		}
	}
	if whole < 20 {
		t.Fatalf("but %d of them are whole", whole)
	}
}

// mustAgree holds Whole to the chapter's words, and counts what is whole.
func mustAgree(t *testing.T, l []api.Cell, whole *int) {
	t.Helper()
	want := plainWhole(l)
	if got := Whole(l); got != want {
		t.Fatalf("Whole of %v: %v, want %v", l, got, want)
	}
	if want {
		*whole++
	}
}

// P11.1, P11.3: what lies in memory around the counts, or the cells, isn't looked at.
func TestWhatIsCutOut(t *testing.T) {
	counts := append(append(all(3, 9), example()...), all(9, 1000)...)
	mustTell(t, "what is cut out", counts[3:259], exampleCells())
	cells := slices.Concat([]api.Cell{{Sym: 2}, {Sym: 1}}, exampleCells(), []api.Cell{{Sym: 3}})
	mustBeWhole(t, "what is cut out", cells[2:10], true)
	mustStep(t, cells[2:10], 5, 3, 1, 7)
	mustNotStep(t, cells[2:10], -1, 0)
	mustNotStep(t, cells[2:10], 8, 0)
}

// R4: nil and an empty list are the same.
func TestNilAndEmpty(t *testing.T) {
	for _, q := range [][]int{nil, {}, example()[:0]} {
		mustRefuse(t, "none", q)
	}
	for _, l := range [][]api.Cell{nil, {}, exampleCells()[:0]} {
		mustBeWhole(t, "none", l, false)
		mustNotStep(t, l, 0, 0)
	}
}

// R5: what is handed in stays as it is, and so does what lies behind it.
func TestNothingHandedInIsChanged(t *testing.T) {
	for _, q := range [][]int{example(), with(0, 4096), all(256, 16), with(0, 1, 255, 1), shared(4, 11, 200, 4), all(256, 0), first(-1, 9), first(3)} {
		long := append(slices.Clone(q), 1, 2, 3, 4)
		kept := slices.Clone(long)
		Of(long[:256])
		if !slices.Equal(long, kept) {
			t.Fatalf("%v was changed to %v", kept, long)
		}
	}
	for _, l := range [][]api.Cell{exampleCells(), slices.Repeat(exampleCells(), 2), {{Bits: -1}, {Base: -1}}, {{Bits: 99}, {Base: math.MaxInt}}, {{Sym: 1, Bits: 1}, {Sym: 2}}} {
		long := append(slices.Clone(l), api.Cell{Sym: 1, Bits: 2, Base: 3})
		kept := slices.Clone(long)
		Whole(long[:len(l)])
		for x := -1; x <= len(l); x++ {
			Step(long[:len(l)], x, 0)
			Step(long[:len(l)], x, 1)
		}
		if !slices.Equal(long, kept) {
			t.Fatalf("%v was changed to %v", kept, long)
		}
	}
}

// R5: what was told hangs neither on what was handed in, nor on what is told ahead or later.
func TestAnswersAreTheirOwn(t *testing.T) {
	q := example()
	one, _ := Of(q)
	two, _ := Of(q)
	clear(q)
	clear(two)
	_ = append(two, api.Cell{Sym: 9})
	three, _ := Of(example())
	_ = append(one, make([]api.Cell, 300)...)
	if !slices.Equal(one, exampleCells()) || !slices.Equal(three, exampleCells()) {
		t.Fatalf("an answer was changed: %v, %v", one, three)
	}
	mustRefuse(t, "what was cleared", q)
}

// R6: the same arguments have the same answer, whatever was asked ahead.
func TestSameAnswerEachTime(t *testing.T) {
	great := shared(4, 11, 200, 4)
	for range 3 {
		mustTell(t, "the example", example(), exampleCells())
		mustRefuse(t, "256 zeros", all(256, 0))
		mustBeWhole(t, "both numbers twice", []api.Cell{{Bits: 1}, {Bits: 1}}, false)
		mustTell(t, "200 shared", great, plain(great, 11))
		mustBeWhole(t, "the example", exampleCells(), true)
		mustNotStep(t, exampleCells(), 5, 4)
		mustStep(t, exampleCells(), 5, 3, 1, 7)
	}
}
