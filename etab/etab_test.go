package etab

import (
	"fmt"
	"math"
	"slices"
	"sync"
	"testing"

	"puncheon/api"
	"puncheon/dtab"
	"puncheon/norm"
	"puncheon/spread"
)

// first are 256 counts, of which the first ones are written out, and all others are 0.
func first(l ...int) []int { return append(slices.Clone(l), make([]int, 256-len(l))...) }

// with are 256 zeros, but for numbers at symbols: a symbol, its number, the next symbol, and so on.
func with(placed ...int) []int {
	q := make([]int, 256)
	for i := 0; i < len(placed); i += 2 {
		q[placed[i]] = placed[i+1]
	}
	return q
}

// all are some numbers that are the same.
func all(many, number int) []int { return slices.Repeat([]int{number}, many) }

// example are the chapter's counts.
func example() []int { return first(5, 2, 1) }

// drawer tells numbers below a bound, the same ones each time for one seed.
func drawer(seed uint64) func(below int) int {
	x := seed*2862933555777941757 + 3037000493
	return func(below int) int {
		x = x*6364136223846793005 + 1442695040888963407
		return int(x>>33) % below
	}
}

// shared are normalized counts of so many symbols of the 256, one each and the rest thrown at them: the steeper, the more goes to few.
func shared(seed uint64, r, many, steep int) []int {
	q := make([]int, 256)
	draw := drawer(seed)
	var there []int
	for len(there) < many {
		if s := draw(256); q[s] == 0 {
			q[s] = 1
			there = append(there, s)
		}
	}
	for range 1<<r - many {
		to := draw(many)
		for range steep {
			to = min(to, draw(many))
		}
		q[there[to]]++
	}
	return q
}

// alike are normalized counts of so many symbols, a power of two, that all have the same, the last one at 255.
func alike(r, many int) []int {
	return slices.Concat(all(256-many, 0), all(many, 1<<r/many))
}

// halving are normalized counts of which each is half of the one ahead of it, and the last two are 1.
func halving(r int) []int {
	var l []int
	for i := range r {
		l = append(l, 1<<(r-1-i))
	}
	return first(append(l, 1)...)
}

// normalized hands over normalized counts of many kinds, of each log.
func normalized(hand func(what string, q []int, r int)) {
	for r := 1; r <= norm.MaxLog; r++ {
		size := 1 << r
		tell := func(what string, q []int) { hand(fmt.Sprintf("%s, log %d", what, r), q, r) }
		for _, s := range []int{0, 100, 255} {
			tell(fmt.Sprint(s, " alone"), with(s, size))
		}
		tell("the first and the last, halves", with(0, size/2, 255, size/2))
		tell("the first once, and the last", with(0, 1, 255, size-1))
		tell("the first, and the last once", with(0, size-1, 255, 1))
		tell("a third, and the rest", with(7, size-size/3, 9, size/3))
		tell("halving", halving(r))
		for many := 4; many <= min(size, 256); many *= 4 {
			tell(fmt.Sprint(many, " alike"), alike(r, many))
		}
		for _, many := range []int{3, 16, 100, 255, 256} {
			for steep := 0; many <= size && steep <= 8; steep += 8 {
				tell(fmt.Sprint(many, " shared, steep ", steep), shared(uint64(many), r, many, steep))
			}
		}
		if size > 256 {
			tell("all, the last one great", append(all(255, 1), size-255))
			tell("all, the first one great", append([]int{size - 255}, all(255, 1)...))
		}
	}
}

// wrongCounts are lists of numbers that are no normalized counts of any log, by what they are.
func wrongCounts() map[string][]int {
	l := map[string][]int{
		"nil":                        nil,
		"an empty list":              {},
		"one number":                 {4},
		"the example, three numbers": {5, 2, 1},
		"512 numbers":                all(512, 1),
		"8192 numbers":               all(8192, 0),
		"256 zeros":                  all(256, 0),
		"255 zeros, and 8 behind":    append(all(256, 0), 8),
		"the sum 1":                  first(1),
		"the sum 1, at last":         with(255, 1),
		"the sum 3":                  first(1, 1, 1),
		"the sum 768":                all(256, 3),
		"the sum 255":                append(all(255, 1), 0),
		"the sum 257":                append(all(255, 1), 2),
		"the sum 4095":               with(0, 4000, 255, 95),
		"the sum 4097":               with(0, 4000, 255, 97),
		"the sum 8192":               all(256, 32),
		"8192 alone":                 with(9, 8192),
		"2^32":                       with(9, 1<<32),
		"2^32 and 8":                 with(9, 1<<32, 10, 8),
		"2^62":                       with(9, 1<<62),
		"-1 first":                   first(-1, 9),
		"-1 last":                    with(0, 9, 255, -1),
		"-8 alone":                   first(-8),
		"8, -8 and 8":                first(8, -8, 8),
		"all below 0":                all(256, -1),
		"the greatest":               first(math.MaxInt),
		"the greatest, at last":      with(255, math.MaxInt),
		"the least":                  first(math.MinInt),
		"the least, at last":         with(255, math.MinInt),
		"the greatest and the least": first(math.MaxInt, math.MinInt, 9),
		"the least twice, and 8":     first(math.MinInt, math.MinInt, 8),
		"the greatest twice, and 10": first(math.MaxInt, math.MaxInt, 10),
		"four of 2^62, and 8":        first(1<<62, 1<<62, 1<<62, 1<<62, 8),
		"all the greatest":           all(256, math.MaxInt),
		"all the least":              all(256, math.MinInt),
	}
	for r := 1; r <= norm.MaxLog; r++ {
		l[fmt.Sprint("one less than log ", r+1)] = with(3, 1<<r, 4, 1<<r-1)
		l[fmt.Sprint("one more than log ", r)] = with(3, 1<<r, 255, 1)
		l[fmt.Sprint("-1 beside log ", r)] = with(3, -1, 4, 1<<r+1)
		l[fmt.Sprint("255 numbers, log ", r)] = with(3, 1<<r)[:255]
		l[fmt.Sprint("257 numbers, log ", r)] = append(with(3, 1<<r), 0)
	}
	for r := norm.MaxLog + 1; r < 63; r++ {
		l[fmt.Sprint("2 to the power ", r)] = with(0, 1<<(r-1), 255, 1<<(r-1))
	}
	return l
}

// extremes are numbers as great and as small as an int can be, and such as are small ones where only some of their bits are looked at.
func extremes() []int {
	return []int{math.MinInt, math.MinInt + 1, math.MinInt + 5, -1 << 32, -1<<32 + 5, -256, -64, -8, -2, -1, 64, 65, 256, 257, 65536, 1 << 31, 1 << 32, 1<<32 + 1, 1<<32 + 5, 1 << 62, math.MaxInt - 1, math.MaxInt}
}

// plain is a table in the chapters' words: of each symbol the places of its keys, by their i less its count, once all keys are made and put in order.
func plain(q []int) (places [256][]int) {
	var keys [][2]int // of each a symbol, and its i
	for s := range q {
		for i := q[s]; i <= 2*q[s]-1; i++ {
			keys = append(keys, [2]int{s, i})
		}
		places[s] = make([]int, q[s])
	}
	slices.SortFunc(keys, func(a, b [2]int) int {
		if c := a[1]*q[b[0]] - b[1]*q[a[0]]; c != 0 {
			return c
		}
		return a[0] - b[0]
	})
	for place, k := range keys {
		places[k[0]][k[1]-q[k[0]]] = place
	}
	return places
}

// answer is what a step answers.
type answer struct {
	next, n int
	low     uint32
	ok      bool
}

// stepped is what Step answers.
func stepped(x *Table, state int, s uint8) answer {
	next, n, low, ok := x.Step(state, s)
	return answer{next, n, low, ok}
}

// plainStep is a step from a state of a table of a log by a symbol that is there, in the chapter's words: all numbers of bits are tried, and just one may do.
func plainStep(t *testing.T, places []int, r, state int) answer {
	t.Helper()
	count, many := len(places), 0
	var a answer
	power := 1
	for n := 0; n <= r+1; n++ {
		left := (1<<r + state) / power
		if count <= left && left <= 2*count-1 {
			many++
			a = answer{places[left-count], n, uint32((1<<r + state) % power), true}
		}
		power *= 2
	}
	if many != 1 {
		t.Fatalf("count %d, log %d, state %d: %d numbers of bits do", count, r, state, many)
	}
	return a
}

// there are the symbols that have a count.
func there(q []int) (symbols []uint8) {
	for s, count := range q {
		if count > 0 {
			symbols = append(symbols, uint8(s))
		}
	}
	return symbols
}

// some are symbols that are there: all of few, and of many the first, the last, that of the greatest count, and some more.
func some(q []int) []uint8 {
	all := there(q)
	if len(all) <= 16 {
		return all
	}
	most := uint8(slices.Index(q, slices.Max(q)))
	symbols := []uint8{all[0], all[len(all)-1], most}
	draw := drawer(uint64(len(all)))
	for range 7 {
		symbols = append(symbols, all[draw(len(all))])
	}
	return symbols
}

// tableOf is a table of counts, that must be normalized.
func tableOf(t *testing.T, what string, q []int) *Table {
	t.Helper()
	x, e := New(q)
	if x == nil || e != api.OK {
		t.Fatalf("New of %s: %v %v", what, x, e)
	}
	return x
}

// mustRefuse holds New to ErrArg, and no table (R3).
func mustRefuse(t *testing.T, what string, q []int) {
	t.Helper()
	if x, e := New(q); e != api.ErrArg || x != nil {
		t.Fatalf("New of %s: %v %v, want nil and ErrArg", what, x, e)
	}
}

// mustStep holds Step to an answer.
func mustStep(t *testing.T, x *Table, state int, s uint8, want answer) {
	t.Helper()
	if got := stepped(x, state, s); got != want {
		t.Fatalf("log %d: Step from %d by %d, of count %d: %v, want %v", x.Log(), state, s, x.Count(s), got, want)
	}
}

// mustNotStep holds Step to 0, 0, 0, and false (R3).
func mustNotStep(t *testing.T, x *Table, state int, s uint8) {
	t.Helper()
	mustStep(t, x, state, s, answer{})
}

// mustTell holds Log to a log, and Count to counts.
func mustTell(t *testing.T, what string, x *Table, q []int, r int) {
	t.Helper()
	if got := x.Log(); got != r {
		t.Fatalf("%s: Log %d, want %d", what, got, r)
	}
	for s, count := range q {
		if got := x.Count(uint8(s)); got != count {
			t.Fatalf("%s: Count of %d: %d, want %d", what, s, got, count)
		}
	}
}

// mustBeTheExample holds a table to the chapter's counts, and to all of its steps, written out.
func mustBeTheExample(t *testing.T, x *Table) {
	t.Helper()
	mustTell(t, "the example", x, example(), 3)
	steps := [][]answer{
		{{6, 0, 0, true}, {7, 0, 0, true}, {0, 1, 0, true}, {0, 1, 1, true}, {3, 1, 0, true}, {3, 1, 1, true}, {4, 1, 0, true}, {4, 1, 1, true}},
		{{1, 2, 0, true}, {1, 2, 1, true}, {1, 2, 2, true}, {1, 2, 3, true}, {5, 2, 0, true}, {5, 2, 1, true}, {5, 2, 2, true}, {5, 2, 3, true}},
		{{2, 3, 0, true}, {2, 3, 1, true}, {2, 3, 2, true}, {2, 3, 3, true}, {2, 3, 4, true}, {2, 3, 5, true}, {2, 3, 6, true}, {2, 3, 7, true}},
	}
	for s, each := range steps {
		for state, want := range each {
			mustStep(t, x, state, uint8(s), want)
		}
	}
	for _, s := range []uint8{3, 4, 128, 254, 255} {
		for state := range 8 {
			mustNotStep(t, x, state, s)
		}
	}
	mustNotStep(t, x, -1, 0)
	mustNotStep(t, x, 8, 0)
}

// P12.1, P12.2: the chapter's example, all of its steps written out.
func TestExample(t *testing.T) {
	x := tableOf(t, "the example", example())
	if next, n, low, ok := x.Step(7, 1); next != 5 || n != 2 || low != 3 || !ok {
		t.Fatalf("Step from 7 by 1: %d %d %d %v, want 5 2 3 true", next, n, low, ok)
	}
	mustBeTheExample(t, x)
}

// P12.2: steps of other small tables that are written out.
func TestWrittenOut(t *testing.T) {
	both := tableOf(t, "1 and 1", with(0, 1, 255, 1))
	for state := range 2 {
		mustStep(t, both, state, 0, answer{0, 1, uint32(state), true})
		mustStep(t, both, state, 255, answer{1, 1, uint32(state), true})
	}
	// The keys of 0 are 3/3, 4/3 and 5/3, the one of 255 is 1/1.
	steep := tableOf(t, "3 and 1", with(0, 3, 255, 1))
	for state, want := range []answer{{2, 0, 0, true}, {3, 0, 0, true}, {0, 1, 0, true}, {0, 1, 1, true}} {
		mustStep(t, steep, state, 0, want)
		mustStep(t, steep, state, 255, answer{1, 2, uint32(state), true})
	}
	// The last symbol has the greatest count: its keys are 6/6 up to 11/6, those of 7 and 9 are 1/1.
	last := tableOf(t, "1, 1 and 6", with(7, 1, 9, 1, 255, 6))
	for state, want := range []answer{{4, 0, 0, true}, {5, 0, 0, true}, {6, 0, 0, true}, {7, 0, 0, true}, {2, 1, 0, true}, {2, 1, 1, true}, {3, 1, 0, true}, {3, 1, 1, true}} {
		mustStep(t, last, state, 255, want)
		mustStep(t, last, state, 7, answer{0, 3, uint32(state), true})
		mustStep(t, last, state, 9, answer{1, 3, uint32(state), true})
	}
}

// P12.1, P12.2: one symbol alone, whatever it is, leaves no bits over, and each state is its own.
func TestOneSymbolAlone(t *testing.T) {
	for s := range 256 {
		for r := 1; r <= norm.MaxLog; r++ {
			q := with(s, 1<<r)
			x := tableOf(t, fmt.Sprint(s, " alone"), q)
			mustTell(t, fmt.Sprint(s, " alone"), x, q, r)
			for _, state := range []int{0, 1, 1 << r / 3, 1 << (r - 1), 1<<r - 1} {
				mustStep(t, x, state, uint8(s), answer{state, 0, 0, true})
				mustNotStep(t, x, state, uint8(s+1))
				mustNotStep(t, x, state, uint8(s-1))
			}
		}
	}
}

// P12.1, P12.2: all symbols, alike: each leaves eight bits over, and leads to its turn among those of the bits above.
func TestAllSymbolsAlike(t *testing.T) {
	for r := 8; r <= norm.MaxLog; r++ {
		q := all(256, 1<<r/256)
		x := tableOf(t, fmt.Sprint("all alike, log ", r), q)
		mustTell(t, fmt.Sprint("all alike, log ", r), x, q, r)
		for state := 0; state < 1<<r; state += 1 + state%5 {
			for s := range 256 {
				mustStep(t, x, state, uint8(s), answer{state>>8<<8 + s, 8, uint32(state & 255), true})
			}
		}
	}
}

// P12.1: log and counts of tables of all kinds, of each log.
func TestLogAndCounts(t *testing.T) {
	logs := map[int]int{}
	normalized(func(what string, q []int, r int) {
		if log, ok := norm.Log(q); !ok || log != r {
			t.Fatalf("%s: the test's own counts are wrong: %v", what, q)
		}
		logs[r]++
		mustTell(t, what, tableOf(t, what, q), q, r)
	})
	for r := 1; r <= norm.MaxLog; r++ {
		if logs[r] < 8 {
			t.Fatalf("log %d: but %d lists", r, logs[r])
		}
	}
}

// P12.1, R1, R3: ErrArg, and no table, of whatever is no normalized counts.
func TestWrongCounts(t *testing.T) {
	for what, q := range wrongCounts() {
		mustRefuse(t, what, q)
	}
	for size := range 1<<norm.MaxLog + 200 {
		if size < 2 || size&(size-1) != 0 {
			mustRefuse(t, fmt.Sprint("the sum ", size), with(5, size-size/3, 6, size/3))
		}
	}
}

// P12.2: each state by symbols of tables of all kinds, held to the chapters' words.
func TestByTheChaptersWords(t *testing.T) {
	normalized(func(what string, q []int, r int) {
		x := tableOf(t, what, q)
		places := plain(q)
		for _, s := range some(q) {
			for state := range 1 << r {
				mustStep(t, x, state, s, plainStep(t, places[s], r, state))
			}
		}
	})
}

// P12.2: each state by each symbol that is there, of tables of all counts of four symbols, of small logs, and of some that have many symbols.
func TestEachStateByEachSymbol(t *testing.T) {
	for r := 1; r <= 4; r++ {
		size := 1 << r
		for a := range size + 1 {
			for b := range size + 1 - a {
				for c := range size + 1 - a - b {
					mustBeByWords(t, with(0, a, 1, b, 254, c, 255, size-a-b-c), r)
				}
			}
		}
	}
	for r := 8; r <= norm.MaxLog; r += 2 {
		mustBeByWords(t, shared(uint64(r), r, 256-r, 6), r)
	}
}

// mustBeByWords holds a table's answers at each state by each symbol to the chapters' words, those just beside the states too.
func mustBeByWords(t *testing.T, q []int, r int) {
	t.Helper()
	x := tableOf(t, fmt.Sprint(q), q)
	mustTell(t, fmt.Sprint(q), x, q, r)
	places := plain(q)
	for s := range 256 {
		for state := -1; state <= 1<<r; state++ {
			if state < 0 || state == 1<<r || q[s] == 0 {
				mustNotStep(t, x, state, uint8(s))
			} else {
				mustStep(t, x, state, uint8(s), plainStep(t, places[s], r, state))
			}
		}
	}
}

// P12.2: next is the place that spread tells of the key of what is left.
func TestStepsLeadWhereSpreadSays(t *testing.T) {
	normalized(func(what string, q []int, r int) {
		x := tableOf(t, what, q)
		draw := drawer(uint64(r))
		for _, s := range some(q) {
			for _, state := range []int{0, 1<<r - 1, draw(1 << r), draw(1 << r), draw(1 << r)} {
				a := stepped(x, state, s)
				place, ok := spread.Place(q, int(s), (1<<r+state)>>a.n)
				if !a.ok || !ok || a.next != place || int(a.low) != (1<<r+state)&(1<<a.n-1) {
					t.Fatalf("%s: Step from %d by %d: %v; its key stands at %d, %v", what, state, s, a, place, ok)
				}
			}
		}
	})
}

// P12.2: where the number of bits changes: the last state that leaves one bit less over, and the next one.
func TestWhereBitsChange(t *testing.T) {
	for r := 1; r <= norm.MaxLog; r++ {
		size := 1 << r
		for count := 1; count < size; count++ {
			if count > 70 && count < size-70 && count%61 != 0 {
				continue
			}
			x := tableOf(t, fmt.Sprint(count, " of ", size), with(3, count, 200, size-count))
			for n := range r + 1 {
				// Up to this state n bits are enough.
				edge := 2*count<<n - 1 - size
				for _, state := range []int{edge - 1, edge} {
					if state < 0 || state >= size || (size+state)>>n < count {
						continue
					}
					if a := stepped(x, state, 3); !a.ok || a.n != n {
						t.Fatalf("%d of %d, state %d: %v, want %d bits", count, size, state, a, n)
					}
				}
				if past := edge + 1; past >= 0 && past < size {
					if a := stepped(x, past, 3); !a.ok || a.n != n+1 || a.low != 0 {
						t.Fatalf("%d of %d, state %d: %v, want %d bits, all 0", count, size, past, a, n+1)
					}
				}
			}
		}
	}
}

// P12.2, R1, R3: from what is no state there is no answer, however great or small it is, be the symbol there or not.
func TestStepFromWhatIsNoState(t *testing.T) {
	normalized(func(what string, q []int, r int) {
		x := tableOf(t, what, q)
		size := 1 << r
		wrong := append(extremes(), -1, -2, -size, -size-1, -2*size, size, size+1, 2*size-1, 2*size, 4096, 8192, math.MaxInt-size, math.MaxInt-size+1, math.MinInt+size)
		for _, state := range wrong {
			if state >= 0 && state < size {
				continue
			}
			for _, s := range append(some(q), 0, 1, 128, 255) {
				mustNotStep(t, x, state, s)
			}
		}
	})
}

// P12.2, R3: by a symbol that isn't there no state has an answer.
func TestStepByWhatIsNotThere(t *testing.T) {
	normalized(func(what string, q []int, r int) {
		x := tableOf(t, what, q)
		for s, count := range q {
			for _, state := range []int{0, 1, 1<<r - 1, 1 << (r - 1)} {
				if got := stepped(x, state, uint8(s)); got.ok != (count > 0) || count == 0 && got != (answer{}) {
					t.Fatalf("%s: Step from %d by %d, of count %d: %v", what, state, s, count, got)
				}
			}
		}
	})
}

// cellsOf are the cells of counts, that must be normalized.
func cellsOf(t *testing.T, what string, q []int) []api.Cell {
	t.Helper()
	l, e := dtab.Of(q)
	if e != api.OK {
		t.Fatalf("dtab.Of %s: %v", what, e)
	}
	return l
}

// P12.3: decoded, a step tells its symbol and its state.
func TestDecodedItTellsSymbolAndState(t *testing.T) {
	normalized(func(what string, q []int, r int) {
		x, l := tableOf(t, what, q), cellsOf(t, what, q)
		for _, symbol := range some(q) {
			for state := range 1 << r {
				a := stepped(x, state, symbol)
				s, back, ok := dtab.Step(l, a.next, a.low)
				if !ok || s != symbol || back != state || l[a.next].Bits != a.n {
					t.Fatalf("%s: Step from %d by %d: %v, decoded to %d, %d, %v", what, state, symbol, a, s, back, ok)
				}
			}
		}
	})
}

// P12.3: the other way round: what a cell decodes to is encoded to the cell and the bits that came.
func TestEncodedItTellsCellAndBits(t *testing.T) {
	normalized(func(what string, q []int, r int) {
		x, l := tableOf(t, what, q), cellsOf(t, what, q)
		for at, c := range l {
			past := uint32(1) << c.Bits
			for more := uint32(0); more < past; more += 1 + more/4 {
				for _, low := range []uint32{more, past - 1 - more} {
					s, state, ok := dtab.Step(l, at, low)
					if !ok {
						t.Fatalf("%s: cell %d with %d: no answer", what, at, low)
					}
					mustStep(t, x, state, s, answer{at, c.Bits, low, true})
				}
			}
		}
	})
}

// P12.3: no step costs more than the bound.
func TestNoStepCostsMore(t *testing.T) {
	normalized(func(what string, q []int, r int) {
		x := tableOf(t, what, q)
		size, many := 1<<r, len(there(q))
		for _, s := range some(q) {
			for state := range size {
				a := stepped(x, state, s)
				left := (size + state) >> a.n
				if !a.ok || left < q[s] || left >= 2*q[s] || (size+a.next)*q[s] > left*(size+many-1) {
					t.Fatalf("%s: Step from %d by %d: %v, of %d left", what, state, s, a, left)
				}
			}
		}
	})
}

// P12.2, P12.3: step behind step, symbols go into bits, and come back out of them, the last one first.
func TestManySymbolsThereAndBack(t *testing.T) {
	normalized(func(what string, q []int, r int) {
		x, l := tableOf(t, what, q), cellsOf(t, what, q)
		symbols := there(q)
		draw := drawer(uint64(r))
		var put []answer
		var in []uint8
		state := 0
		for range 300 {
			s := symbols[draw(len(symbols))]
			a := stepped(x, state, s)
			if !a.ok || a.low >= 1<<a.n {
				t.Fatalf("%s: Step from %d by %d: %v", what, state, s, a)
			}
			in, put, state = append(in, s), append(put, a), a.next
		}
		for i := len(put) - 1; i >= 0; i-- {
			s, next, ok := dtab.Step(l, state, put[i].low)
			if !ok || s != in[i] {
				t.Fatalf("%s: symbol %d is %d, decoded to %d, %v", what, i, in[i], s, ok)
			}
			state = next
		}
		if state != 0 {
			t.Fatalf("%s: back at %d", what, state)
		}
	})
}

// P12.1, P12.2: what lies in memory around the counts isn't looked at.
func TestWhatIsCutOut(t *testing.T) {
	counts := append(append(all(3, 9), example()...), all(9, 1000)...)
	mustBeTheExample(t, tableOf(t, "what is cut out", counts[3:259]))
}

// R4: nil and an empty list are the same.
func TestNilAndEmpty(t *testing.T) {
	for _, q := range [][]int{nil, {}, example()[:0]} {
		mustRefuse(t, "none", q)
	}
}

// R5: what is handed in stays as it is, and so does what lies behind it.
func TestNothingHandedInIsChanged(t *testing.T) {
	for _, q := range [][]int{example(), with(0, 4096), all(256, 16), with(0, 1, 255, 1), shared(4, 11, 200, 4), all(256, 0), first(-1, 9), first(3)} {
		long := append(slices.Clone(q), 1, 2, 3, 4)
		kept := slices.Clone(long)
		if x, e := New(long[:256]); e == api.OK {
			for s := range 256 {
				x.Count(uint8(s))
				x.Step(0, uint8(s))
				x.Step(1, uint8(s))
			}
			x.Log()
		}
		if !slices.Equal(long, kept) {
			t.Fatalf("%v was changed to %v", kept, long)
		}
	}
}

// R5: counts that are changed behind New play no part any more.
func TestCountsAreNotKept(t *testing.T) {
	for _, other := range [][]int{all(256, 0), all(256, 16), first(1, 2, 5), with(0, 4096), all(256, -1), all(256, math.MaxInt)} {
		q := example()
		x := tableOf(t, "the example", q)
		copy(q, other)
		mustBeTheExample(t, x)
	}
	// The same memory, used again for another table.
	q := make([]int, 256)
	var tables []*Table
	var lists [][]int
	normalized(func(what string, counts []int, r int) {
		copy(q, counts)
		tables = append(tables, tableOf(t, what, q))
		lists = append(lists, slices.Clone(counts))
	})
	for i, x := range tables {
		r, _ := norm.Log(lists[i])
		mustTell(t, fmt.Sprint("table ", i), x, lists[i], r)
		places := plain(lists[i])
		for _, s := range some(lists[i]) {
			for _, state := range []int{0, 1<<r - 1} {
				mustStep(t, x, state, s, plainStep(t, places[s], r, state))
			}
		}
	}
}

// R5, R6: two tables play no part in each other, be they of the same counts or of others.
func TestTablesAreTheirOwn(t *testing.T) {
	q := example()
	one := tableOf(t, "the example", q)
	two := tableOf(t, "the example", q)
	other := first(1, 5, 0, 2)
	three := tableOf(t, "another one", other)
	places := plain(other)
	for range 3 {
		mustBeTheExample(t, one)
		for state := range 8 {
			for _, s := range there(other) {
				mustStep(t, three, state, s, plainStep(t, places[s], 3, state))
			}
			mustNotStep(t, three, state, 2)
			mustNotStep(t, two, state, 3)
		}
		mustBeTheExample(t, two)
		mustTell(t, "another one", three, other, 3)
	}
}

// P12.2, R6: asked again a table answers the same, whatever was asked ahead.
func TestSameAnswerEachTime(t *testing.T) {
	great := shared(4, 11, 200, 4)
	x, again := tableOf(t, "200 shared", great), tableOf(t, "200 shared", great)
	one := tableOf(t, "the example", example())
	symbols := some(great)
	ask := func(state int) (l []answer) {
		for _, s := range symbols {
			l = append(l, stepped(x, state, s))
		}
		return l
	}
	var firstTime [][]answer
	for state := range 1 << 11 {
		firstTime = append(firstTime, ask(state))
	}
	for state := 1<<11 - 1; state >= 0; state-- {
		mustNotStep(t, x, -1-state, symbols[0])
		mustNotStep(t, x, 1<<11+state, symbols[0])
		if !slices.Equal(ask(state), firstTime[state]) {
			t.Fatalf("state %d: %v ahead, and %v now", state, firstTime[state], ask(state))
		}
		for i, s := range symbols {
			mustStep(t, again, state, s, firstTime[state][i])
		}
	}
	mustTell(t, "200 shared", x, great, 11)
	for range 3 {
		mustRefuse(t, "256 zeros", all(256, 0))
		mustBeTheExample(t, one)
	}
}

// R6: a table may be asked by two at a time: it isn't among what may not.
func TestAskedByTwoAtATime(t *testing.T) {
	x := tableOf(t, "the example", example())
	want := map[uint8]answer{0: {4, 1, 1, true}, 1: {5, 2, 3, true}, 2: {2, 3, 7, true}, 3: {}}
	var wrong [8]int
	var wait sync.WaitGroup
	for i := range wrong {
		wait.Go(func() {
			for range 2000 {
				for s, a := range want {
					if stepped(x, 7, s) != a || x.Log() != 3 || x.Count(1) != 2 {
						wrong[i]++
					}
				}
			}
		})
	}
	wait.Wait()
	if wrong != [8]int{} {
		t.Fatalf("so many wrong answers: %v", wrong)
	}
}
