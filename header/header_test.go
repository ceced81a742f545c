package header

import (
	"bytes"
	"fmt"
	"math"
	"slices"
	"testing"

	"puncheon/api"
	"puncheon/bitf"
	"puncheon/bitw"
	"puncheon/norm"
)

// first are 256 counts, of which the first ones are written out, and all others are 0.
func first(l ...int) []int { return append(slices.Clone(l), make([]int, 256-len(l))...) }

// with are 256 zeros, but for numbers at symbols: a symbol, its number, the next symbol, and so on.
func with(placed ...int) []int {
	q := make([]int, 256)
	for i := 0; i < len(placed); i += 2 {
		q[placed[i]] = placed[i+1]
	}
	return q
}

// all are some numbers that are the same.
func all(many, number int) []int { return slices.Repeat([]int{number}, many) }

// example are the chapter's counts.
func example() []int { return first(0, 0, 32) }

// exampleBits are their bits.
func exampleBits() []int {
	return []int{0, 0, 0, 0, 0, 0, 1, 0, 0, 0, 0, 0, 0, 1}
}

// drawer draws numbers from 0 to below a bound, the same ones each time for a seed.
func drawer(seed uint64) func(bound int) int {
	x := seed*2862933555777941757 + 3037000493
	return func(bound int) int {
		x = x*6364136223846793005 + 1442695040888963407
		return int(x>>33) % bound
	}
}

// shared are normalized counts of so many symbols of the 256, one each and the rest thrown at them: the steeper, the more goes to few.
func shared(seed uint64, r, many, steep int) []int {
	q := make([]int, 256)
	draw := drawer(seed)
	var there []int
	for len(there) < many {
		if s := draw(256); q[s] == 0 {
			q[s] = 1
			there = append(there, s)
		}
	}
	for range 1<<r - many {
		to := draw(many)
		for range steep {
			to = min(to, draw(many))
		}
		q[there[to]]++
	}
	return q
}

// halving are normalized counts of which each is half of the one ahead of it, and the last two are 1.
func halving(r int) []int {
	var l []int
	for i := range r {
		l = append(l, 1<<(r-1-i))
	}
	return first(append(l, 1)...)
}

// turns are normalized counts of which every other one is 0, from the first or the second on, each of the others 1, but for the last one that has the rest.
func turns(r, from int) []int {
	q := make([]int, 256)
	left, last := 1<<r, from
	for s := from; s < 256 && left > 0; s += 2 {
		q[s], last = 1, s
		left--
	}
	q[last] += left
	return q
}

// normalized hands over normalized counts of many kinds, of each log.
func normalized(hand func(what string, q []int, r int)) {
	for r := 1; r <= norm.MaxLog; r++ {
		size := 1 << r
		tell := func(what string, q []int) { hand(fmt.Sprintf("%s, log %d", what, r), q, r) }
		for _, s := range []int{0, 1, 2, 3, 4, 5, 100, 253, 254, 255} {
			tell(fmt.Sprint(s, " alone"), with(s, size))
		}
		for _, zeros := range []int{0, 1, 2, 3, 4, 6, 98, 99, 100, 251, 252, 253, 254} {
			tell(fmt.Sprint("the first once, and ", zeros, " zeros behind it"), with(0, 1, zeros+1, size-1))
			tell(fmt.Sprint("the last, and ", zeros, " zeros ahead of it"), with(254-zeros, size-1, 255, 1))
		}
		tell("the first and the last, halves", with(0, size/2, 255, size/2))
		tell("the last but one and the last", with(254, size-1, 255, 1))
		tell("a third, and the rest", with(7, size-size/3, 9, size/3))
		tell("halving", halving(r))
		tell("in turns with zeros, a zero first", turns(r, 1))
		tell("in turns with zeros, a zero last", turns(r, 0))
		for many := 2; many <= min(size, 256); many *= 2 {
			tell(fmt.Sprint("the first ", many, ", alike"), append(all(many, size/many), all(256-many, 0)...))
			tell(fmt.Sprint("the last ", many, ", alike"), append(all(256-many, 0), all(many, size/many)...))
		}
		for _, many := range []int{3, 16, 100, 200, 255, 256} {
			for steep := 0; many <= size && steep <= 8; steep += 8 {
				tell(fmt.Sprint(many, " shared, steep ", steep), shared(uint64(many), r, many, steep))
			}
		}
		if size > 256 {
			tell("all, the last one great", append(all(255, 1), size-255))
			tell("all, the first one great", append([]int{size - 255}, all(255, 1)...))
			tell("all but the first, the last one great", append(append([]int{0}, all(254, 1)...), size-254))
			tell("all but the last but one", append(all(254, 1), 0, size-254))
		}
	}
}

// small hands over all counts of four symbols, of small logs: the first ones, such as have zeros between, and the last ones.
func small(hand func(q []int, r int)) {
	for _, at := range [][4]int{{0, 1, 2, 3}, {0, 3, 4, 255}, {1, 6, 254, 255}, {252, 253, 254, 255}} {
		for r := 1; r <= 3; r++ {
			size := 1 << r
			for a := range size + 1 {
				for b := range size - a + 1 {
					for c := range size - a - b + 1 {
						hand(with(at[0], a, at[1], b, at[2], c, at[3], size-a-b-c), r)
					}
				}
			}
		}
	}
}

// wrongCounts are lists of numbers that are no normalized counts of any log, by what they are.
func wrongCounts() map[string][]int {
	l := map[string][]int{
		"nil":                        nil,
		"an empty list":              {},
		"one number":                 {4},
		"the example, three numbers": {0, 0, 32},
		"512 numbers":                all(512, 1),
		"8192 numbers":               all(8192, 0),
		"256 zeros":                  all(256, 0),
		"255 zeros, and 8 behind":    append(all(256, 0), 8),
		"the sum 1":                  first(1),
		"the sum 1, at last":         with(255, 1),
		"the sum 3":                  first(1, 1, 1),
		"the sum 768":                all(256, 3),
		"the sum 255":                append(all(255, 1), 0),
		"the sum 257":                append(all(255, 1), 2),
		"the sum 4095":               with(0, 4000, 255, 95),
		"the sum 4097":               with(0, 4000, 255, 97),
		"the sum 8192":               all(256, 32),
		"8192 alone":                 with(9, 8192),
		"2^32":                       with(9, 1<<32),
		"2^32 and 8":                 with(9, 1<<32, 10, 8),
		"2^62":                       with(9, 1<<62),
		"-1 first":                   first(-1, 9),
		"-1 last":                    with(0, 9, 255, -1),
		"-8 alone":                   first(-8),
		"8, -8 and 8":                first(8, -8, 8),
		"all below 0":                all(256, -1),
		"the greatest":               first(math.MaxInt),
		"the greatest, at last":      with(255, math.MaxInt),
		"the least":                  first(math.MinInt),
		"the least, at last":         with(255, math.MinInt),
		"the greatest and the least": first(math.MaxInt, math.MinInt, 9),
		"the least twice, and 8":     first(math.MinInt, math.MinInt, 8),
		"the greatest twice, and 10": first(math.MaxInt, math.MaxInt, 10),
		"four of 2^62, and 8":        first(1<<62, 1<<62, 1<<62, 1<<62, 8),
		"all the greatest":           all(256, math.MaxInt),
		"all the least":              all(256, math.MinInt),
	}
	for r := 1; r <= norm.MaxLog; r++ {
		l[fmt.Sprint("one less than log ", r+1)] = with(3, 1<<r, 4, 1<<r-1)
		l[fmt.Sprint("one more than log ", r)] = with(3, 1<<r, 255, 1)
		l[fmt.Sprint("-1 beside log ", r)] = with(3, -1, 4, 1<<r+1)
		l[fmt.Sprint("255 numbers, log ", r)] = with(3, 1<<r)[:255]
		l[fmt.Sprint("257 numbers, log ", r)] = append(with(3, 1<<r), 0)
	}
	for r := norm.MaxLog + 1; r < 63; r++ {
		l[fmt.Sprint("2 to the power ", r)] = with(0, 1<<(r-1), 255, 1<<(r-1))
	}
	return l
}

// wrongLogs are no logs, as great and as small as an int can be among them, and such as are logs where only some of their bits are looked at.
func wrongLogs() []int {
	return []int{0, -1, -2, -5, -12, -64, -256, math.MinInt32, -1<<32 + 5, math.MinInt + 5, math.MinInt + 1, math.MinInt, norm.MaxLog + 1, norm.MaxLog + 2, 31, 32, 62, 63, 64, 65, 69, 256, 261, 1 << 16, 1<<32 + 5, 1 << 62, math.MaxInt - 1, math.MaxInt}
}

// plainBits are the lowest bits of a number, so many of them, the lowest one first.
func plainBits(n, many int) []int {
	var out []int
	for range many {
		out = append(out, n%2)
		n /= 2
	}
	return out
}

// plainNumber is the number that bits are.
func plainNumber(bits []int) int {
	n, worth := 0, 1
	for _, x := range bits {
		n += x * worth
		worth *= 2
	}
	return n
}

// plainWidth is how many bits a number has.
func plainWidth(n int) int {
	many := 0
	for ; n > 0; n /= 2 {
		many++
	}
	return many
}

// count are the bits of a count, so much being left.
func count(n, left int) []int { return plainBits(n, plainWidth(left)) }

// zeros are the bits of a number of zeros: as often as 3 goes into it, a 3, and then what is left.
func zeros(n int) []int {
	return append(all(n/3*2, 1), plainBits(n%3, 2)...)
}

// plainPut are the bits of normalized counts, in the chapter's words.
func plainPut(q []int) []int {
	left := 0
	for _, n := range q {
		left += n
	}
	var bits []int
	for next := 0; left > 0; {
		n := q[next]
		bits = append(bits, count(n, left)...)
		left -= n
		next++
		if n > 0 {
			continue
		}
		many := 0
		for q[next] == 0 {
			many++
			next++
		}
		bits = append(bits, zeros(many)...)
	}
	return bits
}

// plainTake is what comes of bits, in the chapters' words, and how many of them are taken.
func plainTake(bits []int, log int) (q []int, e api.Errno, gone int) {
	if log < 1 || log > 12 {
		return nil, api.ErrArg, 0
	}
	q = make([]int, 256)
	left, next, behindZeros := 1<<log, 0, false
	for left > 0 {
		if next == 256 {
			return nil, api.ErrHeader, gone
		}
		many := plainWidth(left)
		if len(bits)-gone < many {
			return nil, api.ErrShort, gone
		}
		n := plainNumber(bits[gone : gone+many])
		gone += many
		if n > left || n == 0 && behindZeros {
			return nil, api.ErrHeader, gone
		}
		q[next] = n
		left -= n
		next++
		behindZeros = n == 0
		if n > 0 {
			continue
		}
		if next == 256 {
			return nil, api.ErrHeader, gone
		}
		zeros, e, taken := plainZeros(bits[gone:], 255-next)
		gone += taken
		if e != api.OK {
			return nil, e, gone
		}
		next += zeros
	}
	return q, api.OK, gone
}

// plainZeros is what number of zeros comes of bits, in chapter 14's words, and how many of them are taken.
func plainZeros(bits []int, most int) (n int, e api.Errno, gone int) {
	for {
		if len(bits)-gone < 2 {
			return 0, api.ErrShort, gone
		}
		pair := plainNumber(bits[gone : gone+2])
		gone += 2
		n += pair
		if n > most {
			return 0, api.ErrHeader, gone
		}
		if pair != 3 {
			return n, api.OK, gone
		}
	}
}

// filled are bits and as many 0s as fill the last byte.
func filled(bits []int) []int {
	return append(slices.Clone(bits), all((8-len(bits)%8)%8, 0)...)
}

// packed are bits as bytes, filled up with 0s.
func packed(bits []int) []byte {
	out := make([]byte, 0)
	for part := range slices.Chunk(filled(bits), 8) {
		out = append(out, byte(plainNumber(part)))
	}
	return out
}

// unpacked are all bits of bytes, one to an item.
func unpacked(b []byte) []int {
	var out []int
	for _, x := range b {
		out = append(out, plainBits(int(x), 8)...)
	}
	return out
}

// ahead are bits that already stand where counts are put: none, and such that they begin at each place of a byte.
func ahead() [][]int {
	var l [][]int
	for many := range 9 {
		l = append(l, all(many, 1))
	}
	return append(l, all(8, 0), slices.Repeat([]int{1, 0, 0}, 7))
}

// behind are bits that stand behind counts: none, few, and many.
func behind() [][]int {
	return [][]int{nil, {0}, {1}, {0, 1}, {1, 1, 1}, {0, 1, 1, 0, 1, 0, 0, 0, 1, 1, 1}, all(40, 0), all(300, 1)}
}

// writerOf is one in which these bits stand.
func writerOf(bits []int) *bitw.Writer {
	w := bitw.New()
	for _, x := range bits {
		w.Put(uint32(x), 1)
	}
	return w
}

// readerOf is one of just these bits: as many as don't fill a byte are laid ahead of them, and taken.
func readerOf(t *testing.T, bits ...[]int) *bitf.Reader {
	t.Helper()
	all := slices.Concat(bits...)
	ahead := (8 - len(all)%8) % 8
	r := bitf.New(packed(append(slices.Repeat([]int{1}, ahead), all...)))
	if _, ok := r.Take(ahead); !ok || r.Left() != len(all) {
		t.Fatalf("a reader of %d bits has %d", len(all), r.Left())
	}
	return r
}

// mustPut puts what may be put, and holds Cost and how many bits came to the chapter's words.
func mustPut(t *testing.T, w *bitw.Writer, what string, q []int) {
	t.Helper()
	ahead, kept := w.Bits(), slices.Clone(q)
	if !Put(w, q) {
		t.Fatalf("Put of %s is refused", what)
	}
	bits := len(plainPut(q))
	if w.Bits() != ahead+bits {
		t.Fatalf("Put of %s: %d bits, want %d", what, w.Bits()-ahead, bits)
	}
	if cost := Cost(q); cost != bits {
		t.Fatalf("Cost of %s: %d, want %d", what, cost, bits)
	}
	if !slices.Equal(q, kept) {
		t.Fatalf("Put or Cost changes %s", what)
	}
}

// mustRefuse puts what may not be put: nothing is done, and it costs nothing.
func mustRefuse(t *testing.T, w *bitw.Writer, what string, q []int) {
	t.Helper()
	kept := slices.Clone(q)
	bits, ahead, closed := w.Bits(), w.Bytes(), w.Close()
	if Put(w, q) {
		t.Fatalf("Put of %s is true", what)
	}
	if w.Bits() != bits || !bytes.Equal(w.Bytes(), ahead) || !bytes.Equal(w.Close(), closed) {
		t.Fatalf("Put of %s is refused, but changes what was put", what)
	}
	if cost := Cost(q); cost != 0 {
		t.Fatalf("Cost of %s: %d, want 0", what, cost)
	}
	if !slices.Equal(q, kept) {
		t.Fatalf("Put or Cost changes %s", what)
	}
}

// mustStand holds all that stands in a writer to bits.
func mustStand(t *testing.T, w *bitw.Writer, what string, want []int) {
	t.Helper()
	if w.Bits() != len(want) || !bytes.Equal(w.Bytes(), packed(want)) {
		t.Fatalf("%s: %d bits %v, want %v", what, w.Bits(), unpacked(w.Bytes()), want)
	}
}

// mustTake takes counts, and as many bits as are wanted.
func mustTake(t *testing.T, r *bitf.Reader, what string, log int, want []int, bits int) {
	t.Helper()
	ahead := r.Left()
	q, e := Take(r, log)
	if e != api.OK || !slices.Equal(q, want) {
		t.Fatalf("Take of %s, log %d: %v, error %d, want %v", what, log, q, e, want)
	}
	if r.Left() != ahead-bits {
		t.Fatalf("Take of %s, log %d, takes %d bits, want %d", what, log, ahead-r.Left(), bits)
	}
}

// mustFail takes an error and no counts, and as many bits as are wanted.
func mustFail(t *testing.T, r *bitf.Reader, what string, log int, want api.Errno, bits int) {
	t.Helper()
	ahead := r.Left()
	q, e := Take(r, log)
	if e != want || len(q) != 0 {
		t.Fatalf("Take of %s, log %d: %v, error %d, want error %d", what, log, q, e, want)
	}
	if r.Left() != ahead-bits {
		t.Fatalf("Take of %s, log %d, takes %d bits, want %d", what, log, ahead-r.Left(), bits)
	}
}

// mustTakeByWords takes what comes of bits in the chapter's words, and holds those that stay to the rest of them; it tells the counts, and how many bits were taken.
func mustTakeByWords(t *testing.T, what string, bits []int, log int) ([]int, int) {
	t.Helper()
	want, e, gone := plainTake(bits, log)
	r := readerOf(t, bits)
	if e == api.OK {
		mustTake(t, r, what, log, want, gone)
	} else {
		mustFail(t, r, what, log, e, gone)
	}
	mustHave(t, r, what, bits[gone:])
	return want, gone
}

// mustHave holds all bits that stay to those that are wanted.
func mustHave(t *testing.T, r *bitf.Reader, what string, want []int) {
	t.Helper()
	if r.Left() != len(want) {
		t.Fatalf("%s: %d bits stay, want %d", what, r.Left(), len(want))
	}
	for i, x := range want {
		if v, ok := r.Take(1); !ok || int(v) != x {
			t.Fatalf("%s: bit %d of those that stay: %d, %v, want %d", what, i, v, ok, x)
		}
	}
}

// mustEnd holds what is left to what fills the last byte of what was put.
func mustEnd(t *testing.T, r *bitf.Reader, w *bitw.Writer) {
	t.Helper()
	if r.Left() > 7 || r.Left() != 8*len(w.Bytes())-w.Bits() {
		t.Fatalf("%d bits are left behind %d", r.Left(), w.Bits())
	}
	mustHave(t, r, "the filling", make([]int, r.Left()))
}

// P15.1, P15.2: the chapter's example.
func TestExample(t *testing.T) {
	w := bitw.New()
	mustPut(t, w, "the example", example())
	mustStand(t, w, "the example", exampleBits())
	if n := Cost(example()); n != 14 {
		t.Errorf("Cost: %d, want 14", n)
	}
	mustTake(t, readerOf(t, exampleBits()), "the example", 5, example(), 14)
}

// P15.1, P15.2: counts whose bits are written out by hand.
func TestWrittenOut(t *testing.T) {
	for _, x := range []struct {
		q    []int
		log  int
		bits []int
	}{
		{first(2), 1, []int{0, 1}},
		{first(0, 2), 1, []int{0, 0, 0, 0, 0, 1}},
		{first(0, 0, 2), 1, []int{0, 0, 1, 0, 0, 1}},
		{first(0, 0, 0, 2), 1, []int{0, 0, 0, 1, 0, 1}},
		{first(0, 0, 0, 0, 2), 1, []int{0, 0, 1, 1, 0, 0, 0, 1}},
		{first(1, 1), 1, []int{1, 0, 1}},
		{first(1, 0, 1), 1, []int{1, 0, 0, 0, 0, 1}},
		{first(0, 1, 0, 1), 1, []int{0, 0, 0, 0, 1, 0, 0, 0, 0, 1}},
		{first(1, 0, 0, 0, 0, 0, 0, 0, 1), 1, []int{1, 0, 0, 1, 1, 1, 1, 0, 0, 1}},
		{first(4), 2, []int{0, 0, 1}},
		{first(1, 3), 2, []int{1, 0, 0, 1, 1}},
		{first(3, 1), 2, []int{1, 1, 0, 1}},
		{first(1, 1, 1, 1), 2, []int{1, 0, 0, 1, 0, 1, 0, 1}},
		{first(5, 2, 1), 3, []int{1, 0, 1, 0, 0, 1, 1}},
		{first(4096), 12, []int{0, 0, 0, 0, 0, 0, 0, 0, 0, 0, 0, 0, 1}},
		{first(2048, 0, 2048), 12, []int{0, 0, 0, 0, 0, 0, 0, 0, 0, 0, 0, 1, 0, 0, 0, 0, 0, 0, 0, 0, 0, 0, 0, 0, 0, 0, 0, 0, 0, 0, 0, 0, 0, 0, 0, 0, 0, 0, 1}},
		{with(255, 2), 1, slices.Concat([]int{0, 0}, all(168, 1), []int{0, 1}, []int{0, 1})},
		{with(254, 2), 1, slices.Concat([]int{0, 0}, all(168, 1), []int{1, 0}, []int{0, 1})},
		{with(0, 1, 255, 1), 1, slices.Concat([]int{1, 0}, []int{0}, all(168, 1), []int{1, 0}, []int{1})},
	} {
		what := fmt.Sprint(x.bits)
		w := bitw.New()
		mustPut(t, w, what, x.q)
		mustStand(t, w, what, x.bits)
		mustTake(t, readerOf(t, x.bits), what, x.log, x.q, len(x.bits))
	}
}

// P15.1: how many bits counts take, told by hand.
func TestCostWrittenOut(t *testing.T) {
	for i, x := range []struct {
		q    []int
		want int
	}{
		{first(2), 2},
		{first(32), 6},
		{first(4096), 13},
		{with(255, 4096), 13 + 2*85 + 13},
		{with(255, 2), 2 + 2*85 + 2},
		{with(0, 1, 255, 1), 2 + 1 + 2*85 + 1},
		{first(0, 4), 3 + 2 + 3},
		{first(3, 0, 0, 0, 0, 1), 3 + 1 + 4 + 1},
		{all(256, 1), 9 + 128*8 + 64*7 + 32*6 + 16*5 + 8*4 + 4*3 + 2*2 + 1},
		{append(all(255, 1), 4096-255), 13 + 255*12},
		{append(append([]int{0}, all(254, 1)...), 4096-254), 13 + 2 + 13 + 254*12},
		{turns(12, 1), 13 + 2 + 13 + 127*(12+2+12)},
	} {
		if n := Cost(x.q); n != x.want {
			t.Errorf("%d: %d, want %d", i, n, x.want)
		}
	}
}

// P15.1: counts of all kinds, of each log, held to the chapter's words, behind nothing and behind bits that were put ahead.
func TestPutByTheChaptersWords(t *testing.T) {
	for _, bits := range ahead() {
		normalized(func(what string, q []int, r int) {
			w := writerOf(bits)
			mustPut(t, w, what, q)
			mustStand(t, w, what, slices.Concat(bits, plainPut(q)))
		})
	}
}

// P15.1, P15.2: all counts of four symbols, of small logs.
func TestAllOfFourSymbols(t *testing.T) {
	small(func(q []int, r int) {
		what := fmt.Sprint(q)
		w := bitw.New()
		mustPut(t, w, what, q)
		mustStand(t, w, what, plainPut(q))
		mustTake(t, readerOf(t, plainPut(q)), what, r, q, w.Bits())
	})
}

// P15.1: one symbol alone, whatever it is: its zeros, and all that is left.
func TestOneSymbolAlone(t *testing.T) {
	for r := 1; r <= norm.MaxLog; r++ {
		size := 1 << r
		for s := range 256 {
			want := count(size, size)
			if s > 0 {
				want = slices.Concat(count(0, size), zeros(s-1), count(size, size))
			}
			what := fmt.Sprintf("%d alone, log %d", s, r)
			w := bitw.New()
			mustPut(t, w, what, with(s, size))
			mustStand(t, w, what, want)
			mustTake(t, readerOf(t, want), what, r, with(s, size), len(want))
		}
	}
}

// P15.1: nothing is written of the zeros behind the last count that isn't 0, wherever that is.
func TestNothingOfTheZerosAtTheEnd(t *testing.T) {
	for last := range 256 {
		what := fmt.Sprint(last, " is the last one")
		q := first(append(all(last, 1), 4096-last)...)
		var want []int
		for s := range last {
			want = append(want, count(1, 4096-s)...)
		}
		want = append(want, count(4096-last, 4096-last)...)
		w := bitw.New()
		mustPut(t, w, what, q)
		mustStand(t, w, what, want)
		mustTake(t, readerOf(t, want), what, 12, q, len(want))
	}
}

// P15.1: each number of zeros between two symbols, at the beginning and at the end.
func TestZerosBetween(t *testing.T) {
	for many := 1; many < 255; many++ {
		what := fmt.Sprint(many, " zeros between")
		for _, at := range []int{0, 254 - many} {
			q := with(at, 3, at+many+1, 5)
			var want []int
			if at > 0 {
				want = slices.Concat(count(0, 8), zeros(at-1))
			}
			want = slices.Concat(want, count(3, 8), count(0, 5), zeros(many-1), count(5, 5))
			w := bitw.New()
			mustPut(t, w, what, q)
			mustStand(t, w, what, want)
			mustTake(t, readerOf(t, want), what, 3, q, len(want))
		}
	}
}

// P15.1: counts behind each other stand behind each other.
func TestPutBehindEachOther(t *testing.T) {
	w := bitw.New()
	var want []int
	normalized(func(what string, q []int, r int) {
		mustPut(t, w, what, q)
		want = append(want, plainPut(q)...)
	})
	mustStand(t, w, "all behind each other", want)
}

// P15.1, R1, R4: what are no normalized counts is refused, and costs nothing; nothing is done.
func TestPutRefuses(t *testing.T) {
	for _, bits := range ahead() {
		w := writerOf(bits)
		for what, q := range wrongCounts() {
			mustRefuse(t, w, what, q)
		}
		mustStand(t, w, "what was ahead", bits)
		mustPut(t, w, "the example", example())
		mustStand(t, w, "the example", append(bits, exampleBits()...))
	}
}

// P15.1: one number that isn't right, wherever it is, is refused.
func TestPutRefusesOneWrong(t *testing.T) {
	w := bitw.New()
	for s := range 256 {
		for _, wrong := range []int{-1, -2, -4096, math.MinInt, math.MaxInt, 1 << 32, 1<<32 + 2, 4, 0, 3, 1} {
			q := all(256, 2)
			q[s] = wrong
			mustRefuse(t, w, fmt.Sprintf("256 of 2, but for %d at %d", wrong, s), q)
		}
		mustRefuse(t, w, fmt.Sprint(s, " of 1"), first(1, 1, 1, 1, 1, 1)[:s])
	}
	mustStand(t, w, "nothing", nil)
}

// P15.2, P15.3: counts of all kinds, of a reader of just their bits and of one of more; what is behind them stays.
func TestTakeOfJustSoManyBitsAndMore(t *testing.T) {
	for _, more := range behind() {
		normalized(func(what string, q []int, r int) {
			bits := plainPut(q)
			reader := readerOf(t, bits, more)
			mustTake(t, reader, what, r, q, len(bits))
			mustHave(t, reader, what, more)
		})
	}
}

// P15.2: with another log than theirs there are never these counts, but what comes in the chapter's words.
func TestTakeWithAnotherLog(t *testing.T) {
	normalized(func(what string, q []int, r int) {
		for log := 1; log <= norm.MaxLog; log++ {
			for _, more := range [][]int{nil, {1}, all(1000, 1)} {
				got, _ := mustTakeByWords(t, what, append(plainPut(q), more...), log)
				if log != r && slices.Equal(got, q) {
					t.Fatalf("%s: with log %d they are the same", what, log)
				}
			}
		}
	})
}

// P15.2, R1: what is no log is ErrArg, of a reader that has bits and of one that has none; none are taken.
func TestTakeErrArg(t *testing.T) {
	for _, b := range [][]byte{nil, {}, {0}, {2}, {255}, packed(exampleBits()), bytes.Repeat([]byte{255}, 80), make([]byte, 20)} {
		r := bitf.New(b)
		for _, log := range wrongLogs() {
			mustFail(t, r, fmt.Sprint(b), log, api.ErrArg, 0)
		}
		mustHave(t, r, fmt.Sprint(b), unpacked(b))
		for _, log := range wrongLogs() {
			mustFail(t, r, fmt.Sprint(b), log, api.ErrArg, 0)
		}
	}
	r := readerOf(t, []int{1})
	for far := range 300 {
		mustFail(t, r, "one bit", -far, api.ErrArg, 0)
		mustFail(t, r, "one bit", norm.MaxLog+1+far, api.ErrArg, 0)
	}
	mustHave(t, r, "one bit", []int{1})
}

// P15.2: no bits, or too few for the first count, are ErrShort, and stay; with one more there is another answer.
func TestTakeErrShortAtOnce(t *testing.T) {
	for log := 1; log <= norm.MaxLog; log++ {
		for many := range log + 1 {
			for x := range 2 {
				r := readerOf(t, all(many, x))
				mustFail(t, r, "few bits", log, api.ErrShort, 0)
				mustFail(t, r, "few bits", log, api.ErrShort, 0)
				mustHave(t, r, "few bits", all(many, x))
			}
		}
		mustFail(t, readerOf(t, all(log+1, 0)), "a count of 0", log, api.ErrShort, log+1)
		mustTake(t, readerOf(t, all(log, 0), []int{1}), "a count of all", log, first(1<<log), log+1)
		mustFail(t, bitf.New(nil), "nil", log, api.ErrShort, 0)
		mustFail(t, bitf.New([]byte{}), "no bytes", log, api.ErrShort, 0)
	}
}

// wrongBits are bits that aren't those of counts.
type wrongBits struct {
	what string
	log  int
	bits []int
	gone int // how many of them are taken
}

// short are bits that end too soon.
func short() []wrongBits {
	return []wrongBits{
		{"nothing", 5, nil, 0},
		{"five bits for a count", 5, all(5, 0), 0},
		{"a count, and nothing", 5, count(7, 32), 6},
		{"a count, and four bits", 5, append(count(7, 32), 1, 1, 1, 1), 6},
		{"a count that leaves little, and no bit", 5, count(31, 32), 6},
		{"a count of 0, and nothing", 5, count(0, 32), 6},
		{"a count of 0, and one bit", 5, append(count(0, 32), 0), 6},
		{"a count of 0, and another bit", 5, append(count(0, 32), 1), 6},
		{"a three, and nothing", 5, append(count(0, 32), 1, 1), 8},
		{"a three, and one bit", 5, append(count(0, 32), 1, 1, 0), 8},
		{"two threes, and one bit", 5, append(count(0, 32), 1, 1, 1, 1, 1), 10},
		{"84 threes, and one bit", 5, slices.Concat(count(0, 32), all(168, 1), []int{0}), 6 + 168},
		{"a number of zeros, and nothing", 5, append(count(0, 32), zeros(4)...), 10},
		{"a number of zeros, and five bits", 5, slices.Concat(count(0, 32), zeros(2), all(5, 0)), 8},
		{"as many zeros as may be, and nothing", 5, append(count(0, 32), zeros(254)...), 6 + 170},
		{"as many zeros as may be, and five bits", 5, slices.Concat(count(0, 32), zeros(254), all(5, 1)), 6 + 170},
		{"1 behind zeros, and four bits", 5, slices.Concat(count(0, 32), zeros(2), count(1, 32), all(4, 1)), 14},
		{"zeros behind a count, and no bit", 5, slices.Concat(count(31, 32), count(0, 1), zeros(0)), 9},
		{"a bit too few at log 12", 12, all(12, 1), 0},
	}
}

// P15.2: bits that end too soon are ErrShort, for a count and for a number of zeros, at once and behind a three; what is whole is taken, and the rest stays.
func TestTakeErrShort(t *testing.T) {
	for _, x := range short() {
		r := readerOf(t, x.bits)
		mustFail(t, r, x.what, x.log, api.ErrShort, x.gone)
		mustHave(t, r, x.what, x.bits[x.gone:])
		mustTakeByWords(t, x.what, x.bits, x.log)
	}
}

// wrong are bits that aren't those of any counts, by each cause, all of them taken.
func wrong() []wrongBits {
	var l []wrongBits
	add := func(what string, log int, parts ...[]int) {
		bits := slices.Concat(parts...)
		l = append(l, wrongBits{what, log, bits, len(bits)})
	}
	add("no next symbol, and 1 is left", 1, count(0, 2), zeros(254), count(1, 2))
	add("no next symbol, and 31 are left", 5, count(0, 32), zeros(254), count(1, 32))
	add("no next symbol, behind two counts", 5, count(0, 32), zeros(253), count(3, 32), count(28, 29))
	add("no next symbol, behind 256 counts", 9, ones(256, 512))
	add("no next symbol, behind 256 counts, at log 12", 12, ones(256, 4096))
	add("3, where 2 are left", 1, []int{1, 1})
	add("33, where 32 are left", 5, plainBits(33, 6))
	add("63, where 32 are left", 5, plainBits(63, 6))
	add("8191, where 4096 are left", 12, plainBits(8191, 13))
	add("4097, where 4096 are left", 12, plainBits(4097, 13))
	add("7, where 6 are left", 3, count(2, 8), plainBits(7, 3))
	add("3 behind zeros, where 2 are left", 1, count(0, 2), zeros(7), []int{1, 1})
	add("3 at the last symbol, where 2 are left", 1, count(0, 2), zeros(254), []int{1, 1})
	add("0 behind no zeros", 1, count(0, 2), zeros(0), count(0, 2))
	add("0 behind one zero", 1, count(0, 2), zeros(1), count(0, 2))
	add("0 behind five zeros", 5, count(0, 32), zeros(5), count(0, 32))
	add("0 behind zeros that are behind a count", 5, count(4, 32), count(0, 28), zeros(3), count(0, 28))
	add("0 behind zeros that are behind zeros and a count", 5, count(0, 32), zeros(3), count(4, 32), count(0, 28), zeros(3), count(0, 28))
	add("0 at the last symbol, behind zeros", 5, count(0, 32), zeros(254), count(0, 32))
	add("0 at the last symbol, behind a count", 1, count(0, 2), zeros(253), count(1, 2), count(0, 1))
	add("0 at the last symbol, behind 255 counts", 8, ones(255, 256), count(0, 1))
	add("0 at the last symbol, at log 12", 12, ones(255, 4096), count(0, 4096-255))
	add("85 threes", 1, count(0, 2), all(170, 1))
	add("84 threes, and a third one more", 5, count(0, 32), all(170, 1))
	add("one zero behind the last symbol but one", 5, count(0, 32), zeros(252), count(2, 32), count(0, 30), []int{1, 0})
	add("two zeros behind the last symbol but one", 5, count(0, 32), zeros(252), count(2, 32), count(0, 30), []int{0, 1})
	add("a three behind the last symbol but one", 5, count(0, 32), zeros(252), count(2, 32), count(0, 30), []int{1, 1})
	add("two zeros behind the last symbol but two", 5, count(0, 32), zeros(251), count(2, 32), count(0, 30), []int{0, 1})
	add("a three behind the last symbol but two", 5, count(0, 32), zeros(251), count(2, 32), count(0, 30), []int{1, 1})
	return l
}

// ones are the bits of so many counts of 1, so much being left ahead of them.
func ones(many, left int) []int {
	var bits []int
	for range many {
		bits = append(bits, count(1, left)...)
		left--
	}
	return bits
}

// P15.2: what isn't right is ErrHeader, by each cause, whatever is behind it: that stays, and all up to there is taken. With one bit less they are too few.
func TestTakeErrHeader(t *testing.T) {
	for _, x := range wrong() {
		for _, more := range behind() {
			r := readerOf(t, x.bits, more)
			mustFail(t, r, x.what, x.log, api.ErrHeader, x.gone)
			mustHave(t, r, x.what, more)
			mustTakeByWords(t, x.what, append(slices.Clone(x.bits), more...), x.log)
		}
		mustBeTooFew(t, x.what, x.bits[:x.gone-1], x.log)
	}
}

// P15.2: where a number of zeros begins, wherever that is: as many as may just be, and each number above them.
func TestTakeMostZeros(t *testing.T) {
	for s := range 255 {
		ahead, left := ones(s, 4096), 4096-s
		ahead = append(ahead, count(0, left)...)
		most := 254 - s
		what := fmt.Sprintf("%d zeros behind symbol %d", most, s)
		bits := slices.Concat(ahead, zeros(most), count(left, left))
		q := append(all(s, 1), all(256-s, 0)...)
		q[255] = left
		mustTake(t, readerOf(t, bits), what, 12, q, len(bits))
		for over := 1; over <= 4; over++ {
			what := fmt.Sprintf("%d zeros behind symbol %d", most+over, s)
			bits := slices.Concat(ahead, zeros(most+over), count(left, left))
			_, _, gone := plainTake(bits, 12)
			if gone >= len(bits) {
				t.Fatalf("%s: %d bits are taken of %d", what, gone, len(bits))
			}
			mustFail(t, readerOf(t, bits), what, 12, api.ErrHeader, gone)
		}
	}
}

// P15.2: a count of 0 at each symbol behind a number of zeros.
func TestTakeZeroBehindZeros(t *testing.T) {
	for many := range 255 {
		bits := slices.Concat(count(0, 32), zeros(many), count(0, 32))
		mustFail(t, readerOf(t, bits, all(400, 0)), fmt.Sprint("0 behind ", many, " zeros"), 5, api.ErrHeader, len(bits))
		bits[len(bits)-6] = 1
		bits = append(bits, 1, 1, 1, 1, 1)
		if many == 254 {
			mustFail(t, readerOf(t, bits), "1 at last", 5, api.ErrHeader, len(bits)-5)
		} else {
			mustTake(t, readerOf(t, bits), fmt.Sprint("1 behind ", many, " zeros"), 5, with(many+1, 1, many+2, 31), len(bits))
		}
	}
}

// P15.2: each count above what is left is ErrHeader, and is taken; what is left, and less, is none.
func TestTakeEachCountAbove(t *testing.T) {
	for log := 1; log <= 6; log++ {
		for ahead := range 1 << log {
			left := 1<<log - ahead
			begin := count(ahead, 1<<log)
			if ahead == 0 {
				begin = append(begin, zeros(0)...)
			}
			for n := 1; n < 1<<plainWidth(left); n++ {
				bits := append(slices.Clone(begin), count(n, left)...)
				what := fmt.Sprintf("%d, where %d is left", n, left)
				r := readerOf(t, bits)
				switch {
				case n > left:
					mustFail(t, r, what, log, api.ErrHeader, len(bits))
				case n < left:
					mustFail(t, r, what, log, api.ErrShort, len(bits))
				case ahead == 0:
					mustTake(t, r, what, log, first(0, left), len(bits))
				default:
					mustTake(t, r, what, log, first(ahead, left), len(bits))
				}
			}
		}
	}
}

// P15.2, R2: the first error in the chapter's order: a wrong log ahead of all; no next symbol, and no symbol more, ahead of too few bits; a number of zeros that is too great as soon as it is, so that an end behind it is not met.
func TestTakeFirstError(t *testing.T) {
	for _, x := range slices.Concat(wrong(), short()) {
		for _, log := range wrongLogs() {
			r := readerOf(t, x.bits)
			mustFail(t, r, x.what, log, api.ErrArg, 0)
			mustHave(t, r, x.what, x.bits)
		}
	}
	ends := func(what string, log int, want api.Errno, gone int, parts ...[]int) {
		t.Helper()
		bits := slices.Concat(parts...)
		r := readerOf(t, bits)
		mustFail(t, r, what, log, want, gone)
		mustHave(t, r, what, bits[gone:])
	}
	ends("no next symbol, and no bits", 1, api.ErrHeader, 2+170+2, count(0, 2), zeros(254), count(1, 2))
	ends("no next symbol, and too few bits", 5, api.ErrHeader, 6+170+6, count(0, 32), zeros(254), count(1, 32), []int{1, 1})
	ends("no symbol more, and no bits", 1, api.ErrHeader, 2+170+2+1, count(0, 2), zeros(253), count(1, 2), count(0, 1))
	ends("no symbol more, and one bit", 1, api.ErrHeader, 2+170+2+1, count(0, 2), zeros(253), count(1, 2), count(0, 1), []int{1})
	ends("no symbol more, and too many zeros", 1, api.ErrHeader, 2+170+2+1, count(0, 2), zeros(253), count(1, 2), count(0, 1), []int{1, 1})
	ends("0 behind zeros, no symbol more, and no bits", 1, api.ErrHeader, 2+170+2, count(0, 2), zeros(254), count(0, 2))
	ends("0 behind zeros, and no bits", 1, api.ErrHeader, 2+2+2, count(0, 2), zeros(0), count(0, 2))
	ends("0 behind zeros, and too many of them", 1, api.ErrHeader, 2+2+2, count(0, 2), zeros(0), count(0, 2), all(180, 1))
	ends("a three too many, and no bits", 1, api.ErrHeader, 2+170, count(0, 2), all(170, 1))
	ends("a three too many, and one bit", 1, api.ErrHeader, 2+170, count(0, 2), all(171, 1))
	ends("the last number of threes, and one bit", 1, api.ErrShort, 2+168, count(0, 2), all(169, 1))
	ends("a count above what is left, and no bits", 1, api.ErrHeader, 2, []int{1, 1})
	ends("a count above what is left, the last symbol", 1, api.ErrHeader, 2+170+2, count(0, 2), zeros(254), []int{1, 1})
}

// P15.2: behind an error the reader goes on where it stands.
func TestTakeBehindErrors(t *testing.T) {
	r := readerOf(t, []int{1, 1}, plainPut(example()), count(0, 32), zeros(3), count(0, 32), plainPut(first(5, 2, 1)), []int{0})
	mustFail(t, r, "3, where 2 are left", 1, api.ErrHeader, 2)
	mustFail(t, r, "log 0", 0, api.ErrArg, 0)
	mustTake(t, r, "the example", 5, example(), 14)
	mustFail(t, r, "0 behind zeros", 5, api.ErrHeader, 16)
	mustFail(t, r, "log 13", 13, api.ErrArg, 0)
	mustTake(t, r, "three symbols", 3, first(5, 2, 1), 7)
	mustFail(t, r, "one bit", 1, api.ErrShort, 0)
	mustHave(t, r, "one bit", []int{0})
}

// P15.3: what is put is taken, in order, one and many behind each other, refused ones between; then nothing else is left than what fills the byte.
func TestTakenAsPut(t *testing.T) {
	w := bitw.New()
	var lists [][]int
	var logs []int
	normalized(func(what string, q []int, r int) {
		alone := bitw.New()
		mustPut(t, alone, what, q)
		reader := bitf.New(alone.Bytes())
		mustTake(t, reader, what, r, q, Cost(q))
		mustEnd(t, reader, alone)
		mustPut(t, w, what, q)
		mustRefuse(t, w, "all but the last of "+what, q[:255])
		lists, logs = append(lists, q), append(logs, r)
	})
	reader := bitf.New(w.Bytes())
	for i, q := range lists {
		mustFail(t, reader, "anything", 0, api.ErrArg, 0)
		mustTake(t, reader, fmt.Sprint("list ", i), logs[i], q, Cost(q))
	}
	mustEnd(t, reader, w)
}

// P15.3: as it is leaned on: counts among other bits.
func TestTakenAmongOtherBits(t *testing.T) {
	w := bitw.New()
	normalized(func(what string, q []int, r int) {
		w.Put(uint32(r), 5)
		mustPut(t, w, what, q)
	})
	reader := bitf.New(w.Bytes())
	normalized(func(what string, q []int, r int) {
		if v, ok := reader.Take(5); !ok || int(v) != r {
			t.Fatalf("%s: %d, %v, want %d", what, v, ok, r)
		}
		mustTake(t, reader, what, r, q, Cost(q))
	})
	mustEnd(t, reader, w)
}

// P15.3: cut off anywhere there are too few bits; what is whole is taken.
func TestCutOffAnywhere(t *testing.T) {
	cutOff := func(what string, q []int, r int) {
		bits := plainPut(q)
		// Of few bits each cut, of many each so many.
		step := 1 + len(bits)/100*10
		for cut := len(bits) - 1; cut >= 0; cut -= step {
			mustBeTooFew(t, what, bits[:cut], r)
		}
		mustBeTooFew(t, what, nil, r)
	}
	normalized(cutOff)
	small(func(q []int, r int) { cutOff(fmt.Sprint(q), q, r) })
}

// mustBeTooFew takes what ends too soon, and holds what is taken, and what stays, to the chapter's words.
func mustBeTooFew(t *testing.T, what string, bits []int, r int) {
	t.Helper()
	_, e, gone := plainTake(bits, r)
	if e != api.ErrShort {
		t.Fatalf("%s: cut off at %d: error %d", what, len(bits), e)
	}
	reader := readerOf(t, bits)
	mustFail(t, reader, what, r, api.ErrShort, gone)
	mustHave(t, reader, what, bits[gone:])
}

// mustHaveOneForm holds what is taken of bits to the chapter's words, and, if it is counts, the bits that are put of them to those that were taken.
func mustHaveOneForm(t *testing.T, bits []int, log int) bool {
	t.Helper()
	q, gone := mustTakeByWords(t, "any bits", bits, log)
	if q == nil {
		return false
	}
	if !norm.Right(q, log) {
		t.Fatalf("%v, log %d: %v are taken", bits, log, q)
	}
	w := bitw.New()
	mustPut(t, w, "what was taken", q)
	mustStand(t, w, "what was taken", bits[:gone])
	return true
}

// P15.2, P15.3, R1: whatever bits there are, taking goes on to an end: all of fourteen bits. What is taken, put again, has the same bits.
func TestAnyBitsHaveOneForm(t *testing.T) {
	const many = 14
	taken := 0
	for x := range 1 << many {
		for _, log := range []int{1, 2, 3} {
			if mustHaveOneForm(t, plainBits(x, many), log) {
				taken++
			}
		}
	}
	if taken < 1000 {
		t.Fatalf("of all bits %d lists are taken", taken)
	}
}

// P15.2, P15.3: bits of counts, some of which are turned, are other counts or none.
func TestTurnedBitsHaveOneForm(t *testing.T) {
	draw := drawer(15)
	taken := 0
	normalized(func(what string, q []int, r int) {
		for range 25 {
			bits := plainPut(q)
			for range 1 + draw(3) {
				i := draw(len(bits))
				bits[i] = 1 - bits[i]
			}
			if draw(2) == 0 {
				bits = append(bits, plainPut(q)...)
			}
			turned, _, _ := plainTake(bits, r)
			if slices.Equal(turned, q) && slices.Equal(bits[:len(plainPut(q))], plainPut(q)) {
				continue // Turned back.
			}
			if mustHaveOneForm(t, bits, r) {
				taken++
			}
			if slices.Equal(turned, q) {
				t.Fatalf("%s: other bits are the same counts", what)
			}
		}
	})
	if taken < 100 {
		t.Fatalf("of turned bits %d lists are taken", taken)
	}
}

// P15.2, R1: bits drawn by chance, few of them 1 or most.
func TestDrawnBitsHaveOneForm(t *testing.T) {
	draw := drawer(16)
	for range 4000 {
		bits, often := make([]int, draw(700)), 1+draw(9)
		for i := range bits {
			if draw(10) < often {
				bits[i] = 1
			}
		}
		mustHaveOneForm(t, bits, 1+draw(norm.MaxLog))
	}
}

// P15.3: no counts have more bits than 256 times their log and 3. Both are times 256, as T2 has it: in turns with zeros counts have more than 256 times their log, and 3 beside it.
func TestNoMoreBits(t *testing.T) {
	if n := Cost(turns(12, 1)); n <= 256*12+3 {
		t.Errorf("in turns with zeros: %d bits", n)
	}
	normalized(func(what string, q []int, r int) {
		if n := Cost(q); n > 256*(r+3) {
			t.Errorf("%s: %d bits, more than %d", what, n, 256*(r+3))
		}
	})
	for r := 1; r <= norm.MaxLog; r++ {
		for seed := range 40 {
			many := 1 + drawer(uint64(seed))(min(256, 1<<r))
			q := shared(uint64(seed), r, many, seed%4)
			if n := Cost(q); n > 256*(r+3) {
				t.Errorf("%v: %d bits, more than %d", q, n, 256*(r+3))
			}
		}
	}
}

// R3: what is told beside an error is no list, not even one of no counts that were read by then.
func TestNoCountsBesideErrors(t *testing.T) {
	for _, x := range slices.Concat(wrong(), short()) {
		if q, e := Take(readerOf(t, x.bits), x.log); len(q) != 0 || e == api.OK {
			t.Errorf("%s: %v, error %d", x.what, q, e)
		}
	}
}

// R5: what a writer told ahead, the list that was put, the bytes that a reader was made of, and lists that were told are not changed, nor kept.
func TestNothingElseIsChanged(t *testing.T) {
	w := bitw.New()
	q := example()
	mustPut(t, w, "the example", q)
	told := w.Bytes()
	q[2], q[3] = 31, 1
	mustStand(t, w, "the example", exampleBits())
	mustPut(t, w, "another list", q)
	if !bytes.Equal(told, packed(exampleBits())) {
		t.Errorf("what was told ahead: %v", told)
	}
	b := w.Bytes()
	kept := bytes.Clone(b)
	r := bitf.New(b)
	one, e := Take(r, 5)
	if e != api.OK || !slices.Equal(one, example()) {
		t.Fatalf("%v, error %d", one, e)
	}
	clear(one)
	two, e := Take(r, 5)
	if e != api.OK || !slices.Equal(two, q) {
		t.Fatalf("%v, error %d", two, e)
	}
	if !slices.Equal(one, all(256, 0)) || !bytes.Equal(b, kept) {
		t.Errorf("the first list: %v, the bytes: %v, were %v", one, b, kept)
	}
	mustTake(t, bitf.New(b), "the example", 5, example(), 14)
	mustPut(t, w, "what was taken", two)
	clear(two)
	if Cost(q) != 15 || !slices.Equal(q, first(0, 0, 31, 1)) {
		t.Errorf("Cost: %d of %v", Cost(q), q)
	}
}

// R6: the same arguments have the same answer, whatever was put, taken or asked ahead; writers and readers stand apart.
func TestSameAnswerEachTime(t *testing.T) {
	other := bitw.New()
	for range 3 {
		w := bitw.New()
		mustPut(t, w, "the example", example())
		mustRefuse(t, w, "nothing", nil)
		mustPut(t, other, "all", all(256, 1))
		mustStand(t, w, "the example", exampleBits())
		r := bitf.New(packed(exampleBits()))
		mustTake(t, bitf.New(packed(exampleBits())), "the example", 2, first(0, 2, 0, 2), 14)
		mustTake(t, r, "the example", 5, example(), 14)
		mustFail(t, r, "the filling", 5, api.ErrShort, 0)
		mustHave(t, r, "the filling", []int{0, 0})
	}
}
