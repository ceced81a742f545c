package lanes

import (
	"bytes"
	"fmt"
	"math"
	"math/big"
	"slices"
	"testing"

	"puncheon/api"
	"puncheon/bitr"
	"puncheon/bitw"
	"puncheon/dtab"
	"puncheon/etab"
	"puncheon/model"
	"puncheon/norm"
)

// with are 256 zeros, but for numbers at symbols: a symbol, its number, the next symbol, and so on.
func with(placed ...int) []int {
	q := make([]int, 256)
	for i := 0; i < len(placed); i += 2 {
		q[placed[i]] = placed[i+1]
	}
	return q
}

// all are some numbers that are the same.
func all(many, number int) []int { return slices.Repeat([]int{number}, many) }

// drawer draws numbers from 0 to below a bound, the same ones each time for a seed.
func drawer(seed uint64) func(bound int) int {
	x := seed*2862933555777941757 + 3037000493
	return func(bound int) int {
		x = x*6364136223846793005 + 1442695040888963407
		return int(x>>33) % bound
	}
}

// again is one byte, so many times.
func again(x byte, many int) []byte { return bytes.Repeat([]byte{x}, many) }

// rising are bytes from one value on, each one greater than the one ahead of it; behind 255 is 0.
func rising(from, many int) []byte {
	var b []byte
	for i := range many {
		b = append(b, byte(from+i))
	}
	return b
}

// drawn are so many bytes of so many values at most: the steeper, the more of them are few.
func drawn(seed uint64, many, unlike, steep int) []byte {
	draw := drawer(seed)
	var b []byte
	for range many {
		x := draw(unlike)
		for range steep {
			x = min(x, draw(unlike))
		}
		b = append(b, byte(x*77))
	}
	return b
}

// oneOf is a model of one list.
func oneOf(log int, lists ...[]int) api.Model {
	return api.Model{Log: log, One: true, Counts: lists}
}

// eachOf is a model of a list for each context.
func eachOf(log int, lists ...[]int) api.Model { return api.Model{Log: log, Counts: lists} }

// placed is a model of a list for each context, all of which are empty but for some.
func placed(log int, some map[int][]int) api.Model {
	lists := make([][]int, 256)
	for c, q := range some {
		lists[c] = q
	}
	return eachOf(log, lists...)
}

// filled are so many lists of these numbers, each in memory of its own.
func filled(many int, q []int) [][]int {
	lists := make([][]int, many)
	for i := range lists {
		lists[i] = slices.Clone(q)
	}
	return lists
}

// changed are lists, of which one is another one now.
func changed(lists [][]int, at int, q []int) [][]int {
	lists = slices.Clone(lists)
	lists[at] = q
	return lists
}

// halves are normalized counts of two symbols.
func halves(log int) []int { return with(7, 1<<(log-1), 200, 1<<(log-1)) }

// shared are normalized counts of some symbols, as far as there is room: the steeper, the more those ahead have.
func shared(draw func(int) int, log int, symbols []int, steep int) []int {
	symbols = symbols[:min(len(symbols), 1<<log)]
	q := all(256, 0)
	for i := range 1 << log {
		at := i
		if i >= len(symbols) {
			at = draw(len(symbols))
			for range steep {
				at = min(at, draw(len(symbols)))
			}
		}
		q[symbols[at]]++
	}
	return q
}

// someSymbols are so many unlike symbols.
func someSymbols(draw func(int) int, many int) []int {
	from := draw(256)
	var symbols []int
	for i := range many {
		symbols = append(symbols, (from+77*i)%256)
	}
	return symbols
}

// fitting are so many bytes that fit a right model; of what it has most there are most. Each symbol's list must not be empty.
func fitting(draw func(int) int, m api.Model, many int) []byte {
	b := make([]byte, many)
	for i := range b {
		q := m.Counts[0]
		if !m.One {
			q = m.Counts[ahead(b, i)]
		}
		at := draw(1 << m.Log)
		for at >= q[b[i]] {
			at -= q[b[i]]
			b[i]++
		}
	}
	return b
}

// drawnModels hands over models of both kinds, of a log: of few symbols and of many, flat and steep. The greater the log, the fewer lists there are.
func drawnModels(log int, hand func(what string, m api.Model)) {
	draw := drawer(uint64(log))
	for _, many := range []int{1, 2, 3, 17, 256} {
		for _, steep := range []int{0, 6} {
			hand(fmt.Sprintf("one list of %d, steep %d, log %d", many, steep, log), oneOf(log, shared(draw, log, someSymbols(draw, many), steep)))
			hand(fmt.Sprintf("lists of %d, steep %d, log %d", many, steep, log), drawnLists(draw, log, many, steep))
		}
	}
}

// drawnLists is a model of a list for the context 0, and for each that may follow, of so many symbols at most.
func drawnLists(draw func(int) int, log, many, steep int) api.Model {
	symbols := someSymbols(draw, min(many, 3+600>>log))
	some := map[int][]int{}
	for _, c := range append(symbols, 0) {
		from := draw(len(symbols))
		some[c] = shared(draw, log, slices.Concat(symbols[from:], symbols[:from])[:1+draw(len(symbols))], steep)
	}
	return placed(log, some)
}

// ahead is the value of the byte ahead of b's byte i.
func ahead(b []byte, i int) int {
	if i == 0 {
		return 0
	}
	return int(b[i-1])
}

// listAt is a context whose list is that of b's byte i: of a model of one list they are all alike.
func listAt(m api.Model, b []byte, i int) int {
	if m.One {
		return 0
	}
	return ahead(b, i)
}

// encodeByWords is Encode, and Bits, in the chapter's words.
func encodeByWords(m api.Model, b []byte) ([]byte, int, api.Errno) {
	if !model.Fits(m, b) || len(b) > 131072 {
		return nil, 0, api.ErrArg
	}
	w := bitw.New()
	tables := map[int]*etab.Table{}
	evenState, oddState := 0, 0
	for i := len(b) - 1; i >= 0; i-- {
		c := listAt(m, b, i)
		if tables[c] == nil {
			tables[c], _ = etab.New(model.At(m, c))
		}
		if i%2 == 0 {
			next, n, low, _ := tables[c].Step(evenState, b[i])
			evenState = next
			w.Put(low, n)
		} else {
			next, n, low, _ := tables[c].Step(oddState, b[i])
			oddState = next
			w.Put(low, n)
		}
	}
	w.Put(uint32(oddState), m.Log)
	w.Put(uint32(evenState), m.Log)
	return w.Close(), w.Bits(), api.OK
}

// decodeByWords is Decode in the chapter's words.
func decodeByWords(m api.Model, p []byte, n int) ([]byte, api.Errno) {
	if !model.Right(m) || n < 0 || n > 131072 {
		return nil, api.ErrArg
	}
	r, e := bitr.New(p)
	if e != api.OK {
		return nil, api.ErrMark
	}
	cells := map[int][]api.Cell{}
	var states []int
	for range 2 {
		x, ok := r.Take(m.Log)
		if !ok {
			return nil, api.ErrShort
		}
		states = append(states, int(x))
	}
	b := make([]byte, n)
	for i := range n {
		c := listAt(m, b, i)
		if cells[c] == nil {
			cells[c], _ = dtab.Of(model.At(m, c))
		}
		if len(cells[c]) == 0 {
			return nil, api.ErrHeader
		}
		cell := cells[c][states[i%2]]
		more, ok := r.Take(cell.Bits)
		if !ok {
			return nil, api.ErrShort
		}
		b[i] = cell.Sym
		states[i%2] = cell.Base + int(more)
	}
	if states[0] != 0 || states[1] != 0 || r.Left() > 0 {
		return nil, api.ErrState
	}
	return b, api.OK
}

// bitsOf are the bits of a payload, up to its mark.
func bitsOf(t *testing.T, p []byte) []int {
	t.Helper()
	r, e := bitr.New(p)
	if e != api.OK {
		t.Fatalf("%v has no mark", p)
	}
	bits := make([]int, r.Left())
	for i := len(bits) - 1; i >= 0; i-- {
		v, _ := r.Take(1)
		bits[i] = int(v)
	}
	return bits
}

// closed are bits with a mark behind them.
func closed(bits ...int) []byte {
	w := bitw.New()
	for _, v := range bits {
		w.Put(uint32(v), 1)
	}
	return w.Close()
}

// number is a number as so many bits, the lowest one first.
func number(v, n int) []int {
	var bits []int
	for i := range n {
		bits = append(bits, v>>i&1)
	}
	return bits
}

// withStates are bits with both states, and the mark, behind them.
func withStates(log, oddState, evenState int, bits ...int) []byte {
	return closed(slices.Concat(bits, number(oddState, log), number(evenState, log))...)
}

// mustEncode is the payload that bytes must have.
func mustEncode(t *testing.T, m api.Model, b []byte) []byte {
	t.Helper()
	p, e := Encode(m, b)
	if e != api.OK {
		t.Fatalf("%v: error %d", b[:min(len(b), 20)], e)
	}
	return p
}

// mustNotEncode holds both calls that encode to an error.
func mustNotEncode(t *testing.T, what string, m api.Model, b []byte) {
	t.Helper()
	if p, e := Encode(m, b); e != api.ErrArg || len(p) != 0 {
		t.Errorf("%s: error %d, %d bytes", what, e, len(p))
	}
	if n := Bits(m, b); n != 0 {
		t.Errorf("%s: %d bits", what, n)
	}
}

// mustBeEncoded holds Encode and Bits to the chapter's words, and Decode to what comes back.
func mustBeEncoded(t *testing.T, what string, m api.Model, b []byte) {
	t.Helper()
	want, bits, none := encodeByWords(m, b)
	p, e := Encode(m, b)
	if e != api.OK || none != api.OK || !bytes.Equal(p, want) {
		t.Errorf("%s, %d bytes: error %d, %d; %d bytes of payload, want %d", what, len(b), e, none, len(p), len(want))
		return
	}
	if n := Bits(m, b); n != bits || n != len(bitsOf(t, p)) {
		t.Errorf("%s, %d bytes: %d bits, want %d", what, len(b), n, bits)
	}
	if back, e := Decode(m, p, len(b)); e != api.OK || !bytes.Equal(back, b) {
		t.Errorf("%s, %d bytes: error %d, they don't come back", what, len(b), e)
	}
}

// mustFail holds Decode to an error, and no bytes beside it.
func mustFail(t *testing.T, what string, m api.Model, p []byte, n int, want api.Errno) {
	t.Helper()
	if b, e := Decode(m, p, n); e != want || len(b) != 0 {
		t.Errorf("%s: error %d, want %d; %d bytes", what, e, want, len(b))
	}
}

// mustTell holds Decode to bytes.
func mustTell(t *testing.T, what string, m api.Model, p []byte, want ...byte) {
	t.Helper()
	if b, e := Decode(m, p, len(want)); e != api.OK || !bytes.Equal(b, want) {
		t.Errorf("%s: %v, error %d, want %v", what, b, e, want)
	}
}

// mustBeAsWords holds Decode of whatever bytes to the chapter's words; where it tells bytes their payload is just that.
func mustBeAsWords(t *testing.T, what string, m api.Model, p []byte, n int) api.Errno {
	t.Helper()
	b, e := Decode(m, p, n)
	want, none := decodeByWords(m, p, n)
	if e != none || !bytes.Equal(b, want) {
		t.Errorf("%s, payload %v as %d: %v, error %d, want %v, error %d", what, p, n, b, e, want, none)
		return e
	}
	if e != api.OK {
		return e
	}
	if back, f := Encode(m, b); f != api.OK || !bytes.Equal(back, p) {
		t.Errorf("%s, payload %v as %d: %v, whose payload is %v, error %d", what, p, n, b, back, f)
	}
	return e
}

// P17.1, P17.2: the chapter's example.
func TestExample(t *testing.T) {
	m := oneOf(5, with(7, 32))
	if p, e := Encode(m, []byte{7, 7, 7}); e != api.OK || !bytes.Equal(p, []byte{0, 4}) {
		t.Errorf("%v, error %d", p, e)
	}
	if n := Bits(m, []byte{7, 7, 7}); n != 10 {
		t.Errorf("%d bits", n)
	}
	mustTell(t, "example", m, []byte{0, 4}, 7, 7, 7)
}

// P17.1, P17.2: payloads written out. By the list 1, 1 each step leaves the state's one bit over; by 5, 2, 1 symbol 0 has the places 0, 3, 4, 6, 7, symbol 1 has 1 and 5, and symbol 2 has 2.
func TestWrittenOut(t *testing.T) {
	coin, three := oneOf(1, with(0, 1, 1, 1)), oneOf(3, with(0, 5, 1, 2, 2, 1))
	lists := placed(1, map[int][]int{0: with(7, 1, 8, 1), 7: with(8, 2), 8: with(7, 1, 9, 1)})
	for _, x := range []struct {
		m    api.Model
		b    []byte
		p    []byte
		bits int
	}{
		{coin, nil, []byte{4}, 2},
		{coin, []byte{0}, []byte{8}, 3},
		{coin, []byte{1}, []byte{12}, 3},
		{coin, []byte{0, 1}, []byte{20}, 4},
		{coin, []byte{1, 0}, []byte{24}, 4},
		{coin, []byte{1, 1}, []byte{28}, 4},
		{coin, []byte{1, 1, 0}, []byte{56}, 5},
		{coin, []byte{0, 1, 1}, []byte{44}, 5},
		{coin, []byte{0, 0, 1, 0}, []byte{72}, 6},
		{coin, []byte{0, 0, 0, 1}, []byte{68}, 6},
		{three, nil, []byte{64}, 6},
		{three, []byte{0}, []byte{112}, 6},
		{three, []byte{1}, []byte{32, 1}, 8},
		{three, []byte{2}, []byte{128, 2}, 9},
		{three, []byte{1, 2, 0, 1, 1}, []byte{144, 213}, 15},
		{lists, nil, []byte{4}, 2},
		{lists, []byte{7}, []byte{8}, 3},
		{lists, []byte{8}, []byte{12}, 3},
		{lists, []byte{7, 8}, []byte{8}, 3},
		{lists, []byte{8, 7}, []byte{24}, 4},
		{lists, []byte{8, 9}, []byte{28}, 4},
		{lists, []byte{7, 8, 9}, []byte{18}, 4},
	} {
		if p, e := Encode(x.m, x.b); e != api.OK || !bytes.Equal(p, x.p) {
			t.Errorf("%v: %v, error %d, want %v", x.b, p, e, x.p)
		}
		if n := Bits(x.m, x.b); n != x.bits {
			t.Errorf("%v: %d bits, want %d", x.b, n, x.bits)
		}
		mustTell(t, fmt.Sprint(x.p), x.m, x.p, x.b...)
	}
}

// wrongLogs are numbers that are no log.
func wrongLogs() []int {
	return []int{0, -1, -5, norm.MaxLog + 1, norm.MaxLog + 2, 63, 64, 69, 1 << 32, 1<<32 + 5, math.MaxInt, math.MinInt, math.MinInt + 5}
}

// wrongLists hands over what are no normalized counts of a log, and no empty list.
func wrongLists(log int, hand func(what string, q []int)) {
	size := 1 << log
	hand("255 counts", with(7, size)[:255])
	hand("257 counts", append(with(7, size), 0))
	hand("one count", []int{size})
	hand("256 zeros", all(256, 0))
	hand("a count below 0", with(7, size+1, 8, -1))
	hand("a sum that wraps round", with(0, math.MaxInt, 1, math.MaxInt, 2, 2+size))
	hand("a sum too great by one", with(7, size, 8, 1))
	hand("a sum too small by one", with(7, size-1))
	hand("the sum of the log above", halves(log+1))
	if log > 1 {
		hand("the sum of the log below", halves(log-1))
	}
}

// wrongModels hands over models that aren't right, by each cause.
func wrongModels(hand func(what string, m api.Model)) {
	hand("no field is set", api.Model{})
	hand("One alone", api.Model{One: true})
	for _, r := range wrongLogs() {
		for _, log := range []int{1, 5, norm.MaxLog} {
			hand(fmt.Sprint("log ", r, ", one list of log ", log), oneOf(r, halves(log)))
			hand(fmt.Sprint("log ", r, ", 256 lists of log ", log), eachOf(r, filled(256, halves(log))...))
		}
		hand(fmt.Sprint("log ", r, ", 256 lists nil"), eachOf(r, make([][]int, 256)...))
		hand(fmt.Sprint("log ", r, ", no list, One"), oneOf(r))
		hand(fmt.Sprint("log ", r, ", no list"), eachOf(r))
	}
	hand("log 0, one list of the sum 1", oneOf(0, with(7, 1)))
	hand("log 0, 256 lists of the sum 1", eachOf(0, filled(256, with(7, 1))...))
	hand("log 13, one list of that log", oneOf(13, halves(13)))
	hand("log 13, 256 lists of that log", eachOf(13, filled(256, halves(13))...))
	for r := 1; r <= norm.MaxLog; r++ {
		wrongByLists(r, func(what string, m api.Model) { hand(fmt.Sprintf("%s, log %d", what, r), m) })
	}
}

// wrongByLists hands over models of a log, by whose lists they aren't right.
func wrongByLists(r int, hand func(what string, m api.Model)) {
	q := halves(r)
	hand("One, no list", oneOf(r))
	hand("One, a list that is nil", oneOf(r, nil))
	hand("One, a list that is empty", oneOf(r, []int{}))
	for _, many := range []int{2, 255, 256, 257} {
		hand(fmt.Sprint("One, ", many, " lists"), oneOf(r, filled(many, q)...))
	}
	hand("no list", eachOf(r))
	for _, many := range []int{1, 2, 255, 257} {
		hand(fmt.Sprint(many, " lists"), eachOf(r, filled(many, q)...))
		hand(fmt.Sprint(many, " lists nil"), eachOf(r, make([][]int, many)...))
	}
	wrongLists(r, func(what string, wrong []int) {
		hand("One, a list of "+what, oneOf(r, wrong))
		for _, at := range []int{0, 7, 100, 255} {
			hand(fmt.Sprint(what, " at ", at, " among right ones"), eachOf(r, changed(filled(256, q), at, wrong)...))
			hand(fmt.Sprint(what, " at ", at, " among empty ones"), eachOf(r, changed(make([][]int, 256), at, wrong)...))
		}
	})
}

// wrongNumbers are numbers of bytes that may not be.
func wrongNumbers() []int {
	return []int{-1, -2, -131072, MaxBytes + 1, MaxBytes + 2, 2 * MaxBytes, 1 << 32, 1<<32 + 3, -1 << 32, math.MaxInt, math.MaxInt - 1, math.MinInt, math.MinInt + 3}
}

// P17.1, P17.2: how many bytes there may be.
func TestMaxBytes(t *testing.T) {
	if MaxBytes != 131072 {
		t.Errorf("%d", MaxBytes)
	}
}

// P17.1, P17.2: models of both kinds, of each log, few symbols and many; of no bytes, one, two, three, an even and an odd number, and some thousand.
func TestByWords(t *testing.T) {
	for log := 1; log <= norm.MaxLog; log++ {
		drawnModels(log, func(what string, m api.Model) {
			draw := drawer(uint64(log) + 99)
			for _, many := range []int{0, 1, 2, 3, 8, 31, 255, 1000 + draw(2000)} {
				mustBeEncoded(t, what, m, fitting(draw, m, many))
			}
		})
	}
}

// P17.1, P17.2: models that chapter 16 makes of bytes, of these, and of each beginning and end that fits.
func TestMadeModels(t *testing.T) {
	texts := [][]byte{{0}, {255}, []byte("ab"), []byte("abracadabra"), []byte("aaaaaaaaaaaaaaaaaaaaaaaaab"), again(0, 1000), again(255, 1001), rising(0, 256), rising(200, 511), rising(0, 512)}
	for _, many := range []int{64, 500, 3001} {
		for _, unlike := range []int{2, 30, 256} {
			texts = append(texts, drawn(uint64(many), many, unlike, 0), drawn(uint64(unlike), many, unlike, 4))
		}
	}
	for _, b := range texts {
		for kind, make := range map[string]func([]byte) (api.Model, api.Errno){"Zero": model.Zero, "First": model.First} {
			m, _ := make(b)
			for _, part := range [][]byte{b, b[:len(b)/2], b[:len(b)-1], b[1:]} {
				if model.Fits(m, part) {
					mustBeEncoded(t, kind, m, part)
				}
			}
		}
	}
}

// P17.1, P17.2: of no bytes, nil or not, both states are 0, and all that there is: twice the log 0, and the mark, written out.
func TestNoBytes(t *testing.T) {
	payloads := [][]byte{{4}, {16}, {64}, {0, 1}, {0, 4}, {0, 16}, {0, 64}, {0, 0, 1}, {0, 0, 4}, {0, 0, 16}, {0, 0, 64}, {0, 0, 0, 1}}
	for i, want := range payloads {
		log := i + 1
		for _, m := range []api.Model{oneOf(log, halves(log)), eachOf(log, filled(256, halves(log))...), eachOf(log, make([][]int, 256)...)} {
			for _, b := range [][]byte{nil, {}, make([]byte, 0, 9), []byte("abc")[3:]} {
				if p := mustEncode(t, m, b); !bytes.Equal(p, want) {
					t.Errorf("log %d: %v, want %v", log, p, want)
				}
				if n := Bits(m, b); n != 2*log {
					t.Errorf("log %d: %d bits", log, n)
				}
			}
			mustTell(t, "no bytes", m, want)
		}
	}
}

// P17.1, P17.2: one byte again and again, that is alone in its list, takes no bits: so its payload is one of any number of it.
func TestOneByteAgain(t *testing.T) {
	for log := 1; log <= norm.MaxLog; log++ {
		for _, x := range []byte{0, 1, 7, 255} {
			q := with(int(x), 1<<log)
			for _, m := range []api.Model{oneOf(log, q), placed(log, map[int][]int{0: q, int(x): q})} {
				for _, many := range []int{1, 2, 3, 1001, 9000} {
					b := again(x, many)
					if p := mustEncode(t, m, b); !bytes.Equal(p, withStates(log, 0, 0)) || Bits(m, b) != 2*log {
						t.Errorf("%d of %d, log %d: %v", many, x, log, p)
					}
					mustTell(t, "again", m, withStates(log, 0, 0), b...)
				}
			}
		}
	}
}

// P17.1, P17.2: one byte again and again, that has others beside it, or half of all places.
func TestAgainBesideOthers(t *testing.T) {
	for log := 2; log <= norm.MaxLog; log++ {
		for _, q := range [][]int{halves(log), with(7, 1, 8, 1<<log-1), with(7, 1<<log-1, 8, 1)} {
			for _, many := range []int{1, 2, 3, 500, 5001} {
				mustBeEncoded(t, "one list", oneOf(log, q), again(7, many))
				mustBeEncoded(t, "lists", placed(log, map[int][]int{0: q, 7: q}), again(7, many))
			}
		}
	}
	// By halves each step leaves one bit over.
	if n := Bits(oneOf(5, halves(5)), again(7, 1000)); n != 1010 {
		t.Errorf("%d bits", n)
	}
}

// P17.1, P17.2: all 256 bytes, by lists that have all of them.
func TestAllSymbols(t *testing.T) {
	for _, log := range []int{8, 9, 12} {
		flat := all(256, 1<<log/256)
		draw := drawer(uint64(log))
		steep := shared(draw, log, someSymbols(draw, 256), 3)
		for _, b := range [][]byte{rising(0, 256), drawn(5, 2001, 256, 0)} {
			for _, q := range [][]int{flat, steep} {
				mustBeEncoded(t, "one list of all", oneOf(log, q), b)
				if log < 12 {
					mustBeEncoded(t, "256 lists of all", eachOf(log, filled(256, q)...), b)
				}
			}
			if n := Bits(oneOf(log, flat), b); n != 8*len(b)+2*log {
				t.Errorf("log %d: %d bits of %d bytes", log, n, len(b))
			}
		}
	}
}

// P17.1, P17.2: as many bytes as may be, and one more, which is too many whatever they are.
func TestMost(t *testing.T) {
	b := drawn(8, MaxBytes+1, 256, 1)
	for kind, make := range map[string]func([]byte) (api.Model, api.Errno){"Zero": model.Zero, "First": model.First} {
		m, _ := make(b)
		mustBeEncoded(t, kind, m, b[:MaxBytes-1])
		mustBeEncoded(t, kind, m, b[:MaxBytes])
		mustNotEncode(t, kind+", one more", m, b)
		p := mustEncode(t, m, b[:MaxBytes])
		mustFail(t, kind+", one more", m, p, MaxBytes+1, api.ErrArg)
	}
	m := oneOf(5, with(7, 32))
	mustTell(t, "most of one", m, []byte{0, 4}, again(7, MaxBytes)...)
	mustFail(t, "one more of one", m, []byte{0, 4}, MaxBytes+1, api.ErrArg)
	mustNotEncode(t, "one more of one", m, again(7, MaxBytes+1))
	mustNotEncode(t, "many more, that don't fit", m, again(8, 5*MaxBytes))
}

// P17.1, R3: bytes that the model doesn't fit: a count that is 0, an empty list, a count in another context alone; first, last, and between.
func TestNotFitting(t *testing.T) {
	one := oneOf(5, with(5, 10, 6, 22))
	each := placed(5, map[int][]int{0: with(5, 16, 6, 16), 5: with(6, 32), 6: with(5, 16, 9, 16)})
	for _, x := range []struct {
		what string
		m    api.Model
		b    []byte
	}{
		{"count 0, alone", one, []byte{7}},
		{"count 0, first", one, []byte{7, 5, 6}},
		{"count 0, between", one, []byte{5, 7, 6}},
		{"count 0, last", one, []byte{5, 6, 6, 6, 255}},
		{"count 0, of 0", one, []byte{0}},
		{"count 0 in each, first", each, []byte{7}},
		{"count 0 in each, last", each, []byte{5, 6, 7}},
		{"another context's, first", each, []byte{9}},
		{"another context's, second", each, []byte{5, 5}},
		{"another context's, last", each, []byte{6, 6}},
		{"another context's, between", each, []byte{5, 6, 6, 5, 6}},
		{"empty list, last", each, []byte{6, 9, 5}},
		{"empty list, between", each, []byte{5, 6, 9, 5, 6}},
		{"empty list, first", placed(5, map[int][]int{7: with(7, 32)}), []byte{7}},
		{"all lists empty", placed(5, nil), []byte{0}},
	} {
		mustNotEncode(t, x.what, x.m, x.b)
		mustNotEncode(t, x.what+", behind many", x.m, slices.Concat(bytes.Repeat([]byte{5, 6}, 1000), x.b, x.b))
	}
	// An empty list behind the last byte is no harm.
	mustBeEncoded(t, "empty list behind", each, []byte{5, 6, 9})
}

// P17.1, P17.2, R1, R3: models that aren't right, of no bytes, too, and of a payload of none.
func TestWrongModels(t *testing.T) {
	wrongModels(func(what string, m api.Model) {
		for _, b := range [][]byte{nil, {}, {7}, {7, 200, 7}, {0}} {
			mustNotEncode(t, what, m, b)
		}
		for _, p := range [][]byte{nil, {0}, {0, 0, 0, 0, 1}, {4}, {1}} {
			for _, n := range []int{0, 1, 3} {
				mustFail(t, what, m, p, n, api.ErrArg)
			}
		}
	})
}

// P17.2, R1, R3: numbers of bytes that may not be, with a mark and without one.
func TestWrongNumbers(t *testing.T) {
	for _, m := range []api.Model{oneOf(5, with(7, 32)), eachOf(5, filled(256, with(7, 32))...), placed(5, nil)} {
		for _, n := range wrongNumbers() {
			for _, p := range [][]byte{{0, 4}, {0, 5}, nil, {}, {0}, {1}, {0, 4, 0}} {
				mustFail(t, fmt.Sprint(n), m, p, n, api.ErrArg)
			}
		}
	}
}

// P17.2, R3: no mark: no bytes at all, and such as end in 0; ahead of all but the wrong arguments.
func TestNoMark(t *testing.T) {
	for _, m := range []api.Model{oneOf(5, with(7, 32)), oneOf(1, halves(1)), placed(5, map[int][]int{0: with(7, 32)}), placed(5, nil)} {
		for _, p := range [][]byte{nil, {}, make([]byte, 0, 4), {0}, {0, 0}, make([]byte, 100), {1, 0}, {0, 4, 0}, {255, 255, 0, 0}, []byte{0, 4, 1}[:1]} {
			for _, n := range []int{0, 1, 2, MaxBytes} {
				mustFail(t, fmt.Sprint("no mark: ", p), m, p, n, api.ErrMark)
			}
		}
	}
}

// P17.2, R3: too few bits for the even state, or for the odd one behind it; ahead of an empty list, and of what is left.
func TestShortOfStates(t *testing.T) {
	for log := 1; log <= norm.MaxLog; log++ {
		for _, m := range []api.Model{oneOf(log, with(7, 1<<log)), oneOf(log, halves(log)), placed(log, map[int][]int{0: with(7, 1<<log)}), placed(log, nil)} {
			for bits := range 2 * log {
				for _, bit := range []int{0, 1} {
					for _, n := range []int{0, 1, 2, MaxBytes} {
						mustFail(t, fmt.Sprintf("%d bits, log %d", bits, log), m, closed(all(bits, bit)...), n, api.ErrShort)
					}
				}
			}
		}
		// With just as many bits there are both.
		mustTell(t, "both states", oneOf(log, with(7, 1<<log)), closed(all(2*log, 0)...), 7)
	}
}

// P17.2, R3: by halves each byte takes one bit: so many bits too few, and the byte as far from the end has none: the first one, the last one, or one between.
func TestShortOfCells(t *testing.T) {
	for _, log := range []int{1, 2, 5, 9, 12} {
		for _, m := range []api.Model{oneOf(log, halves(log)), eachOf(log, filled(256, halves(log))...)} {
			for _, many := range []int{1, 2, 3, 10, 101} {
				b := slices.Repeat([]byte{7, 200, 200}, many)[:many]
				bits := bitsOf(t, mustEncode(t, m, b))
				if len(bits) != many+2*log {
					t.Fatalf("%d bits of %d bytes", len(bits), many)
				}
				for cut := 1; cut <= many; cut++ {
					mustFail(t, fmt.Sprintf("%d of %d, log %d", many-cut, many, log), m, closed(bits[cut:]...), many, api.ErrShort)
				}
				mustTell(t, "nothing cut", m, closed(bits...), b...)
			}
		}
	}
}

// P17.2: a cell whose Bits are more than what is left, but not than what there was: none of them is enough.
func TestShortByOne(t *testing.T) {
	for log := 2; log <= norm.MaxLog; log++ {
		// The symbol 9 has one place: its step takes as many bits as the log.
		m := oneOf(log, with(7, 1<<log-1, 9, 1))
		bits := bitsOf(t, mustEncode(t, m, []byte{9}))
		if len(bits) != 3*log {
			t.Fatalf("%d bits", len(bits))
		}
		for cut := 1; cut <= log; cut++ {
			mustFail(t, fmt.Sprint("cut ", cut), m, closed(bits[cut:]...), 1, api.ErrShort)
		}
		mustTell(t, "nothing cut", m, closed(bits...), 9)
		// With a bit more ahead of them one is left.
		mustFail(t, "one more", m, closed(append([]int{0}, bits...)...), 1, api.ErrState)
	}
}

// P17.2, R3: an empty list, at the first byte and behind others; whatever the states are, and even where bits lack behind it.
func TestEmptyList(t *testing.T) {
	for _, log := range []int{1, 5, 12} {
		whole := 1 << log
		chain := placed(log, map[int][]int{0: with(1, whole), 1: with(2, whole), 2: with(3, whole), 3: halves(log), 7: halves(log)})
		for _, x := range []struct {
			what string
			m    api.Model
			p    []byte
			n    int
		}{
			{"all empty", placed(log, nil), withStates(log, 0, 0), 1},
			{"first empty", placed(log, map[int][]int{1: with(1, whole)}), withStates(log, 0, 0), 1},
			{"first empty, of many", placed(log, map[int][]int{1: with(1, whole)}), withStates(log, 0, 0), MaxBytes},
			{"first empty, states", placed(log, nil), withStates(log, 1, 1), 5},
			{"first empty, bits left", placed(log, nil), withStates(log, 0, 0, all(500, 1)...), 5},
			{"second empty", placed(log, map[int][]int{0: with(1, whole)}), withStates(log, 0, 0), 2},
			{"second empty, of many", placed(log, map[int][]int{0: with(1, whole)}), withStates(log, 0, 0), MaxBytes},
			// 200 has the upper half of places: behind it there is no list, and here no bit either.
			{"fifth empty, behind bits", chain, withStates(log, whole-1, 0, 0), 5},
		} {
			mustFail(t, fmt.Sprintf("%s, log %d", x.what, log), x.m, x.p, x.n, api.ErrHeader)
		}
	}
}

// P17.2: where a byte's bits lack ahead of an empty list it is ErrShort; where the list is empty ahead of them it is ErrHeader.
func TestEmptyOrShort(t *testing.T) {
	m := placed(1, map[int][]int{0: with(0, 1, 7, 1), 7: with(9, 2)})
	for _, x := range []struct {
		p    []byte
		n    int
		want api.Errno
	}{
		// The even state 1 is 7, which takes one bit; behind it 9 takes none; behind 9 there is no list.
		{withStates(1, 0, 1), 1, api.ErrShort},
		{withStates(1, 0, 1), 3, api.ErrShort},
		{withStates(1, 0, 1, 0), 1, api.OK},
		{withStates(1, 0, 1, 0), 2, api.OK},
		{withStates(1, 0, 1, 0), 3, api.ErrHeader},
		{withStates(1, 0, 1, 0, 0), 3, api.ErrHeader},
		{withStates(1, 0, 1, 0, 0), 2, api.ErrState},
		{withStates(1, 0, 1, 1), 3, api.ErrHeader},
		{withStates(1, 1, 1, 0), 3, api.ErrHeader},
		{withStates(1, 0, 1, 1), 2, api.ErrState},
		{withStates(1, 1, 1, 0), 2, api.ErrState},
		// The even state 0 is 0, behind which is 0's list again.
		{withStates(1, 0, 0, 0), 2, api.ErrShort},
		{withStates(1, 1, 0, 0), 2, api.ErrShort},
		{withStates(1, 1, 0, 0, 0), 2, api.OK},
		{withStates(1, 1, 0, 0, 0), 3, api.OK},
		{withStates(1, 1, 0, 1, 0), 3, api.ErrState},
		{withStates(1, 1, 0, 0, 1), 3, api.ErrState},
		{withStates(1, 1, 0, 0, 0), 4, api.ErrHeader},
	} {
		if e := mustBeAsWords(t, "empty or short", m, x.p, x.n); e != x.want {
			t.Errorf("%v as %d: error %d, want %d", x.p, x.n, e, x.want)
		}
	}
}

// P17.2, R3: a state that isn't 0 at last, the even one alone, the odd one alone, or both; and bits that are left, one and some thousand.
func TestStatesAtLast(t *testing.T) {
	for log := 1; log <= norm.MaxLog; log++ {
		q := with(7, 1<<log)
		top := 1<<log - 1
		for _, m := range []api.Model{oneOf(log, q), placed(log, map[int][]int{0: q, 7: q})} {
			// One symbol's steps take no bits, and change no state.
			for n := range 5 {
				for _, x := range []int{1, 1 << (log - 1), top} {
					mustFail(t, fmt.Sprintf("even %d, log %d", x, log), m, withStates(log, 0, x), n, api.ErrState)
					mustFail(t, fmt.Sprintf("odd %d, log %d", x, log), m, withStates(log, x, 0), n, api.ErrState)
					mustFail(t, fmt.Sprintf("both %d, log %d", x, log), m, withStates(log, x, x), n, api.ErrState)
				}
				for _, left := range []int{1, 2, 7, 8, 9, 5000} {
					mustFail(t, fmt.Sprint(left, " bits 0 left"), m, withStates(log, 0, 0, all(left, 0)...), n, api.ErrState)
					mustFail(t, fmt.Sprint(left, " bits 1 left"), m, withStates(log, 0, 0, all(left, 1)...), n, api.ErrState)
					mustFail(t, fmt.Sprint(left, " bits left, and a state"), m, withStates(log, top, 0, all(left, 0)...), n, api.ErrState)
				}
				mustTell(t, "nothing left", m, withStates(log, 0, 0), again(7, n)...)
			}
		}
	}
}

// P17.2: what the last steps lead to is held against 0, of each state by itself.
func TestStatesLedTo(t *testing.T) {
	for log := 1; log <= norm.MaxLog; log++ {
		m := oneOf(log, halves(log))
		// Each step takes one bit, and comes from the state 0 to just that.
		for _, x := range []struct {
			bits []int
			n    int
			want api.Errno
		}{
			{[]int{0}, 1, api.OK},
			{[]int{1}, 1, api.ErrState},
			{[]int{0, 0}, 2, api.OK},
			{[]int{1, 0}, 2, api.ErrState},
			{[]int{0, 1}, 2, api.ErrState},
			{[]int{1, 1}, 2, api.ErrState},
		} {
			if e := mustBeAsWords(t, "led to", m, withStates(log, 0, 0, x.bits...), x.n); e != x.want {
				t.Errorf("log %d, %v: error %d, want %d", log, x.bits, e, x.want)
			}
		}
	}
}

// P17.2: that the even state is taken first, and the odd one behind it, and that both take turns from the even one on.
func TestTurns(t *testing.T) {
	m := oneOf(3, all(256, 0))
	for s := range 8 {
		m.Counts[0][s] = 1
	}
	// Each state is a symbol of its own, whose step takes three bits, that are the next state.
	p := withStates(3, 5, 2, slices.Concat(number(0, 3), number(0, 3), number(7, 3), number(6, 3), number(1, 3), number(4, 3))...)
	mustTell(t, "turns", m, p, 2, 5, 4, 1, 6, 7)
	if got := mustEncode(t, m, []byte{2, 5, 4, 1, 6, 7}); !bytes.Equal(got, p) {
		t.Errorf("%v, want %v", got, p)
	}
	mustTell(t, "one", m, withStates(3, 0, 6, number(0, 3)...), 6)
	mustTell(t, "two", m, withStates(3, 1, 6, slices.Concat(number(0, 3), number(0, 3))...), 6, 1)
	mustFail(t, "one, of the odd state", m, withStates(3, 6, 0, number(0, 3)...), 1, api.ErrState)
}

// P17.2: that a byte hangs on its own state alone: of no other than its own place's.
func TestLanesStandApart(t *testing.T) {
	draw := drawer(4)
	m := oneOf(6, shared(draw, 6, someSymbols(draw, 20), 2))
	for range 300 {
		one, other := fitting(draw, m, 12), fitting(draw, m, 12)
		mixed := slices.Clone(one)
		for i := 1; i < len(mixed); i += 2 {
			mixed[i] = other[i]
		}
		a, b := bitsOf(t, mustEncode(t, m, one)), bitsOf(t, mustEncode(t, m, mixed))
		if !slices.Equal(a[len(a)-6:], b[len(b)-6:]) {
			t.Errorf("%v, %v: the even state hangs on bytes at odd places", one, mixed)
		}
		c := bitsOf(t, mustEncode(t, m, other))
		if !slices.Equal(c[len(c)-12:len(c)-6], b[len(b)-12:len(b)-6]) {
			t.Errorf("%v, %v: the odd state hangs on bytes at even places", other, mixed)
		}
	}
}

// P17.2: of 0 bytes, with states 0 and others, with bits left and none.
func TestDecodeNone(t *testing.T) {
	for log := 1; log <= norm.MaxLog; log++ {
		for _, m := range []api.Model{oneOf(log, halves(log)), eachOf(log, filled(256, halves(log))...), placed(log, nil)} {
			mustTell(t, "none", m, withStates(log, 0, 0))
			for _, p := range [][]byte{withStates(log, 1, 0), withStates(log, 0, 1), withStates(log, 1, 1), withStates(log, 0, 0, 0), withStates(log, 0, 0, 1), withStates(log, 0, 0, all(3000, 0)...), withStates(log, 1, 0, 0), closed(all(2*log, 1)...)} {
				mustFail(t, fmt.Sprint("none, log ", log), m, p, 0, api.ErrState)
			}
		}
	}
}

// P17.2: a payload as one of more bytes than it was made of, or of fewer.
func TestAnotherNumber(t *testing.T) {
	failed := 0
	for _, log := range []int{1, 2, 4, 7, 11} {
		drawnModels(log, func(what string, m api.Model) {
			draw := drawer(uint64(log) + 7)
			for _, many := range []int{0, 1, 2, 3, 201} {
				p := mustEncode(t, m, fitting(draw, m, many))
				for _, n := range []int{many - 1, many + 1, many - 2, 2 * many} {
					if e := mustBeAsWords(t, what, m, p, n); e != api.OK {
						failed++
					}
				}
			}
		})
	}
	if failed < 500 {
		t.Errorf("%d failed", failed)
	}
}

// P17.2: a payload with each bit turned, in turn, the mark and those behind it, too: an error, or bytes that have just that payload.
func TestTurnedBits(t *testing.T) {
	told := 0
	for _, log := range []int{1, 2, 3, 5, 8} {
		drawnModels(log, func(what string, m api.Model) {
			b := fitting(drawer(uint64(log)+31), m, 10)
			p := mustEncode(t, m, b)
			for bit := range 8 * len(p) {
				turned := slices.Clone(p)
				turned[bit/8] ^= 1 << (bit % 8)
				if mustBeAsWords(t, what, m, turned, len(b)) == api.OK {
					told++
				}
			}
		})
	}
	if told < 50 {
		t.Errorf("%d told bytes", told)
	}
}

// eachPayload hands over all bits up to some number, each with a mark.
func eachPayload(most int, hand func(p []byte)) {
	for n := range most + 1 {
		for v := range 1 << n {
			hand(closed(number(v, n)...))
		}
	}
}

// P17.2, P17.3: all short payloads, as all small numbers of bytes: bytes of which each is the payload, or the error that the chapter names first; and each bytes that fit come out once.
func TestEachPayload(t *testing.T) {
	two := map[int][]int{0: with(0, 1, 1, 3), 1: with(0, 2, 2, 2)}
	for what, m := range map[string]api.Model{
		"1, 1":        oneOf(1, with(0, 1, 1, 1)),
		"2, 1, 1":     oneOf(2, with(0, 2, 1, 1, 2, 1)),
		"1, 3":        oneOf(2, with(7, 1, 200, 3)),
		"3, 1, 4":     oneOf(3, with(9, 3, 0, 1, 255, 4)),
		"two lists":   placed(2, two),
		"three lists": placed(2, map[int][]int{0: two[0], 1: two[1], 2: with(1, 4)}),
	} {
		told := map[api.Errno]int{}
		came := map[string]int{}
		eachPayload(8, func(p []byte) {
			for n := range 5 {
				e := mustBeAsWords(t, what, m, p, n)
				told[e]++
				if e == api.OK {
					b, _ := Decode(m, p, n)
					came[string(b)]++
				}
			}
		})
		if told[api.OK] == 0 || told[api.ErrShort] == 0 || told[api.ErrState] == 0 || (told[api.ErrHeader] > 0) != (what == "two lists") {
			t.Errorf("%s: %v", what, told)
		}
		for b, times := range came {
			if times != 1 {
				t.Errorf("%s: %v came %d times", what, []byte(b), times)
			}
		}
	}
	// By 1, 1 four bytes have just four bits, beside the states: so all 16 of them come.
	came := 0
	eachPayload(8, func(p []byte) {
		if _, e := Decode(oneOf(1, with(0, 1, 1, 1)), p, 4); e == api.OK {
			came++
		}
	})
	if came != 16 {
		t.Errorf("%d of 16 came", came)
	}
}

// P17.2, R1: bytes that no one made, of any length, by models of all logs: such as expect all that may come, and such as don't.
func TestDrawnPayloads(t *testing.T) {
	told := map[api.Errno]int{}
	for log := 1; log <= norm.MaxLog; log++ {
		draw := drawer(uint64(log) + 1000)
		whole := drawnLists(draw, log, 9, 1)
		holes := placed(log, map[int][]int{0: whole.Counts[0]})
		for c, q := range whole.Counts {
			if draw(2) == 0 {
				holes.Counts[c] = q
			}
		}
		for _, m := range []api.Model{oneOf(log, whole.Counts[0]), whole, holes} {
			for range 60 {
				p := make([]byte, draw(30))
				for i := range p {
					p[i] = byte(draw(256))
				}
				told[mustBeAsWords(t, "drawn", m, p, draw(60))]++
			}
		}
	}
	for _, e := range []api.Errno{api.ErrMark, api.ErrShort, api.ErrHeader, api.ErrState} {
		if told[e] < 20 {
			t.Errorf("error %d: %d times", e, told[e])
		}
	}
}

// P17.2, R2: of two errors at once the one that is named first.
func TestFirstError(t *testing.T) {
	wrong, empty := oneOf(5, with(7, 31)), placed(5, nil)
	coin := oneOf(5, halves(5))
	behind := placed(5, map[int][]int{0: halves(5)})
	for _, x := range []struct {
		what string
		m    api.Model
		p    []byte
		n    int
		want api.Errno
	}{
		{"a wrong model, a wrong number", wrong, nil, -1, api.ErrArg},
		{"a wrong model, no mark", wrong, nil, 1, api.ErrArg},
		{"a wrong model, too few bits", wrong, []byte{1}, 1, api.ErrArg},
		{"a wrong model, a state", wrong, []byte{1, 4}, 0, api.ErrArg},
		{"a wrong number, no mark", coin, nil, -1, api.ErrArg},
		{"a wrong number, no mark", coin, []byte{0}, MaxBytes + 1, api.ErrArg},
		{"a wrong number, too few bits", coin, []byte{1}, MaxBytes + 1, api.ErrArg},
		{"a wrong number, an empty list", empty, []byte{0, 4}, MaxBytes + 1, api.ErrArg},
		{"a wrong number, a state", coin, []byte{1, 4}, -1, api.ErrArg},
		{"no mark, an empty list", empty, []byte{0, 0}, 1, api.ErrMark},
		{"no mark, too few bits", coin, []byte{0}, 1, api.ErrMark},
		{"too few bits for states, an empty list", empty, []byte{1}, 1, api.ErrShort},
		{"too few bits for the odd state, an empty list", empty, closed(all(9, 1)...), 1, api.ErrShort},
		{"too few bits for the odd state, a state", coin, closed(all(9, 1)...), 0, api.ErrShort},
		{"an empty list, a state", empty, withStates(5, 3, 0), 1, api.ErrHeader},
		{"an empty list, bits left", empty, withStates(5, 0, 0, 1, 0, 1), 1, api.ErrHeader},
		{"an empty list behind, too few bits behind it", behind, withStates(5, 0, 0, 0), 3, api.ErrHeader},
		{"too few bits, an empty list behind", behind, withStates(5, 0, 0), 3, api.ErrShort},
		{"too few bits, a state", coin, withStates(5, 3, 0, 1), 2, api.ErrShort},
		{"a state, bits left", coin, withStates(5, 3, 0, 1, 1), 1, api.ErrState},
	} {
		mustFail(t, x.what, x.m, x.p, x.n, x.want)
	}
}

// P17.3: two to the power of the bits, less both states', times all counts that were asked, is no more than the product of all sizes, with one less than how many symbols are there.
func TestBound(t *testing.T) {
	for log := 1; log <= norm.MaxLog; log++ {
		drawnModels(log, func(what string, m api.Model) {
			draw := drawer(uint64(log) + 55)
			for _, many := range []int{0, 1, 2, 3, 201} {
				b := fitting(draw, m, many)
				if Bits(m, b) < 2*log {
					t.Fatalf("%s: %d bits", what, Bits(m, b))
				}
				put, most := big.NewInt(1), big.NewInt(1)
				put.Lsh(put, uint(Bits(m, b)-2*log))
				for i, s := range b {
					q := model.At(m, ahead(b, i))
					there := 0
					for _, count := range q {
						if count > 0 {
							there++
						}
					}
					put.Mul(put, big.NewInt(int64(q[s])))
					most.Mul(most, big.NewInt(int64(1<<log+there-1)))
				}
				if put.Cmp(most) > 0 {
					t.Errorf("%s, %d bytes: %d bits are too many", what, many, Bits(m, b))
				}
			}
		})
	}
}

// P17.3: what is rare may take more bits than what comes often, and no more than the log, each.
func TestBitsOfEach(t *testing.T) {
	for log := 2; log <= norm.MaxLog; log++ {
		m := oneOf(log, with(7, 1<<log-1, 9, 1))
		for n := range 50 {
			if often, rare := Bits(m, again(7, n)), Bits(m, again(9, n)); often > rare || rare != (n+2)*log {
				t.Errorf("log %d, %d times: %d bits, %d bits", log, n, often, rare)
			}
		}
	}
}

// copied is a model of the same fields, in memory of its own: what is nil stays nil, and what is empty stays empty.
func copied(m api.Model) api.Model {
	m.Counts = slices.Clone(m.Counts)
	for i := range m.Counts {
		m.Counts[i] = slices.Clone(m.Counts[i])
	}
	return m
}

// same tells whether two models have the same fields, with nil just where the other has it.
func same(a, b api.Model) bool {
	if a.Log != b.Log || a.One != b.One || (a.Counts == nil) != (b.Counts == nil) {
		return false
	}
	return slices.EqualFunc(a.Counts, b.Counts, func(p, q []int) bool { return slices.Equal(p, q) && (p == nil) == (q == nil) })
}

// R5, R6: bytes and models stay as they are, what is right and what is wrong, nil or not, what is behind them, too; and are answered alike the second time.
func TestNothingIsChanged(t *testing.T) {
	empty := changed(filled(256, halves(5)), 3, []int{})
	for _, m := range []api.Model{oneOf(5, halves(5)), eachOf(5, filled(256, halves(5))...), eachOf(5, empty...), eachOf(5, changed(empty, 200, nil)...), placed(5, nil), oneOf(5, with(7, 31)), oneOf(5, nil), oneOf(5), eachOf(5, empty[:9]...), {}, {Log: 5, One: true, Counts: [][]int{}}} {
		for _, whole := range [][]byte{nil, {}, {7}, {7, 7, 200, 3, 7}, {0, 4, 9}, {0, 0}, {1, 2, 3, 4, 5, 6, 7, 8, 9}, {255, 255, 255}} {
			for cut := range len(whole) + 1 {
				kept, was, b := copied(m), slices.Clone(whole), whole[:cut]
				var told [2]string
				for i := range told {
					p, e := Encode(m, b)
					told[i] = fmt.Sprint(p, e, Bits(m, b))
					for n := range 4 {
						back, e := Decode(m, b, n)
						told[i] += fmt.Sprint(back, e)
					}
				}
				if told[0] != told[1] {
					t.Errorf("%v: %s, then %s", b, told[0], told[1])
				}
				if !same(m, kept) || !bytes.Equal(whole, was) || (whole == nil) != (was == nil) {
					t.Errorf("%v, want %v: changed, or the model", whole, was)
				}
			}
		}
	}
}

// R5: what is told is memory of its own: written to, and behind, it changes nothing that was handed in, and no later answer; nor does what was handed in.
func TestToldIsItsOwn(t *testing.T) {
	for _, m := range []api.Model{oneOf(5, halves(5)), eachOf(5, filled(256, halves(5))...)} {
		kept := copied(m)
		b := slices.Repeat([]byte{7, 200, 200, 7, 7}, 20)
		was := slices.Clone(b)
		p := mustEncode(t, m, b)
		want := slices.Clone(p)
		back, e := Decode(m, p, len(b))
		if e != api.OK {
			t.Fatalf("error %d", e)
		}
		for i := range p {
			p[i] = 0
		}
		_ = append(p, 1, 2, 3)
		if !bytes.Equal(back, was) || !bytes.Equal(b, was) || !same(m, kept) {
			t.Error("writing to a payload changed other data")
		}
		if !bytes.Equal(mustEncode(t, m, b), want) {
			t.Error("writing to a payload changed the next one")
		}
		for i := range back {
			back[i] = 9
		}
		_ = append(back, 1, 2, 3)
		mustTell(t, "written to", m, want, was...)
		// The bytes, and the model, that were handed in, are the caller's afterwards.
		p = mustEncode(t, m, b)
		clear(b)
		for _, q := range m.Counts {
			clear(q)
		}
		if !bytes.Equal(p, want) {
			t.Error("writing to bytes, or to a model, changed a payload")
		}
		mustNotEncode(t, "the model isn't right any more", m, was)
		mustTell(t, "the model's copy", kept, want, was...)
	}
}

// R6: what is answered hangs on no call ahead: models and bytes in any order.
func TestSameAnswerEachTime(t *testing.T) {
	draw := drawer(77)
	var models []api.Model
	drawnModels(6, func(_ string, m api.Model) { models = append(models, m) })
	models = append(models, placed(6, nil), oneOf(6, nil))
	type asked struct{ m, seed int }
	told := map[asked]string{}
	for range 400 {
		x := asked{draw(len(models)), draw(4)}
		m := models[x.m]
		b := again(byte(x.seed), x.seed)
		if x.m < len(models)-2 {
			b = fitting(drawer(uint64(x.seed)), m, 30+x.seed)
		}
		p, e := Encode(m, b)
		back, f := Decode(m, p, len(b))
		answer := fmt.Sprint(p, e, back, f, Bits(m, b))
		if was, ok := told[x]; ok && was != answer {
			t.Errorf("model %d, seed %d: %s, ahead of that %s", x.m, x.seed, answer, was)
		}
		told[x] = answer
	}
}
