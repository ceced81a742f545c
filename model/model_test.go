package model

import (
	"bytes"
	"fmt"
	"math"
	"slices"
	"testing"

	"puncheon/api"
	"puncheon/ctx"
	"puncheon/hist"
	"puncheon/logs"
	"puncheon/norm"
)

// with are 256 zeros, but for numbers at symbols: a symbol, its number, the next symbol, and so on.
func with(placed ...int) []int {
	q := make([]int, 256)
	for i := 0; i < len(placed); i += 2 {
		q[placed[i]] = placed[i+1]
	}
	return q
}

// all are some numbers that are the same.
func all(many, number int) []int { return slices.Repeat([]int{number}, many) }

// drawer draws numbers from 0 to below a bound, the same ones each time for a seed.
func drawer(seed uint64) func(bound int) int {
	x := seed*2862933555777941757 + 3037000493
	return func(bound int) int {
		x = x*6364136223846793005 + 1442695040888963407
		return int(x>>33) % bound
	}
}

// again is one byte, so many times.
func again(x byte, many int) []byte { return bytes.Repeat([]byte{x}, many) }

// rising are bytes from one value on, each one greater than the one ahead of it; behind 255 is 0.
func rising(from, many int) []byte {
	var b []byte
	for i := range many {
		b = append(b, byte(from+i))
	}
	return b
}

// drawn are so many bytes of so many values at most: the steeper, the more of them are few.
func drawn(seed uint64, many, unlike, steep int) []byte {
	draw := drawer(seed)
	var b []byte
	for range many {
		x := draw(unlike)
		for range steep {
			x = min(x, draw(unlike))
		}
		b = append(b, byte(x*77))
	}
	return b
}

// wide are bytes of which so many unlike ones are behind one, and behind each of the others just that one.
func wide(one byte, many int) []byte {
	var b []byte
	for i := range many {
		b = append(b, one, one+1+byte(i))
	}
	return b
}

// texts hands over bytes of many kinds: not one of them is none.
func texts(hand func(what string, b []byte)) {
	for _, x := range []byte{0, 1, 7, 254, 255} {
		for _, many := range []int{1, 2, 3, 127, 128, 1000, 5000} {
			hand(fmt.Sprint(x, ", ", many, " times"), again(x, many))
		}
	}
	for _, b := range [][]byte{{0, 1}, {1, 0}, {255, 0}, {0, 255}, {3, 4}, {1, 1, 2}, {1, 1, 2, 1}, {0, 0, 1}, {9, 0, 9, 0, 8}, {1, 2, 3, 1, 2, 4, 1, 2, 5}} {
		hand(fmt.Sprint(b), b)
	}
	for _, many := range []int{2, 3, 31, 32, 33, 64, 65, 128, 129, 255, 256, 257, 512, 513} {
		hand(fmt.Sprint(many, " rising from 0"), rising(0, many))
		hand(fmt.Sprint(many, " rising from 200"), rising(200, many))
		b := rising(0, many)
		slices.Reverse(b)
		hand(fmt.Sprint(many, " falling to 0"), b)
	}
	for _, many := range []int{1, 2, 16, 32, 33, 64, 65, 128, 129, 255} {
		for _, one := range []byte{0, 9, 255} {
			hand(fmt.Sprint(many, " behind ", one), wide(one, many))
		}
	}
	for power := 6; power <= 15; power++ {
		for _, many := range []int{1<<power - 1, 1 << power} {
			for _, unlike := range []int{2, 20, 150, 256} {
				for _, steep := range []int{0, 5} {
					hand(fmt.Sprint(many, " drawn of ", unlike, ", steep ", steep), drawn(uint64(many), many, unlike, steep))
				}
			}
		}
	}
}

// zeroByWords is Zero in the chapter's words.
func zeroByWords(b []byte) (api.Model, api.Errno) {
	if len(b) == 0 {
		return api.Model{}, api.ErrArg
	}
	counts := hist.Of(b)
	log := logs.Pick(len(b), hist.Many(counts), api.MaxLog0)
	q, e := norm.Counts(counts, log)
	return api.Model{Log: log, One: true, Counts: [][]int{q}}, e
}

// firstByWords is First in the chapter's words.
func firstByWords(b []byte) (api.Model, api.Errno) {
	if len(b) == 0 {
		return api.Model{}, api.ErrArg
	}
	m := api.Model{Log: logs.Pick(len(b), ctx.Widest(b), api.MaxLog1), Counts: make([][]int, 256)}
	for _, c := range ctx.Present(b) {
		q, e := norm.Counts(ctx.For(b, c), m.Log)
		if e != api.OK {
			return api.Model{}, e
		}
		m.Counts[c] = q
	}
	return m, api.OK
}

// plainAhead is the value of the byte ahead of b's byte i.
func plainAhead(b []byte, i int) int {
	if i == 0 {
		return 0
	}
	return int(b[i-1])
}

// fitsByWords is Fits of a right model in the chapter's words.
func fitsByWords(m api.Model, b []byte) bool {
	for i, x := range b {
		q := m.Counts[0]
		if !m.One {
			q = m.Counts[plainAhead(b, i)]
		}
		if len(q) == 0 || q[x] < 1 {
			return false
		}
	}
	return true
}

// copied is a model of the same fields, in memory of its own: what is nil stays nil, and what is empty stays empty.
func copied(m api.Model) api.Model {
	m.Counts = slices.Clone(m.Counts)
	for i := range m.Counts {
		m.Counts[i] = slices.Clone(m.Counts[i])
	}
	return m
}

// alike tells whether two models have the same fields; an empty list is as good as nil.
func alike(a, b api.Model) bool {
	return a.Log == b.Log && a.One == b.One && slices.EqualFunc(a.Counts, b.Counts, func(p, q []int) bool { return slices.Equal(p, q) })
}

// same tells whether two models are alike, with nil just where the other has it.
func same(a, b api.Model) bool {
	if (a.Counts == nil) != (b.Counts == nil) || !alike(a, b) {
		return false
	}
	return slices.EqualFunc(a.Counts, b.Counts, func(p, q []int) bool { return (p == nil) == (q == nil) })
}

// oneOf is a model of one list.
func oneOf(log int, lists ...[]int) api.Model {
	return api.Model{Log: log, One: true, Counts: lists}
}

// eachOf is a model of a list for each context.
func eachOf(log int, lists ...[]int) api.Model { return api.Model{Log: log, Counts: lists} }

// filled are so many lists of these numbers, each in memory of its own.
func filled(many int, q []int) [][]int {
	lists := make([][]int, many)
	for i := range lists {
		lists[i] = slices.Clone(q)
	}
	return lists
}

// changed are lists, of which one is another one now.
func changed(lists [][]int, at int, q []int) [][]int {
	lists = slices.Clone(lists)
	lists[at] = q
	return lists
}

// halves are normalized counts of two symbols.
func halves(log int) []int { return with(7, 1<<(log-1), 200, 1<<(log-1)) }

// rightModels hands over right models of both kinds, of each log.
func rightModels(hand func(what string, m api.Model)) {
	for r := 1; r <= norm.MaxLog; r++ {
		tell := func(what string, m api.Model) { hand(fmt.Sprintf("%s, log %d", what, r), m) }
		for _, q := range [][]int{halves(r), with(0, 1<<r), with(255, 1<<r), with(0, 1, 255, 1<<r-1), with(100, 1<<r-1, 101, 1)} {
			tell("one list", oneOf(r, q))
			tell("256 lists alike", eachOf(r, filled(256, q)...))
			for _, at := range []int{0, 1, 100, 254, 255} {
				tell(fmt.Sprint("one list alone, at ", at), eachOf(r, changed(make([][]int, 256), at, q)...))
				tell(fmt.Sprint("one list nil, at ", at), eachOf(r, changed(filled(256, q), at, nil)...))
				tell(fmt.Sprint("one list empty, at ", at), eachOf(r, changed(filled(256, q), at, []int{})...))
			}
		}
		tell("256 lists nil", eachOf(r, make([][]int, 256)...))
		tell("256 lists empty", eachOf(r, filled(256, []int{})...))
		tell("256 lists, each of its own symbol", eachOf(r, ownSymbols(r)...))
		if r >= 8 {
			tell("one list of all", oneOf(r, all(256, 1<<r/256)))
			tell("256 lists of all", eachOf(r, filled(256, all(256, 1<<r/256))...))
		}
	}
}

// ownSymbols are lists of which each has its own number's symbol alone.
func ownSymbols(log int) [][]int {
	var lists [][]int
	for c := range 256 {
		lists = append(lists, with(c, 1<<log))
	}
	return lists
}

// wrongLists hands over what are no normalized counts of a log, and no empty list.
func wrongLists(log int, hand func(what string, q []int)) {
	size := 1 << log
	hand("255 counts", with(7, size)[:255])
	hand("257 counts, the last one 0", append(with(7, size), 0))
	hand("257 counts, the last one 1", append(with(7, size-1), 1))
	hand("one count", []int{size})
	hand("512 counts", append(with(7, size), all(256, 0)...))
	hand("256 zeros", all(256, 0))
	hand("one zero", []int{0})
	hand("a count below 0", with(7, size+1, 8, -1))
	hand("the first count below 0", with(0, -size, 8, 2*size))
	hand("the last count below 0", with(8, size+1, 255, -1))
	hand("the least count", with(0, math.MinInt, 1, math.MinInt, 2, size))
	hand("a sum that wraps round", with(0, math.MaxInt, 1, math.MaxInt, 2, 2+size))
	hand("a sum too great by one", with(7, size, 8, 1))
	hand("a sum too small by one", with(7, size-1))
	hand("the sum of the log above", halves(log+1))
	hand("the sum of the greatest log, twice", with(7, 2<<norm.MaxLog))
	if log > 1 {
		hand("the sum of the log below", halves(log-1))
	}
	hand("the sum 1", with(7, 1))
}

// wrongLogs are numbers that are no log.
func wrongLogs() []int {
	return []int{0, -1, -5, norm.MaxLog + 1, norm.MaxLog + 2, 63, 64, 65, 69, 1 << 32, 1<<32 + 5, math.MaxInt, math.MaxInt - 1, math.MinInt, math.MinInt + 5}
}

// wrongModels hands over models that aren't right, by each cause.
func wrongModels(hand func(what string, m api.Model)) {
	hand("no field is set", api.Model{})
	hand("One alone", api.Model{One: true})
	for _, r := range wrongLogs() {
		for log := 1; log <= norm.MaxLog; log++ {
			hand(fmt.Sprint("log ", r, ", one list of log ", log), oneOf(r, halves(log)))
		}
		hand(fmt.Sprint("log ", r, ", 256 lists"), eachOf(r, filled(256, halves(5))...))
		hand(fmt.Sprint("log ", r, ", 256 lists nil"), eachOf(r, make([][]int, 256)...))
		hand(fmt.Sprint("log ", r, ", 256 lists empty"), eachOf(r, filled(256, []int{})...))
		hand(fmt.Sprint("log ", r, ", no list, One"), oneOf(r))
		hand(fmt.Sprint("log ", r, ", no list"), eachOf(r))
	}
	hand("log 0, one list of the sum 1", oneOf(0, with(7, 1)))
	hand("log 0, 256 lists of the sum 1", eachOf(0, filled(256, with(7, 1))...))
	hand("log 13, one list of that log", oneOf(13, halves(13)))
	hand("log 13, 256 lists of that log", eachOf(13, filled(256, halves(13))...))
	for r := 1; r <= norm.MaxLog; r++ {
		wrongByLists(r, func(what string, m api.Model) { hand(fmt.Sprintf("%s, log %d", what, r), m) })
	}
}

// wrongByLists hands over models of a log, by whose lists they aren't right.
func wrongByLists(r int, hand func(what string, m api.Model)) {
	q := halves(r)
	hand("One, lists nil", api.Model{Log: r, One: true})
	hand("One, lists empty", api.Model{Log: r, One: true, Counts: [][]int{}})
	for _, many := range []int{2, 3, 255, 256, 257} {
		hand(fmt.Sprint("One, ", many, " lists"), oneOf(r, filled(many, q)...))
		hand(fmt.Sprint("One, a list, and nil up to ", many), oneOf(r, changed(make([][]int, many), 0, q)...))
	}
	hand("One, a list that is nil", oneOf(r, nil))
	hand("One, a list that is empty", oneOf(r, []int{}))
	hand("lists nil", api.Model{Log: r})
	hand("lists empty", api.Model{Log: r, Counts: [][]int{}})
	for _, many := range []int{1, 2, 128, 255, 257, 512} {
		hand(fmt.Sprint(many, " lists"), eachOf(r, filled(many, q)...))
		hand(fmt.Sprint(many, " lists nil"), eachOf(r, make([][]int, many)...))
		hand(fmt.Sprint(many, " lists empty"), eachOf(r, filled(many, []int{})...))
	}
	wrongLists(r, func(what string, wrong []int) {
		hand("One, a list of "+what, oneOf(r, wrong))
		for _, at := range []int{0, 1, 100, 254, 255} {
			hand(fmt.Sprint(what, " at ", at, " among right ones"), eachOf(r, changed(filled(256, q), at, wrong)...))
			hand(fmt.Sprint(what, " at ", at, " among empty ones"), eachOf(r, changed(make([][]int, 256), at, wrong)...))
		}
	})
}

// makers are both calls that make a model, with what they tell in the chapter's words.
func makers() map[string][2]func([]byte) (api.Model, api.Errno) {
	return map[string][2]func([]byte) (api.Model, api.Errno){
		"Zero":  {Zero, zeroByWords},
		"First": {First, firstByWords},
	}
}

// mustMake is the model that a call makes of bytes.
func mustMake(t *testing.T, make func([]byte) (api.Model, api.Errno), b []byte) api.Model {
	t.Helper()
	m, e := make(b)
	if e != api.OK {
		t.Fatalf("%v: error %d", b[:min(len(b), 20)], e)
	}
	return m
}

// mustLists holds a model's lists to some that are written out; all others of a model of 256 must be empty.
func mustLists(t *testing.T, what string, m api.Model, want map[int][]int) {
	t.Helper()
	for c, q := range m.Counts {
		if !slices.Equal(q, want[c]) {
			t.Errorf("%s: list %d is %v, want %v", what, c, q, want[c])
		}
	}
}

// P16.1: the chapter's example.
func TestExample(t *testing.T) {
	m, e := Zero([]byte{7, 7, 7})
	if e != api.OK || m.Log != 5 || !m.One || len(m.Counts) != 1 || !slices.Equal(m.Counts[0], with(7, 32)) {
		t.Errorf("%v, error %d", m, e)
	}
}

// P16.1: models that are written out.
func TestWrittenOut(t *testing.T) {
	for _, x := range []struct {
		b    []byte
		one  []int
		each map[int][]int
	}{
		{[]byte{0}, with(0, 32), map[int][]int{0: with(0, 32)}},
		{[]byte{7}, with(7, 32), map[int][]int{0: with(7, 32)}},
		{[]byte{7, 7, 7}, with(7, 32), map[int][]int{0: with(7, 32), 7: with(7, 32)}},
		{[]byte{255, 0}, with(0, 16, 255, 16), map[int][]int{0: with(255, 32), 255: with(0, 32)}},
		{[]byte{0, 255}, with(0, 16, 255, 16), map[int][]int{0: with(0, 16, 255, 16)}},
		{[]byte{1, 1, 2}, with(1, 21, 2, 11), map[int][]int{0: with(1, 32), 1: with(1, 16, 2, 16)}},
		{[]byte{1, 1, 2, 1}, with(1, 24, 2, 8), map[int][]int{0: with(1, 32), 1: with(1, 16, 2, 16), 2: with(1, 32)}},
		{[]byte{9, 0, 9, 0, 8}, with(0, 13, 8, 6, 9, 13), map[int][]int{0: with(8, 11, 9, 21), 9: with(0, 32)}},
	} {
		what := fmt.Sprint(x.b)
		zero := mustMake(t, Zero, x.b)
		if zero.Log != 5 || !zero.One || len(zero.Counts) != 1 {
			t.Errorf("%s: %v", what, zero)
		}
		mustLists(t, what, zero, map[int][]int{0: x.one})
		first := mustMake(t, First, x.b)
		if first.Log != 5 || first.One || len(first.Counts) != 256 {
			t.Errorf("%s: log %d, One %v, %d lists", what, first.Log, first.One, len(first.Counts))
		}
		mustLists(t, what, first, x.each)
	}
}

// P16.1: of bytes of many kinds what the chapter's words tell, by the layers below.
func TestByWords(t *testing.T) {
	for call, both := range makers() {
		texts(func(what string, b []byte) {
			m, e := both[0](b)
			want, none := both[1](b)
			if e != api.OK || none != api.OK || !alike(m, want) {
				t.Errorf("%s of %s: error %d, %d; log %d, %v, want log %d, %v", call, what, e, none, m.Log, m.One, want.Log, want.One)
			}
		})
	}
}

// P16.1: the logs, written out: the least that may be, the most, and some between, by how many bytes there are and by how many are unlike.
func TestLogs(t *testing.T) {
	for _, x := range []struct {
		what        string
		b           []byte
		zero, first int
	}{
		{"one byte", []byte{7}, 5, 5},
		{"255 of two", drawn(1, 255, 2, 0), 5, 5},
		{"256 of two", drawn(1, 256, 2, 0), 6, 6},
		{"511 of two", drawn(1, 511, 2, 0), 6, 6},
		{"512 of two", drawn(1, 512, 2, 0), 7, 7},
		{"1024 of two", drawn(1, 1024, 2, 0), 8, 8},
		{"2047 of two", drawn(1, 2047, 2, 0), 8, 8},
		{"2048 of two", drawn(1, 2048, 2, 0), 9, 9},
		{"4096 of two", drawn(1, 4096, 2, 0), 10, 9},
		{"8191 of two", drawn(1, 8191, 2, 0), 10, 9},
		{"8192 of two", drawn(1, 8192, 2, 0), 11, 9},
		{"16384 of two", drawn(1, 16384, 2, 0), 11, 9},
		{"131072 alike", again(3, 131072), 11, 9},
		{"32 unlike", rising(0, 32), 5, 5},
		{"33 unlike", rising(0, 33), 6, 5},
		{"64 unlike", rising(0, 64), 6, 5},
		{"65 unlike", rising(0, 65), 7, 5},
		{"129 unlike", rising(0, 129), 8, 5},
		{"all 256", rising(0, 256), 8, 6},
		{"all 256 twice", rising(0, 512), 8, 7},
		{"31 behind 9", wide(9, 31), 5, 5},
		{"32 behind 9", wide(9, 32), 6, 5},
		{"33 behind 9", wide(9, 33), 6, 6},
		{"65 behind 9", wide(9, 65), 7, 7},
		{"128 behind 9", wide(9, 128), 8, 7},
		{"129 behind 9", wide(9, 129), 8, 8},
		{"255 behind 9", wide(9, 255), 8, 8},
	} {
		if m := mustMake(t, Zero, x.b); m.Log != x.zero {
			t.Errorf("Zero of %s: log %d, want %d", x.what, m.Log, x.zero)
		}
		if m := mustMake(t, First, x.b); m.Log != x.first {
			t.Errorf("First of %s: log %d, want %d", x.what, m.Log, x.first)
		}
	}
}

// P16.1: one context alone has many unlike bytes: its list has one of each, and the log is that which it needs; all others have one symbol.
func TestOneWideContext(t *testing.T) {
	m := mustMake(t, First, wide(9, 200))
	if m.Log != 8 || len(m.Counts) != 256 {
		t.Fatalf("log %d, %d lists", m.Log, len(m.Counts))
	}
	for c, q := range m.Counts {
		// Behind 9 are 10 up to 209; behind each of these, but for the last one, is 9; behind 0, that is ahead of all, too.
		switch {
		case c == 9:
			if hist.Many(q) != 200 || q[9] != 0 || q[10] == 0 || q[209] == 0 || q[210] != 0 {
				t.Errorf("the wide list: %v", q)
			}
		case c == 0 || c >= 10 && c < 209:
			if !slices.Equal(q, with(9, 256)) {
				t.Errorf("list %d: %v", c, q)
			}
		case len(q) != 0:
			t.Errorf("list %d: %v", c, q)
		}
	}
}

// P16.1: a list is there just where its context is: behind the first byte's, which is 0, those of all bytes but the last.
func TestListsThere(t *testing.T) {
	texts(func(what string, b []byte) {
		there := map[int]bool{0: true}
		for _, x := range b[:len(b)-1] {
			there[int(x)] = true
		}
		m := mustMake(t, First, b)
		for c, q := range m.Counts {
			if there[c] != norm.Right(q, m.Log) || !there[c] && len(q) != 0 {
				t.Errorf("%s: list %d, there: %v: %v", what, c, there[c], q)
			}
		}
	})
}

// P16.1: the normalized counts of one context hang on no other one: whatever is behind other bytes, its list is the same, as long as the log is.
func TestContextsStandApart(t *testing.T) {
	about := []byte{100, 1, 100, 2, 100, 1, 100, 3, 100, 3, 100, 1, 100, 1, 4, 2}
	want := mustMake(t, First, about).Counts[100]
	if !slices.Equal(want, with(1, 18, 2, 5, 3, 9)) {
		t.Fatalf("%v", want)
	}
	for seed := range uint64(50) {
		draw := drawer(seed)
		var tail []byte
		for range draw(110) {
			if x := draw(30); x != 25 {
				tail = append(tail, byte(x*4))
			}
		}
		for _, b := range [][]byte{slices.Concat(about, tail), slices.Concat(tail, about)} {
			m := mustMake(t, First, b)
			if m.Log != 5 || !slices.Equal(m.Counts[100], want) {
				t.Errorf("%v: log %d, %v", b, m.Log, m.Counts[100])
			}
		}
	}
}

// P16.1, R3, R4: no bytes, nil or not, are ErrArg, and no model is beside it.
func TestNoBytes(t *testing.T) {
	for call, both := range makers() {
		for _, b := range [][]byte{nil, {}, make([]byte, 0, 5), []byte("abc")[3:]} {
			if m, e := both[0](b); e != api.ErrArg || m.Log != 0 || m.One || len(m.Counts) != 0 {
				t.Errorf("%s: %v, error %d", call, m, e)
			}
		}
	}
}

// P16.2: Right of models of both kinds, of each log.
func TestRight(t *testing.T) {
	rightModels(func(what string, m api.Model) {
		if !Right(m) {
			t.Errorf("%s", what)
		}
	})
}

// P16.2: Right of those that aren't, by each cause.
func TestNotRight(t *testing.T) {
	wrongModels(func(what string, m api.Model) {
		if Right(m) {
			t.Errorf("%s", what)
		}
	})
}

// P16.2: each list alone, whichever it is, makes a model wrong, and right again.
func TestEachListIsAsked(t *testing.T) {
	m := eachOf(5, filled(256, halves(5))...)
	for c := range 256 {
		m.Counts[c][7]++
		if Right(m) || len(At(m, 0)) != 0 || Fits(m, nil) {
			t.Errorf("list %d is one too many", c)
		}
		m.Counts[c][7]--
		if !Right(m) {
			t.Errorf("list %d is right again", c)
		}
	}
}

// P16.2: At of a right model is the list of all, or the context's; it may be empty.
func TestAt(t *testing.T) {
	rightModels(func(what string, m api.Model) {
		for c := 0; c < 256; c += 51 {
			want := m.Counts[0]
			if !m.One {
				want = m.Counts[c]
			}
			if q := At(m, c); !slices.Equal(q, want) {
				t.Errorf("%s: at %d: %v, want %v", what, c, q, want)
			}
		}
	})
}

// P16.2: At of each context tells that one's list.
func TestAtEach(t *testing.T) {
	one, each := oneOf(9, halves(9)), eachOf(9, ownSymbols(9)...)
	for c := range 256 {
		if q := At(one, c); !slices.Equal(q, halves(9)) {
			t.Errorf("one list, at %d: %v", c, q)
		}
		if q := At(each, c); !slices.Equal(q, with(c, 512)) {
			t.Errorf("each its own, at %d: %v", c, q)
		}
	}
}

// wrongContexts are numbers that are no context.
func wrongContexts() []int {
	return []int{-1, -2, -256, 256, 257, 511, 512, 1 << 32, 1<<32 + 7, -1 << 32, math.MaxInt, math.MaxInt - 1, math.MinInt, math.MinInt + 1}
}

// P16.2: At of no context is none.
func TestAtNoContext(t *testing.T) {
	rightModels(func(what string, m api.Model) {
		for _, c := range wrongContexts() {
			if q := At(m, c); len(q) != 0 {
				t.Errorf("%s: at %d: %v", what, c, q)
			}
		}
	})
}

// P16.2: At of models that aren't right is none.
func TestAtNotRight(t *testing.T) {
	wrongModels(func(what string, m api.Model) {
		for _, c := range append(wrongContexts(), 0, 1, 7, 99, 100, 101, 200, 254, 255) {
			if q := At(m, c); len(q) != 0 {
				t.Errorf("%s: at %d: %v", what, c, q)
			}
		}
	})
}

// P16.2: Fits, written out.
func TestFits(t *testing.T) {
	zero := mustMake(t, Zero, []byte{5, 0, 6, 6})
	first := mustMake(t, First, []byte{5, 0, 6, 6})
	wide := oneOf(8, all(256, 1))
	for _, x := range []struct {
		b           []byte
		zero, first bool
	}{
		{nil, true, true},
		{[]byte{}, true, true},
		{[]byte{5}, true, true},
		{[]byte{5, 0}, true, true},
		{[]byte{5, 0, 6}, true, true},
		{[]byte{5, 0, 6, 6}, true, true},
		{[]byte{5, 0, 6, 6, 6}, true, true},
		{[]byte{5, 0, 5, 0, 6}, true, true},
		// The first byte is as if behind 0, where 6 is, too, but no 0.
		{[]byte{6}, true, true},
		{[]byte{6, 6}, true, true},
		{[]byte{0}, true, false},
		{[]byte{0, 6}, true, false},
		// What is behind another one alone.
		{[]byte{5, 5}, true, false},
		{[]byte{5, 6}, true, false},
		{[]byte{6, 5}, true, false},
		{[]byte{6, 0}, true, false},
		{[]byte{5, 0, 0}, true, false},
		{[]byte{5, 0, 6, 6, 0}, true, false},
		// What is in no list, and what is behind such.
		{[]byte{7}, false, false},
		{[]byte{5, 7}, false, false},
		{[]byte{5, 0, 6, 6, 7}, false, false},
		{[]byte{5, 0, 6, 7, 6}, false, false},
		{[]byte{255}, false, false},
	} {
		if Fits(zero, x.b) != x.zero {
			t.Errorf("%v: one list: want %v", x.b, x.zero)
		}
		if Fits(first, x.b) != x.first {
			t.Errorf("%v: lists: want %v", x.b, x.first)
		}
		if !Fits(wide, x.b) {
			t.Errorf("%v: all are expected", x.b)
		}
	}
}

// P16.2: the last byte's context may have no list: what has that byte alone fits, what goes on does not.
func TestFitsBehindTheLast(t *testing.T) {
	first := mustMake(t, First, []byte{1, 2, 1, 3})
	for _, x := range []struct {
		b    []byte
		fits bool
	}{{[]byte{1, 3}, true}, {[]byte{1, 3, 1}, false}, {[]byte{1, 3, 0}, false}, {[]byte{1, 2, 1, 3, 3}, false}, {[]byte{1, 2, 1, 2, 1, 3}, true}} {
		if Fits(first, x.b) != x.fits {
			t.Errorf("%v: want %v", x.b, x.fits)
		}
	}
}

// P16.2: of no bytes each right model is one that fits; of empty lists none else.
func TestFitsNoBytes(t *testing.T) {
	rightModels(func(what string, m api.Model) {
		if !Fits(m, nil) || !Fits(m, []byte{}) {
			t.Errorf("%s", what)
		}
	})
	for _, m := range []api.Model{eachOf(7, make([][]int, 256)...), eachOf(7, filled(256, []int{})...)} {
		for x := range 256 {
			if Fits(m, []byte{byte(x)}) {
				t.Errorf("%d, of empty lists", x)
			}
		}
	}
}

// P16.2: models that aren't right fit nothing, no bytes neither.
func TestFitsNotRight(t *testing.T) {
	wrongModels(func(what string, m api.Model) {
		for _, b := range [][]byte{nil, {}, {7}, {7, 7}, {200, 7}, {0}} {
			if Fits(m, b) {
				t.Errorf("%s: %v", what, b)
			}
		}
	})
}

// P16.2: each symbol alone, behind each context: just the one that has a count fits.
func TestFitsEachSymbol(t *testing.T) {
	m := eachOf(5, ownSymbols(5)...)
	m.Counts[0] = all(256, 0)
	for i := range 32 {
		m.Counts[0][8*i+3] = 1
	}
	for x := range 256 {
		if Fits(m, []byte{byte(x)}) != (x%8 == 3) {
			t.Errorf("%d, first", x)
		}
		for _, c := range []byte{3, 11, 123, 251} {
			if Fits(m, []byte{c, c, c, byte(x)}) != (byte(x) == c) || Fits(m, []byte{c, c, byte(x), c}) != (byte(x) == c) {
				t.Errorf("%d, behind %d", x, c)
			}
		}
	}
}

// P16.2: bytes drawn, held against models of others.
func TestFitsByWords(t *testing.T) {
	fit, not := 0, 0
	for seed := range uint64(3000) {
		draw := drawer(seed)
		unlike := 2 + draw(4)
		of := drawn(seed, 1+draw(40), unlike, draw(2))
		b := drawn(seed+9999, draw(12), unlike+draw(2), draw(2))
		for call, both := range makers() {
			m := mustMake(t, both[0], of)
			want := fitsByWords(m, b)
			if Fits(m, b) != want {
				t.Errorf("%s of %v, %v: want %v", call, of, b, want)
			}
			if want {
				fit++
			} else {
				not++
			}
		}
	}
	if fit < 500 || not < 500 {
		t.Errorf("%d fit, %d don't", fit, not)
	}
}

// P16.3: what is made of bytes is right, and fits them, and each beginning of them; with a byte more it does if that has a count behind the last one.
func TestMadeFits(t *testing.T) {
	for call, both := range makers() {
		texts(func(what string, b []byte) {
			m := mustMake(t, both[0], b)
			if !Right(m) || !Fits(m, b) {
				t.Errorf("%s of %s: right: %v, fits: %v", call, what, Right(m), Fits(m, b))
			}
			for cut := len(b) - 1; cut >= 0; cut -= 1 + len(b)/4 {
				if !Fits(m, b[:cut]) {
					t.Errorf("%s of %s: the first %d", call, what, cut)
				}
			}
			for _, x := range []byte{0, 7, b[0], b[len(b)-1], 255} {
				more := append(slices.Clone(b), x)
				if Fits(m, more) != fitsByWords(m, more) {
					t.Errorf("%s of %s: %d behind it", call, what, x)
				}
			}
		})
	}
}

// R5: what Zero and First made is memory of its own: whoever writes into a list, or behind it, changes no other list, be it of the same numbers, no later answer, and no bytes.
func TestMadeIsItsOwn(t *testing.T) {
	for call, both := range makers() {
		for _, b := range [][]byte{drawn(3, 600, 20, 1), wide(9, 30), again(0, 100), rising(0, 256)} {
			mustBeItsOwn(t, call, both[0], b)
		}
	}
}

// mustBeItsOwn writes into each list of a model that is made of bytes, and into the bytes, and holds all else to what it was.
func mustBeItsOwn(t *testing.T, call string, make func([]byte) (api.Model, api.Errno), b []byte) {
	t.Helper()
	kept := bytes.Clone(b)
	one, want := mustMake(t, make, b), mustMake(t, make, b)
	for c := range one.Counts {
		clear(one.Counts[c])
		if len(one.Counts[c]) > 0 {
			_ = append(one.Counts[c], 5)
		}
		if !alike(eachOf(5, one.Counts[c+1:]...), eachOf(5, want.Counts[c+1:]...)) {
			t.Fatalf("%s: writing into list %d changed those behind it", call, c)
		}
	}
	if !alike(mustMake(t, make, b), want) || !bytes.Equal(b, kept) {
		t.Errorf("%s: what was told first was written to, and the later answer is another one", call)
	}
	clear(b)
	if !alike(want, mustMake(t, make, kept)) {
		t.Errorf("%s: the bytes were written to, and the model is another one", call)
	}
}

// R5: what At tells is memory of its own.
func TestToldIsItsOwn(t *testing.T) {
	rightModels(func(what string, m api.Model) {
		kept := copied(m)
		for _, c := range []int{0, 100} {
			q := At(m, c)
			want := slices.Clone(q)
			for i := range q {
				q[i] = -9
			}
			_ = append(q, 9)
			if !same(m, kept) || !slices.Equal(At(m, c), want) {
				t.Errorf("%s: written to what was told at %d", what, c)
			}
		}
	})
	m := oneOf(5, halves(5))
	q := At(m, 3)
	m.Counts[0][7], m.Counts[0][8] = 15, 1
	if !slices.Equal(q, halves(5)) || !slices.Equal(At(m, 3), with(7, 15, 8, 1, 200, 16)) {
		t.Errorf("the model was written to, and what was told is %v", q)
	}
}

// R5: bytes and models that were handed in stay as they are, nil or not.
func TestNothingIsChanged(t *testing.T) {
	asked := 0
	ask := func(what string, m api.Model) {
		// Each seventh is enough: so each cause comes with some log.
		if asked++; asked%7 != 0 {
			return
		}
		kept := copied(m)
		b := []byte{7, 200, 7, 9}
		Right(m)
		At(m, 0)
		At(m, 256)
		Fits(m, b)
		Fits(m, nil)
		if !same(m, kept) || !bytes.Equal(b, []byte{7, 200, 7, 9}) {
			t.Errorf("%s: changed", what)
		}
	}
	rightModels(ask)
	wrongModels(ask)
	texts(func(what string, b []byte) {
		kept := bytes.Clone(b)
		zero, first := mustMake(t, Zero, b), mustMake(t, First, b)
		Fits(zero, b)
		Fits(first, b)
		if !bytes.Equal(b, kept) {
			t.Errorf("%s: changed", what)
		}
	})
	// What lies behind the bytes isn't touched either.
	long := []byte{1, 1, 2, 8, 9}
	mustMake(t, Zero, long[:3])
	mustMake(t, First, long[:3])
	if !bytes.Equal(long, []byte{1, 1, 2, 8, 9}) {
		t.Errorf("%v", long)
	}
}

// R6: the same arguments have the same answer, whatever was asked ahead.
func TestSameAnswerEachTime(t *testing.T) {
	for call, both := range makers() {
		var told []api.Model
		texts(func(what string, b []byte) {
			m := mustMake(t, both[0], b)
			if two := mustMake(t, both[0], b); !alike(m, two) {
				t.Errorf("%s of %s, the second time", call, what)
			}
			told = append(told, m)
		})
		texts(func(what string, b []byte) {
			if !alike(told[0], mustMake(t, both[0], b)) {
				t.Errorf("%s of %s, later", call, what)
			}
			told = told[1:]
		})
	}
	for range 3 {
		right, wrong := oneOf(5, halves(5)), oneOf(6, halves(5))
		if !Right(right) || Right(wrong) || !Fits(right, []byte{7}) || Fits(wrong, nil) || len(At(right, 1)) != 256 || len(At(wrong, 1)) != 0 {
			t.Errorf("asked in turns")
		}
	}
}

// R5, R6: a model is asked as it is then: what it was ahead is not kept.
func TestAskedAsItIs(t *testing.T) {
	m := oneOf(5, with(7, 32))
	for x := range 256 {
		clear(m.Counts[0])
		m.Counts[0][x] = 32
		for y := range 256 {
			if Fits(m, []byte{byte(y)}) != (x == y) {
				t.Fatalf("%d, of a list of %d", y, x)
			}
		}
	}
	m.Log = 6
	if Right(m) || Fits(m, nil) {
		t.Error("another log")
	}
}
