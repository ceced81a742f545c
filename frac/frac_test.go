package frac

import (
	"fmt"
	"math"
	"math/big"
	"slices"
	"testing"
)

// key is I / Q, of a symbol.
func key(i, q, s int) Key { return Key{I: i, Q: q, S: s} }

// mustBe holds an answer to what it must be.
func mustBe[T comparable](t *testing.T, what string, got, want T) {
	t.Helper()
	if got != want {
		t.Fatalf("%s: %v, want %v", what, got, want)
	}
}

// mustBeRight holds Right of a key to what it must be.
func mustBeRight(t *testing.T, k Key, want bool) {
	t.Helper()
	mustBe(t, fmt.Sprint("Right of ", k), Right(k), want)
}

// mustCompare holds Cmp of two to what it must be, and of both turned about.
func mustCompare(t *testing.T, a, b Key, want int) {
	t.Helper()
	mustBe(t, fmt.Sprint("Cmp of ", a, " and ", b), Cmp(a, b), want)
	mustBe(t, fmt.Sprint("Cmp of ", b, " and ", a), Cmp(b, a), -want)
}

// mustGoOn holds Next of a key to another one, and true.
func mustGoOn(t *testing.T, k, want Key) {
	t.Helper()
	if got, ok := Next(k); !ok || got != want {
		t.Fatalf("Next of %v: %v %v, want %v and true", k, got, ok, want)
	}
}

// mustEnd holds Next of a key to zeros, and false (R3).
func mustEnd(t *testing.T, k Key) {
	t.Helper()
	if got, ok := Next(k); ok || got != (Key{}) {
		t.Fatalf("Next of %v: %v %v, want zeros and false", k, got, ok)
	}
}

// mustScale holds Scaled to both numbers.
func mustScale(t *testing.T, k Key, l, lo, hi int) {
	t.Helper()
	gotLo, gotHi := Scaled(k, l)
	if gotLo != lo || gotHi != hi {
		t.Fatalf("Scaled of %v by %d: %d %d, want %d %d", k, l, gotLo, gotHi, lo, hi)
	}
}

// plainCmp is Cmp of right ones, in the chapter's words, by the library's fractions.
func plainCmp(a, b Key) int {
	if c := big.NewRat(int64(a.I), int64(a.Q)).Cmp(big.NewRat(int64(b.I), int64(b.Q))); c != 0 {
		return c
	}
	switch {
	case a.S < b.S:
		return -1
	case a.S > b.S:
		return 1
	}
	return 0
}

// plainScaled is Scaled of a right key, and an l that may be: both numbers are looked for, from l on.
func plainScaled(k Key, l int) (lo, hi int) {
	lo = l
	for (lo+1)*k.Q <= l*k.I {
		lo++
	}
	hi = lo
	for hi*k.Q < l*k.I {
		hi++
	}
	return lo, hi
}

// extremes are numbers as great and as small as an int can be, and such as wrap round when they are doubled or added to.
func extremes() []int {
	return []int{math.MinInt, math.MinInt + 1, math.MinInt / 2, math.MinInt/2 + 1, -1 << 32, 1 << 32, 1<<32 + 3, 1 << 61, 1<<62 - 1, 1 << 62, 1<<62 + 1, math.MaxInt - 1, math.MaxInt}
}

// wrongKeys are such as aren't right: each bound is passed by one, and by far.
func wrongKeys() []Key {
	l := []Key{
		{}, key(0, 0, 5), key(1, 0, 0), key(-1, 0, 0),
		key(0, -1, 0), key(-1, -1, 0), key(-2, -1, 0), key(-3, -1, 0), key(-3, -2, 0), key(-2, -2, 0), key(3, -2, 0), key(-3, 2, 0),
		key(0, 1, 0), key(2, 1, 0), key(1, 2, 0), key(4, 2, 0), key(2, 3, 0), key(6, 3, 0),
		key(4095, 4096, 0), key(8192, 4096, 0), key(8193, 4096, 255),
		key(4097, 4097, 0), key(6000, 4097, 0), key(8193, 4097, 0), key(4098, 4098, 3), key(10000, 8192, 3),
		key(3, 2, -1), key(3, 2, 256), key(3, 2, 257), key(3, 2, 65536), key(1, 1, -1), key(1, 1, 256), key(8191, 4096, -1), key(8191, 4096, 256),
		key(1, 2, -1), key(4, 2, 256), key(5000, 5000, 256),
	}
	for _, x := range extremes() {
		l = append(l, key(x, 2, 0), key(x, 4096, 255), key(3, x, 0), key(3, 2, x), key(x, x, 0), key(x, x, x), key(x+1, x, 0), key(2*x-1, x, 0))
	}
	return l
}

// someKeys are right ones of all kinds: all of small Qs, with three symbols, and the ends and the midst of great ones.
func someKeys() []Key {
	var l []Key
	for _, s := range []int{0, 7, 255} {
		for q := 1; q <= 9; q++ {
			for i := q; i < 2*q; i++ {
				l = append(l, key(i, q, s))
			}
		}
		for _, q := range []int{64, 255, 256, 1000, 2047, 2048, 4094, 4095, 4096} {
			for _, i := range []int{q, q + 1, q + q/3, q + q/2, 2*q - 2, 2*q - 1} {
				l = append(l, key(i, q, s))
			}
		}
	}
	return l
}

// P9.1, P9.2: the chapter's examples.
func TestExamples(t *testing.T) {
	for a := range 256 {
		for b := range 256 {
			mustCompare(t, key(3, 2, a), key(5, 3, b), -1)
		}
	}
	mustScale(t, key(3, 2, 0), 5, 7, 8)
}

// P9.1: Right at each bound of Q, one within and one beyond.
func TestRightByQ(t *testing.T) {
	mustBeRight(t, key(0, 0, 0), false)
	mustBeRight(t, key(1, 0, 0), false)
	mustBeRight(t, key(-1, -1, 0), false)
	mustBeRight(t, key(-2, -1, 0), false)
	mustBeRight(t, key(1, 1, 0), true)
	mustBeRight(t, key(2, 2, 0), true)
	mustBeRight(t, key(5000, 4095, 0), true)
	mustBeRight(t, key(5000, 4096, 0), true)
	mustBeRight(t, key(5000, 4097, 0), false)
	mustBeRight(t, key(4097, 4097, 0), false)
}

// P9.1: Right at both bounds of I, of each Q: one within and one beyond.
func TestRightByI(t *testing.T) {
	for q := 1; q <= 4096; q++ {
		mustBeRight(t, key(q-1, q, 0), false)
		mustBeRight(t, key(q, q, 0), true)
		mustBeRight(t, key(2*q-1, q, 0), true)
		mustBeRight(t, key(2*q, q, 0), false)
		mustBeRight(t, key(-q, q, 0), false)
		mustBeRight(t, key(0, q, 0), false)
	}
}

// P9.1: Right at both bounds of S: one within and one beyond.
func TestRightByS(t *testing.T) {
	for s := range 256 {
		mustBeRight(t, key(1, 1, s), true)
		mustBeRight(t, key(8191, 4096, s), true)
	}
	for _, s := range []int{-256, -255, -2, -1, 256, 257, 511, 512} {
		mustBeRight(t, key(1, 1, s), false)
		mustBeRight(t, key(8191, 4096, s), false)
	}
}

// P9.1, R1: Right of numbers as great and as small as an int can be, and of all that is beyond a bound.
func TestNotRight(t *testing.T) {
	for _, k := range wrongKeys() {
		mustBeRight(t, k, false)
	}
	numbers := append(extremes(), 0, -1)
	for _, i := range numbers {
		for _, q := range numbers {
			for _, s := range append(numbers, 5) {
				mustBeRight(t, key(i, q, s), false)
			}
		}
	}
}

// P9.1: right keys, and no others, of all small numbers.
func TestAllSmallKeys(t *testing.T) {
	many := 0
	for q := -20; q <= 20; q++ {
		for i := -50; i <= 50; i++ {
			for _, s := range []int{-1, 0, 255, 256} {
				if Right(key(i, q, s)) {
					many++
				}
			}
		}
	}
	// Of each Q there are as many as it is, of two symbols each.
	mustBe(t, "how many are right", many, 2*20*21/2)
}

// P9.1: the lesser fraction is ahead, whatever the symbols are.
func TestLessAndGreater(t *testing.T) {
	for _, s := range [][2]int{{0, 0}, {0, 1}, {1, 0}, {0, 255}, {255, 0}, {9, 9}} {
		a, b := s[0], s[1]
		mustCompare(t, key(1, 1, a), key(3, 2, b), -1)
		mustCompare(t, key(4, 3, a), key(3, 2, b), -1)
		mustCompare(t, key(2, 2, a), key(3, 2, b), -1)
		// 3 is more than 2, and 5 less than 7, of the greater and the lesser fraction.
		mustCompare(t, key(7, 5, a), key(3, 2, b), -1)
		mustCompare(t, key(4096, 4096, a), key(4096, 4095, b), -1)
	}
}

// P9.1: fractions that are as close as may be are not alike: what rounds would not tell them apart.
func TestCloseFractions(t *testing.T) {
	for _, s := range [][2]int{{0, 0}, {0, 255}, {255, 0}} {
		a, b := s[0], s[1]
		mustCompare(t, key(8189, 4095, a), key(8191, 4096, b), -1)
		mustCompare(t, key(4097, 4096, a), key(4096, 4095, b), -1)
		mustCompare(t, key(4096, 4095, a), key(4095, 4094, b), -1)
		mustCompare(t, key(8187, 4094, a), key(8189, 4095, b), -1)
		mustCompare(t, key(6143, 4096, a), key(3, 2, b), -1)
		mustCompare(t, key(3, 2, a), key(6145, 4096, b), -1)
	}
}

// P9.1: of fractions that are as great, of other numbers too, the lesser symbol is ahead, and like ones are alike.
func TestAsGreat(t *testing.T) {
	for _, x := range [][2]Key{
		{key(3, 2, 0), key(3, 2, 0)}, {key(3, 2, 0), key(6, 4, 0)}, {key(6, 4, 0), key(3, 2, 0)}, {key(3, 2, 0), key(6144, 4096, 0)},
		{key(1, 1, 0), key(4096, 4096, 0)}, {key(5, 3, 0), key(6825, 4095, 0)}, {key(10, 6, 0), key(15, 9, 0)}, {key(8191, 4096, 0), key(8191, 4096, 0)},
	} {
		for _, s := range []int{0, 1, 100, 254, 255} {
			for other := range 256 {
				a, b := x[0], x[1]
				a.S, b.S = s, other
				mustCompare(t, a, b, plainCmp(a, b))
			}
		}
	}
	mustCompare(t, key(6, 4, 1), key(3, 2, 1), 0)
	mustCompare(t, key(6, 4, 1), key(3, 2, 2), -1)
	mustCompare(t, key(6, 4, 3), key(3, 2, 2), 1)
	mustCompare(t, key(6, 4, 0), key(3, 2, 255), -1)
	mustCompare(t, key(6, 4, 255), key(3, 2, 0), 1)
}

// P9.1: right keys of all kinds, each held against each, as the chapter's words tell it.
func TestCmpByTheChaptersWords(t *testing.T) {
	l := someKeys()
	for _, a := range l {
		for _, b := range l {
			mustBe(t, fmt.Sprint("Cmp of ", a, " and ", b), Cmp(a, b), plainCmp(a, b))
		}
	}
}

// P9.1, R1: Cmp is 0, if one or both aren't right.
func TestCmpOfWrongKeys(t *testing.T) {
	wrong := wrongKeys()
	for _, a := range wrong {
		for _, b := range []Key{key(1, 1, 0), key(3, 2, 0), key(3, 2, 255), key(8191, 4096, 7)} {
			mustCompare(t, a, b, 0)
		}
		for _, b := range wrong {
			mustCompare(t, a, b, 0)
		}
	}
}

// P9.1: Next has I one more, and all else as it is.
func TestNext(t *testing.T) {
	mustGoOn(t, key(2, 2, 0), key(3, 2, 0))
	mustGoOn(t, key(3, 3, 7), key(4, 3, 7))
	mustGoOn(t, key(4, 3, 7), key(5, 3, 7))
	mustGoOn(t, key(4096, 4096, 255), key(4097, 4096, 255))
	mustGoOn(t, key(8190, 4096, 255), key(8191, 4096, 255))
}

// P9.1: from a symbol's first key Next leads to all of them, as many as Q is, and behind the last one there is none.
func TestNextToTheLast(t *testing.T) {
	for _, q := range []int{1, 2, 3, 10, 255, 256, 4095, 4096} {
		for _, s := range []int{0, 1, 255} {
			k := key(q, q, s)
			for range q - 1 {
				next := key(k.I+1, q, s)
				mustGoOn(t, k, next)
				k = next
			}
			mustBe(t, "the last one", k, key(2*q-1, q, s))
			mustEnd(t, k)
		}
	}
}

// P9.1, R1, R3: of what isn't right there is no next one, not even where I with one more were right.
func TestNextOfWrongKeys(t *testing.T) {
	for _, k := range wrongKeys() {
		mustEnd(t, k)
	}
	for q := 1; q <= 4096; q++ {
		mustEnd(t, key(q-1, q, 0))
		mustEnd(t, key(2*q, q, 0))
	}
}

// P9.2: both are the same where there is nothing to round.
func TestScaledToWholeNumbers(t *testing.T) {
	mustScale(t, key(3, 2, 0), 4, 6, 6)
	mustScale(t, key(5, 3, 9), 3, 5, 5)
	mustScale(t, key(10, 6, 9), 3, 5, 5)
	mustScale(t, key(3, 2, 0), 4096, 6144, 6144)
	mustScale(t, key(8191, 4096, 255), 4096, 8191, 8191)
	for q := 1; q <= 4096; q++ {
		mustScale(t, key(q, q, 0), 1, 1, 1)
		mustScale(t, key(q, q, 0), 32, 32, 32)
		mustScale(t, key(q, q, 0), 4096, 4096, 4096)
		mustScale(t, key(2*q-1, q, 0), q, 2*q-1, 2*q-1)
	}
}

// P9.2: where it isn't a whole number, one is rounded down, and one up, however little is missing.
func TestScaledAndRounded(t *testing.T) {
	mustScale(t, key(3, 2, 0), 1, 1, 2)
	mustScale(t, key(3, 2, 255), 3, 4, 5)
	mustScale(t, key(4, 3, 0), 2, 2, 3)
	mustScale(t, key(5, 3, 0), 2, 3, 4)
	mustScale(t, key(4097, 4096, 0), 1, 1, 2)
	mustScale(t, key(8191, 4096, 0), 1, 1, 2)
	mustScale(t, key(8191, 4096, 0), 4095, 8189, 8190)
	mustScale(t, key(4097, 4096, 0), 4095, 4095, 4096)
	mustScale(t, key(8189, 4095, 0), 4096, 8190, 8191)
	mustScale(t, key(4096, 4095, 0), 4096, 4097, 4098)
}

// P9.2: keys of all kinds, held to the chapter's words; the symbol changes nothing.
func TestScaledByTheChaptersWords(t *testing.T) {
	for _, k := range someKeys() {
		for _, l := range []int{1, 2, 3, 5, 8, 32, 100, 255, 256, 1000, 2048, 4094, 4095, 4096} {
			lo, hi := plainScaled(k, l)
			mustScale(t, k, l, lo, hi)
		}
	}
}

// P9.2, R1: no l that is below 1 or above 4096.
func TestScaledByWrongNumbers(t *testing.T) {
	for _, k := range []Key{key(1, 1, 0), key(3, 2, 0), key(3, 3, 9), key(8191, 4096, 255)} {
		for _, l := range append(extremes(), 0, -1, -2, -4096, 4097, 4098, 8192) {
			mustScale(t, k, l, 0, 0)
		}
	}
}

// P9.2, R1: no key that isn't right.
func TestScaledOfWrongKeys(t *testing.T) {
	for _, k := range wrongKeys() {
		for _, l := range append(extremes(), -1, 0, 1, 2, 32, 4096, 4097) {
			mustScale(t, k, l, 0, 0)
		}
	}
}

// P9.3: the order turns about, and only like fractions of one symbol are alike.
func TestOrderTurnsAbout(t *testing.T) {
	l := someKeys()
	for _, a := range l {
		for _, b := range l {
			c := Cmp(a, b)
			mustBe(t, fmt.Sprint("Cmp turned about, of ", a, " and ", b), Cmp(b, a), -c)
			alike := a.I*b.Q == b.I*a.Q && a.S == b.S
			mustBe(t, fmt.Sprint("alike, ", a, " and ", b), c == 0, alike)
		}
	}
}

// P9.3: the order holds over three keys: who is not behind another one is not behind whoever that one is not behind.
func TestOrderOverThree(t *testing.T) {
	var l []Key
	for i, k := range someKeys() {
		// A third of all will do, as each is held against each twice.
		if i%3 == 0 || k.Q <= 4 {
			l = append(l, k)
		}
	}
	for _, a := range l {
		for _, b := range l {
			ab := Cmp(a, b)
			for _, c := range l {
				if ab <= 0 && Cmp(b, c) <= 0 && (Cmp(a, c) > 0 || ab < 0 && Cmp(a, c) == 0) {
					t.Fatalf("%v, %v, %v: the order does not hold", a, b, c)
				}
			}
		}
	}
}

// P9.3: sorted by Cmp, keys stand as they stand sorted by the chapter's words, whatever order they came in.
func TestSorted(t *testing.T) {
	l := someKeys()
	// Of keys that are alike one is kept, so that there is but one order.
	var want []Key
	for _, k := range l {
		if !slices.ContainsFunc(want, func(o Key) bool { return plainCmp(o, k) == 0 }) {
			want = append(want, k)
		}
	}
	got := slices.Clone(want)
	slices.SortFunc(want, plainCmp)
	for range 2 {
		slices.SortFunc(got, Cmp)
		if !slices.Equal(got, want) {
			t.Fatal("sorted otherwise")
		}
		slices.Reverse(got)
	}
}

// P9.3: a symbol's keys rise, and rising keys are scaled to rising numbers.
func TestRising(t *testing.T) {
	for _, q := range []int{2, 3, 100, 4096} {
		k := key(q, q, 3)
		for next, ok := Next(k); ok; next, ok = Next(k) {
			mustCompare(t, k, next, -1)
			lo, hi := Scaled(k, 4096)
			nextLo, nextHi := Scaled(next, 4096)
			if nextLo <= lo || nextHi <= hi {
				t.Fatalf("%v: %d %d, and then %d %d", k, lo, hi, nextLo, nextHi)
			}
			k = next
		}
		mustBe(t, "the last one", k, key(2*q-1, q, 3))
	}
}

// R6: asked again, all answer the same.
func TestSameAgain(t *testing.T) {
	a, b := key(6, 4, 3), key(3, 2, 2)
	for range 3 {
		mustCompare(t, a, b, 1)
		mustGoOn(t, a, key(7, 4, 3))
		mustScale(t, a, 5, 7, 8)
		mustBeRight(t, a, true)
		mustCompare(t, key(4, 2, 0), b, 0)
	}
}
