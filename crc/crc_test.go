package crc

import (
	"bytes"
	"fmt"
	"hash/crc32"
	"math"
	"testing"
)

// manySums are numbers to go on from: the ends, those that the sum itself is made of, and others.
var manySums = []uint32{0, 1, 2, 77, 255, 256, 0x7fffffff, 0x80000000, 0xedb88320, 0x12477cdf, 0x04c11db7, 3421780262, 0xdeadbeef, 0xffffff00, math.MaxUint32 - 1, math.MaxUint32}

// plainAdd goes on from a sum by the chapter's words alone, bit by bit, so that the table is held against something simpler.
func plainAdd(sum uint32, b []byte) uint32 {
	number := turned(uint64(sum))
	for _, bit := range plainBits(b) {
		off := number % 2
		number /= 2
		if off != bit {
			number = turnedWhere(number, 3988292384)
		}
	}
	return uint32(turned(number))
}

// plainBits are all bits, one to an item, in the order in which they stand.
func plainBits(b []byte) []uint64 {
	var out []uint64
	for _, x := range b {
		for v, k := uint64(x), 0; k < 8; k++ {
			out = append(out, v%2)
			v /= 2
		}
	}
	return out
}

func turned(n uint64) uint64 { return 1<<32 - 1 - n }

// turnedWhere has each bit of n turned where w has a bit 1.
func turnedWhere(n, w uint64) uint64 {
	out := uint64(0)
	for worth := uint64(1); worth < 1<<32; worth *= 2 {
		if n/worth%2 != w/worth%2 {
			out += worth
		}
	}
	return out
}

// manyBytes is a list of some length, the same one each time for one seed.
func manyBytes(seed uint64, many int) []byte {
	l := make([]byte, many)
	x := seed
	for i := range l {
		x = x*6364136223846793005 + 1442695040888963407
		l[i] = byte(x >> 40)
	}
	return l
}

// both is a with its bits turned where b has a bit 1; they have one length.
func both(a, b []byte) []byte {
	out := make([]byte, len(a))
	for i := range a {
		out[i] = a[i] ^ b[i]
	}
	return out
}

// turnBit turns the bit at a place, counted from the first byte's lowest one.
func turnBit(b []byte, place int) { b[place/8] ^= 1 << (place % 8) }

func mustBe(t *testing.T, what string, got, want uint32) {
	t.Helper()
	if got != want {
		t.Fatalf("%s: %d, want %d", what, got, want)
	}
}

// P4.1: the chapter's examples, and others whose sums are known.
func TestOfExamples(t *testing.T) {
	c := New()
	for _, x := range []struct {
		text string
		want uint32
	}{
		{"", 0},
		{"123456789", 3421780262},
		{"a", 0xe8b7be43},
		{"abc", 0x352441c2},
		{"\x00", 0xd202ef8d},
		{"\xff", 0xff000000},
		{"\x00\x00\x00\x00", 0x2144df1c},
		{"\xff\xff\xff\xff", math.MaxUint32},
		{"The quick brown fox jumps over the lazy dog", 0x414fa339},
	} {
		mustBe(t, fmt.Sprintf("Of(%q)", x.text), c.Of([]byte(x.text)), x.want)
	}
}

// P4.1: of each byte alone, and of each byte behind another one, the sum is what the words say, bit by bit.
func TestOfEachByte(t *testing.T) {
	c := New()
	for i := range 256 {
		for _, b := range [][]byte{{byte(i)}, {byte(i), 200}, {200, byte(i)}, {0, byte(i), 0}} {
			mustBe(t, fmt.Sprint("Of ", b), c.Of(b), plainAdd(0, b))
		}
	}
}

// P4.1: of lists of all lengths up to some, and of a long one, the sum is what the words say, bit by bit.
func TestOfManyBytes(t *testing.T) {
	c := New()
	for many := range 300 {
		b := manyBytes(uint64(many), many)
		mustBe(t, fmt.Sprintf("Of %d bytes", many), c.Of(b), plainAdd(0, b))
	}
	long := manyBytes(9, 1<<17+3)
	mustBe(t, "Of many bytes", c.Of(long), crc32.ChecksumIEEE(long))
	mustBe(t, "Of many 0s", c.Of(make([]byte, 1<<16)), crc32.ChecksumIEEE(make([]byte, 1<<16)))
}

// P4.1: of the sum of some bytes, Add tells the sum of these and of those behind them, wherever they are cut.
func TestAddCutAnywhere(t *testing.T) {
	c := New()
	for _, b := range [][]byte{[]byte("123456789"), manyBytes(3, 100), make([]byte, 40), bytes.Repeat([]byte{255}, 40)} {
		whole := plainAdd(0, b)
		for i := range len(b) + 1 {
			mustBe(t, fmt.Sprintf("%d bytes cut at %d", len(b), i), c.Add(c.Of(b[:i]), b[i:]), whole)
			for j := i; j <= len(b); j++ {
				sum := c.Add(c.Add(c.Of(b[:i]), b[i:j]), b[j:])
				mustBe(t, fmt.Sprintf("%d bytes cut at %d and %d", len(b), i, j), sum, whole)
			}
		}
	}
}

// P4.1: byte by byte the sum is that of all at once.
func TestAddOneByOne(t *testing.T) {
	c := New()
	b := manyBytes(4, 500)
	sum := c.Of(nil)
	for i := range b {
		sum = c.Add(sum, b[i:i+1])
		mustBe(t, fmt.Sprintf("the first %d bytes, one by one", i+1), sum, plainAdd(0, b[:i+1]))
	}
}

// P4.1: any other number is gone on from as if it were a sum.
func TestAddToAnyNumber(t *testing.T) {
	c := New()
	for _, sum := range manySums {
		for many := range 40 {
			b := manyBytes(uint64(sum), many)
			mustBe(t, fmt.Sprintf("Add(%d) of %d bytes", sum, many), c.Add(sum, b), plainAdd(sum, b))
		}
		for i := range 256 {
			b := []byte{byte(i)}
			mustBe(t, fmt.Sprintf("Add(%d) of the byte %d", sum, i), c.Add(sum, b), plainAdd(sum, b))
		}
	}
}

// P4.1: each number is the sum of four bytes, so that "any number" is no other case than "a sum": going on from it is going on behind these bytes.
func TestAddToAnyNumberIsBehindItsBytes(t *testing.T) {
	c := New()
	for _, want := range manySums {
		ahead := bytesWithSum(c, want)
		mustBe(t, "the bytes' sum", c.Of(ahead), want)
		b := manyBytes(5, 17)
		mustBe(t, fmt.Sprintf("behind the bytes whose sum is %d", want), c.Add(want, b), c.Of(append(ahead, b...)))
	}
}

// bytesWithSum are four bytes of which the sum is known: the bits are found one by one, from the equations that P4.2's likeness gives.
func bytesWithSum(c *Table, sum uint32) []byte {
	zero := c.Of(make([]byte, 4))
	rows := make([][2]uint32, 0, 32) // what a choice of bits differs by, and the choice
	for place := range 32 {
		b := make([]byte, 4)
		turnBit(b, place)
		rows = append(rows, [2]uint32{c.Of(b) ^ zero, 1 << place})
	}
	need, choice := sum^zero, uint32(0)
	for bit := range 32 {
		at := bit
		for at < 31 && rows[at][0]>>bit&1 == 0 {
			at++
		}
		rows[bit], rows[at] = rows[at], rows[bit]
		for i := range rows {
			if i != bit && rows[i][0]>>bit&1 == 1 {
				rows[i][0] ^= rows[bit][0]
				rows[i][1] ^= rows[bit][1]
			}
		}
	}
	for bit := range 32 {
		if need>>bit&1 == 1 {
			choice ^= rows[bit][1]
		}
	}
	return []byte{byte(choice), byte(choice >> 8), byte(choice >> 16), byte(choice >> 24)}
}

// P4.1, R4: no bytes change no sum, be they nil or an empty list.
func TestNoBytes(t *testing.T) {
	c := New()
	mustBe(t, "Of(nil)", c.Of(nil), 0)
	mustBe(t, "Of no bytes", c.Of([]byte{}), 0)
	for _, sum := range manySums {
		mustBe(t, "Add(.., nil)", c.Add(sum, nil), sum)
		mustBe(t, "Add(.., no bytes)", c.Add(sum, []byte{}), sum)
	}
}

// P4.2: Of(b) is Add(0, b).
func TestOfIsAddToZero(t *testing.T) {
	c := New()
	for many := range 100 {
		b := manyBytes(6, many)
		mustBe(t, fmt.Sprintf("Of %d bytes", many), c.Of(b), c.Add(0, b))
	}
}

// P4.2: two texts of one length differ alike in their sums when a third one turns the bits of both.
func TestSumsDifferAlike(t *testing.T) {
	c := New()
	for many := range 80 {
		texts := [][]byte{manyBytes(7, many), manyBytes(8, many), manyBytes(9, many), make([]byte, many), bytes.Repeat([]byte{255}, many)}
		for _, one := range texts {
			for _, two := range texts {
				for _, third := range texts {
					want := c.Of(one) ^ c.Of(two)
					got := c.Of(both(one, third)) ^ c.Of(both(two, third))
					mustBe(t, fmt.Sprintf("texts of %d bytes differ by", many), got, want)
				}
			}
		}
	}
}

// P4.2: one or two bits that are turned within 32 side by side change the sum, wherever they stand: at the beginning, across the ends of bytes, at the end.
func TestTurnedPairIsFound(t *testing.T) {
	c := New()
	b := manyBytes(10, 20)
	sum := c.Of(b)
	last := len(b) * 8
	for i := range last {
		for j := i; j < min(i+32, last); j++ {
			other := bytes.Clone(b)
			turnBit(other, i)
			if j > i {
				turnBit(other, j)
			}
			if c.Of(other) == sum {
				t.Fatalf("bits %d and %d are turned, and the sum is the same", i, j)
			}
		}
	}
}

// P4.2: whichever bits are turned within 32 side by side, the sum is another one; those that the sum turns by itself are among them.
func TestTurnedBitsAreFound(t *testing.T) {
	c := New()
	patterns := []uint32{1, 3, 0x80000000, 0x80000001, 0xedb88320, 0x04c11db7, 0x82608edb, 0xdb710641, 0x0f0f0f0f, math.MaxUint32, math.MaxUint32 - 1}
	for i, x := range manyBytes(11, 400) {
		patterns = append(patterns, uint32(x)*0x9e3779b1+uint32(i)|1)
	}
	for _, many := range []int{4, 5, 9, 33} {
		b := manyBytes(12, many)
		sum := c.Of(b)
		for first := 0; first+32 <= many*8; first++ {
			for _, p := range patterns {
				if c.Of(turnedFrom(b, first, p)) == sum {
					t.Fatalf("of %d bytes the bits %#x from %d on are turned, and the sum is the same", many, p, first)
				}
			}
		}
	}
}

// turnedFrom is a copy of b, with the bits turned, from the first one on, where the pattern has a bit 1.
func turnedFrom(b []byte, first int, pattern uint32) []byte {
	out := bytes.Clone(b)
	for k := range 32 {
		if pattern>>k&1 == 1 {
			turnBit(out, first+k)
		}
	}
	return out
}

// P4.2: bytes of fewer than 32 bits have a sum each of their own, among those of their length.
func TestShortTextsHaveTheirOwnSums(t *testing.T) {
	c := New()
	seen := map[uint32]int{}
	for i := range 1 << 16 {
		sum := c.Of([]byte{byte(i), byte(i >> 8)})
		if k, ok := seen[sum]; ok {
			t.Fatalf("%d and %d have one sum, %d", k, i, sum)
		}
		seen[sum] = i
	}
}

// R5: neither the bytes that are handed in are changed, nor those behind them.
func TestBytesAreNotChanged(t *testing.T) {
	c := New()
	all := manyBytes(13, 200)
	b := bytes.Clone(all)
	c.Of(b[:100])
	c.Add(77, b[:100])
	c.Add(math.MaxUint32, b[50:150])
	if !bytes.Equal(b, all) {
		t.Fatal("the bytes were changed")
	}
}

// R5, R6: nothing is kept: who changes the bytes afterwards changes no sum, and what was asked ahead changes none, nor does another table.
func TestSumsHangOnTheirArgumentsAlone(t *testing.T) {
	c, other := New(), New()
	b := []byte("123456789")
	mustBe(t, "the first time", c.Of(b), 3421780262)
	b[0] = 'x'
	c.Of(b)
	c.Add(5, manyBytes(14, 1000))
	other.Add(6, b)
	mustBe(t, "again", c.Of([]byte("123456789")), 3421780262)
	mustBe(t, "by another table", other.Of([]byte("123456789")), 3421780262)
	mustBe(t, "by one that is made later", New().Of([]byte("123456789")), 3421780262)
}
