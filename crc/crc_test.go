package crc_test

import (
	"hash/crc32"
	"math"
	"math/bits"
	"math/rand/v2"
	"strings"
	"testing"

	"foghorn/crc"
)

// A seed that stays the same: a run that fails fails again.
func source() *rand.Rand {
	return rand.New(rand.NewPCG(1, 2))
}

func randomText(r *rand.Rand, n int) string {
	b := make([]byte, n)
	for i := range b {
		b[i] = byte(r.Uint32())
	}
	return string(b)
}

func allBytes() string {
	b := make([]byte, 256)
	for i := range b {
		b[i] = byte(i)
	}
	return string(b)
}

func oracle(text string) int {
	return int(crc32.ChecksumIEEE([]byte(text)))
}

// P1.1: the chapter's examples, and others that are known.
func TestSumOfKnownTexts(t *testing.T) {
	for _, c := range []struct {
		text string
		want int
	}{
		{"123456789", 0xCBF43926},
		{"", 0},
		{"a", 0xE8B7BE43},
		{"abc", 0x352441C2},
		{"The quick brown fox jumps over the lazy dog", 0x414FA339},
		{"\x00", 0xD202EF8D},
		{"\x00\x00\x00\x00", 0x2144DF1C},
		{"\xff", 0xFF000000},
		{"\xff\xff\xff\xff", 0xFFFFFFFF},
		{strings.Repeat("\x00", 32), 0x190A55AD},
		{strings.Repeat("\xff", 32), 0xFF6CAB0B},
	} {
		if got := crc.Sum(c.text); got != c.want {
			t.Errorf("Sum(%q) = %X, want %X", c.text, got, c.want)
		}
	}
}

// P1.1: every byte counts, as a byte, also where the text is not UTF-8 (R5).
func TestSumOfEachByte(t *testing.T) {
	for b := range 256 {
		for _, text := range []string{string([]byte{byte(b)}), string([]byte{'x', byte(b), 0}), string([]byte{255, byte(b)})} {
			if got, want := crc.Sum(text), oracle(text); got != want {
				t.Errorf("Sum(%q) = %X, want %X", text, got, want)
			}
		}
	}
	if got, want := crc.Sum(allBytes()), 0x29058C73; got != want {
		t.Errorf("Sum of all bytes = %X, want %X", got, want)
	}
}

// P1.1: sums of all lengths are the usual ones, 0 to 2^32 - 1.
func TestSumOfManyTexts(t *testing.T) {
	r := source()
	for n := range 600 {
		text := randomText(r, n)
		got := crc.Sum(text)
		if got != oracle(text) {
			t.Errorf("Sum(%q) = %X, want %X", text, got, oracle(text))
		}
		if got < 0 || got > 1<<32-1 {
			t.Errorf("Sum(%q) = %d is out of its bounds", text, got)
		}
	}
}

// P1.1: More behind a text's sum is the sum of both, wherever they are cut.
func TestMoreBehindAText(t *testing.T) {
	r := source()
	texts := []string{"", "123456789", "\x00\x00\xff\xff", allBytes()}
	for n := range 40 {
		texts = append(texts, randomText(r, n))
	}
	for _, text := range texts {
		for cut := range len(text) + 1 {
			if got, want := crc.More(crc.Sum(text[:cut]), text[cut:]), oracle(text); got != want {
				t.Errorf("More(Sum(%q), %q) = %X, want %X", text[:cut], text[cut:], got, want)
			}
		}
	}
}

// P1.1: only the low 32 bits of sum count, whatever the others are.
func TestMoreOfAnyNumber(t *testing.T) {
	r := source()
	for _, first := range []string{"", "1234", "\x00", "\xff\xff\xff\xff", randomText(r, 50)} {
		for _, second := range []string{"", "56789", "\x00", "\xff", randomText(r, 50)} {
			for _, high := range []int{0, 1, -1, 2, -2, 1 << 20, -1 << 20, 1<<31 - 1, -1 << 31} {
				sum := crc.Sum(first) + high<<32
				if got, want := crc.More(sum, second), oracle(first+second); got != want {
					t.Errorf("More(%d, %q) behind %q = %X, want %X", sum, second, first, got, want)
				}
			}
		}
	}
}

// P1.1: the empty text behind another one leaves the sum as it is, but for its high bits.
func TestMoreOfNothing(t *testing.T) {
	for _, c := range []struct{ sum, want int }{
		{0, 0},
		{1, 1},
		{0xCBF43926, 0xCBF43926},
		{1<<32 - 1, 1<<32 - 1},
		{1 << 32, 0},
		{-1, 1<<32 - 1},
		{-1 << 32, 0},
		{math.MaxInt, 1<<32 - 1},
		{math.MinInt, 0},
	} {
		if got := crc.More(c.sum, ""); got != c.want {
			t.Errorf("More(%d, \"\") = %X, want %X", c.sum, got, c.want)
		}
	}
}

// P1.2.
func TestFour(t *testing.T) {
	for _, c := range []struct {
		sum  int
		want string
	}{
		{0xCBF43926, "\xcb\xf4\x39\x26"},
		{0x01020304, "\x01\x02\x03\x04"},
		{0, "\x00\x00\x00\x00"},
		{1, "\x00\x00\x00\x01"},
		{0x80, "\x00\x00\x00\x80"},
		{1 << 24, "\x01\x00\x00\x00"},
		{1 << 31, "\x80\x00\x00\x00"},
		{1<<32 - 1, "\xff\xff\xff\xff"},
		{1 << 32, "\x00\x00\x00\x00"},
		{0x1FF020304, "\xff\x02\x03\x04"},
		{-1, "\xff\xff\xff\xff"},
		{-2, "\xff\xff\xff\xfe"},
		{-1 << 31, "\x80\x00\x00\x00"},
		{-1 << 32, "\x00\x00\x00\x00"},
		{0x01020304 - 1<<32, "\x01\x02\x03\x04"},
		{math.MaxInt, "\xff\xff\xff\xff"},
		{math.MinInt, "\x00\x00\x00\x00"},
	} {
		if got := crc.Four(c.sum); got != c.want {
			t.Errorf("Four(%d) = %X, want %X", c.sum, got, c.want)
		}
	}
}

// changed is the text with the four bytes from at on, as far as there are so many, held against those of by (xor).
func changed(text string, at int, by uint32) string {
	b := []byte(text)
	for i := at; i < len(b) && i < at+4; i++ {
		b[i] ^= byte(by >> (8 * (i - at)))
	}
	return string(b)
}

// P1.3: one byte that differs, at each place, in each way.
func TestOneByteDiffers(t *testing.T) {
	r := source()
	for _, n := range []int{1, 2, 5, 16, 128} {
		text := randomText(r, n)
		sum := crc.Sum(text)
		for at := range n {
			for by := 1; by < 256; by++ {
				if other := changed(text, at, uint32(by)); crc.Sum(other) == sum {
					t.Fatalf("%q and %q have the sum %X", text, other, sum)
				}
			}
		}
	}
}

// P1.3: up to four bytes side by side that differ.
func TestFourBytesDiffer(t *testing.T) {
	r := source()
	for _, n := range []int{4, 5, 16, 128} {
		text := randomText(r, n)
		sum := crc.Sum(text)
		for at := range n - 3 {
			for range 500 {
				by := r.Uint32() >> (8 * r.IntN(4))
				if other := changed(text, at, by); other != text && crc.Sum(other) == sum {
					t.Fatalf("%q and %q have the sum %X", text, other, sum)
				}
			}
		}
	}
}

// P1.3: sums of texts of one length differ by what the single bits that differ make of them, xored; the 32 bits of four bytes side by side make 32 numbers of which none is made by others. So no two changes of those bytes make the same of the sum.
func TestBitsOfFourBytesAreIndependent(t *testing.T) {
	r := source()
	for _, n := range []int{4, 7, 128} {
		text := randomText(r, n)
		for at := range n - 3 {
			var rows [32]uint32
			for i := range rows {
				rows[i] = uint32(crc.Sum(text) ^ crc.Sum(changed(text, at, 1<<i)))
			}
			if got := rank(rows); got != 32 {
				t.Errorf("length %d, place %d: %d of 32 bits count", n, at, got)
			}
			by := r.Uint32()
			if got, want := uint32(crc.Sum(text)^crc.Sum(changed(text, at, by))), together(rows, by); got != want {
				t.Errorf("length %d, place %d, change %X: the sum differs by %X, want %X", n, at, by, got, want)
			}
		}
	}
}

// together is the rows that by's bits name, xored.
func together(rows [32]uint32, by uint32) uint32 {
	all := uint32(0)
	for i, row := range rows {
		if by>>i&1 == 1 {
			all ^= row
		}
	}
	return all
}

// rank is how many of the rows are not made of others.
func rank(rows [32]uint32) int {
	var byTop [33]uint32
	n := 0
	for _, row := range rows {
		for row != 0 && byTop[bits.Len32(row)] != 0 {
			row ^= byTop[bits.Len32(row)]
		}
		if row != 0 {
			byTop[bits.Len32(row)] = row
			n++
		}
	}
	return n
}

// P1: long texts and numbers at both ends are answered, too.
func TestNothingPanics(t *testing.T) {
	long := strings.Repeat(allBytes(), 4096)
	if got, want := crc.Sum(long), oracle(long); got != want {
		t.Errorf("Sum of %d bytes = %X, want %X", len(long), got, want)
	}
	for _, sum := range []int{math.MinInt, math.MinInt + 1, -1, 0, 1, math.MaxInt - 1, math.MaxInt} {
		if n := crc.More(sum, long); n < 0 || n > 1<<32-1 {
			t.Errorf("More(%d, ..) = %d is out of its bounds", sum, n)
		}
		if n := len(crc.Four(sum)); n != 4 {
			t.Errorf("Four(%d) has %d bytes", sum, n)
		}
	}
}

// R1: a call answers the same, whatever was called ahead of it.
func TestNothingIsKept(t *testing.T) {
	for range 3 {
		if got := crc.Sum("123456789"); got != 0xCBF43926 {
			t.Errorf("Sum = %X", got)
		}
		if got := crc.More(-1, "\x00"); got != crc.More(1<<32-1, "\x00") {
			t.Errorf("More = %X", got)
		}
		if got := crc.Four(0x01020304); got != "\x01\x02\x03\x04" {
			t.Errorf("Four = %X", got)
		}
		crc.More(crc.Sum("other"), "texts")
		crc.Four(-1)
	}
}
