package crc_test

import (
	"bytes"
	"strings"
	"testing"

	"lookout/crc"
)

// known are some texts and their sums.
var known = []struct {
	text string
	sum  uint32
}{
	{"", 0xB704CE},
	{"123456789", 0x21CF02},
	{"\x00", 0x6169D3},
	{"\xff", 0xBCECEB},
	{"\x00\x00\x00\x00\x00\x00\x00\x00\x00", 0xEC2801},
	{"a", 0xF25713},
	{"abc", 0xBA1C7B},
	{"message digest", 0xDBF0B6},
	{"abcdefghijklmnopqrstuvwxyz", 0xED3665},
	{strings.Repeat("1234567890", 8), 0x8313BB},
}

// step is a register after a step with a bit, as the document tells it.
func step(s uint32, bit bool) uint32 {
	leaves := s&(1<<23) != 0
	s = s << 1 & 0xFFFFFF
	if leaves != bit {
		s ^= 0x864CFB
	}
	return s
}

// bitwise is More, bit by bit.
func bitwise(s uint32, b []byte) uint32 {
	s &= 0xFFFFFF
	for _, c := range b {
		for k := range 8 {
			s = step(s, c&(0x80>>k) != 0)
		}
	}
	return s
}

// scatter is numbers that look like chance, the same ones each time.
func scatter() func() uint32 {
	x := uint64(88172645463325252)
	return func() uint32 {
		x ^= x << 13
		x ^= x >> 7
		x ^= x << 17
		return uint32(x >> 16)
	}
}

// some is n bytes of next.
func some(next func() uint32, n int) []byte {
	b := make([]byte, n)
	for i := range b {
		b[i] = byte(next())
	}
	return b
}

// sealed is b, and the sum of it behind.
func sealed(b []byte) []byte {
	s := bitwise(0xB704CE, b)
	return append(bytes.Clone(b), byte(s>>16), byte(s>>8), byte(s))
}

// P3.1: Sum of some texts, and of nothing.
func TestSum(t *testing.T) {
	for _, c := range known {
		if s := crc.Sum([]byte(c.text)); s != c.sum {
			t.Errorf("Sum(%q) = %06X, want %06X", c.text, s, c.sum)
		}
	}
	if s := crc.Sum(nil); s != 0xB704CE {
		t.Errorf("Sum(nil) = %06X", s)
	}
}

// P3.1: More of each byte, and of registers with each bit set alone.
func TestMoreOfOneByte(t *testing.T) {
	for c := range 256 {
		b := []byte{byte(c)}
		for k := range 32 {
			s := uint32(1) << k
			for _, s := range []uint32{0, s, ^s, s - 1} {
				if got, want := crc.More(s, b), bitwise(s, b); got != want {
					t.Errorf("More(%08X, % x) = %06X, want %06X", s, b, got, want)
				}
			}
		}
	}
}

// P3.1: More of texts of all short lengths, from whatever register.
func TestMoreOfManyBytes(t *testing.T) {
	next := scatter()
	for n := range 600 {
		s, b := next(), some(next, n)
		if got, want := crc.More(s, b), bitwise(s, b); got != want {
			t.Errorf("More(%08X, % x) = %06X, want %06X", s, b, got, want)
		}
		if got, want := crc.Sum(b), bitwise(0xB704CE, b); got != want {
			t.Errorf("Sum(% x) = %06X, want %06X", b, got, want)
		}
	}
}

// P3.1: only the lower 24 bits of a register count, even where no byte follows.
func TestMoreOfHighBits(t *testing.T) {
	for high := range uint32(256) {
		s := high<<24 | 0xB704CE
		for _, b := range [][]byte{nil, {}} {
			if got := crc.More(s, b); got != 0xB704CE {
				t.Errorf("More(%08X, nothing) = %08X", s, got)
			}
		}
		if got := crc.More(s, []byte("123456789")); got != 0x21CF02 {
			t.Errorf("More(%08X, 123456789) = %08X", s, got)
		}
	}
	for _, s := range []uint32{0, 1, 0x800000, 0xFFFFFF} {
		if got := crc.More(s, nil); got != s {
			t.Errorf("More(%06X, nothing) = %06X", s, got)
		}
	}
}

// P3.1 and P3.2: bytes that are handed in stay as they are.
func TestBytesAreNotChanged(t *testing.T) {
	b := sealed([]byte("123456789"))
	was := bytes.Clone(b)
	crc.Sum(b)
	crc.More(7, b)
	crc.Fits(b)
	crc.Fits(b[:9:9])
	if !bytes.Equal(b, was) {
		t.Errorf("% x have become % x", was, b)
	}
}

// P3.2: Put is the lower 24 bits, the highest first.
func TestPut(t *testing.T) {
	for _, c := range []struct {
		s    uint32
		want string
	}{
		{0, "\x00\x00\x00"},
		{1, "\x00\x00\x01"},
		{0x0100, "\x00\x01\x00"},
		{0x010000, "\x01\x00\x00"},
		{0x123456, "\x12\x34\x56"},
		{0x21CF02, "\x21\xcf\x02"},
		{0xFFFFFF, "\xff\xff\xff"},
		{0x1000000, "\x00\x00\x00"},
		{0xAB123456, "\x12\x34\x56"},
		{0xFFFFFFFF, "\xff\xff\xff"},
	} {
		if b := crc.Put(c.s); string(b) != c.want {
			t.Errorf("Put(%08X) = % x, want % x", c.s, b, c.want)
		}
	}
}

// P3.2: what Put answers is new memory.
func TestPutIsNewMemory(t *testing.T) {
	b := crc.Put(0x123456)
	clear(b)
	if b := crc.Put(0x123456); string(b) != "\x12\x34\x56" {
		t.Errorf("Put = % x", b)
	}
}

// P3.2: bytes with their sum behind them fit; those of the sum alone, too.
func TestFits(t *testing.T) {
	for _, c := range known {
		b := append([]byte(c.text), crc.Put(c.sum)...)
		if !crc.Fits(b) {
			t.Errorf("% x don't fit", b)
		}
	}
	next := scatter()
	for n := range 300 {
		if b := sealed(some(next, n)); !crc.Fits(b) {
			t.Errorf("% x don't fit", b)
		}
	}
}

// P3.2: fewer than three bytes never fit.
func TestFewBytesDoNotFit(t *testing.T) {
	if crc.Fits(nil) || crc.Fits([]byte{}) {
		t.Error("nothing fits")
	}
	for x := range 256 {
		if crc.Fits([]byte{byte(x)}) {
			t.Errorf("%02x fits", x)
		}
		for y := range 256 {
			if crc.Fits([]byte{byte(x), byte(y)}) {
				t.Errorf("%02x %02x fit", x, y)
			}
		}
	}
	b := []byte{0xB7, 0x04, 0xCE}
	for n := range 3 {
		if crc.Fits(b[:n]) {
			t.Errorf("% x fit", b[:n])
		}
	}
}

// P3.2: a nought behind a sum fits too: the last three bytes are Put of Sum of those ahead of them there as well.
func TestNoughtBehindASumFits(t *testing.T) {
	for _, c := range known {
		b := append(append([]byte(c.text), crc.Put(c.sum)...), 0)
		if !crc.Fits(b) {
			t.Errorf("% x don't fit", b)
		}
	}
}

// P3.2: of all that may stand in the last three bytes the sum alone fits.
func TestOneSumFits(t *testing.T) {
	for _, s := range []string{"", "123456789"} {
		n := len(s)
		b := []byte(s + "...")
		sum := bitwise(0xB704CE, b[:n])
		for u := range uint32(1 << 24) {
			// All sums with two of the right bytes, and some of the others.
			d := u ^ sum
			if d&0xFFFF != 0 && d&0xFF00FF != 0 && d&0xFFFF00 != 0 && u%251 != 0 {
				continue
			}
			b[n], b[n+1], b[n+2] = byte(u>>16), byte(u>>8), byte(u)
			if crc.Fits(b) != (u == sum) {
				t.Errorf("of %q, whether %06X fits: %v", s, u, u != sum)
			}
		}
	}
}

// P3.2: the sum stands at the end, its highest byte first.
func TestSumElsewhereDoesNotFit(t *testing.T) {
	for _, s := range []string{
		"123456789\x02\xcf\x21",
		"123456789\x21\xcf\x02\x01",
		"123456789\x21\xcf",
		"123456789\x00\x21\xcf\x02",
		"\x21\xcf\x02123456789",
		"123456789",
		"\x00\x00\x00",
		"\xce\x04\xb7",
	} {
		if crc.Fits([]byte(s)) {
			t.Errorf("% x fit", s)
		}
	}
}

// P3.3: the sum of two texts goes on from the first one's, wherever they meet.
func TestSumOfTwoTexts(t *testing.T) {
	next := scatter()
	for n := range 64 {
		b := some(next, n)
		for k := range n + 1 {
			if got, want := crc.More(crc.Sum(b[:k]), b[k:]), crc.Sum(b); got != want {
				t.Errorf("% x, and % x: %06X, want %06X", b[:k], b[k:], got, want)
			}
		}
	}
}

// turned is b, with the bits of row turned from the bit at place from on; a byte's highest bit is its first.
func turned(b []byte, row uint32, from int) []byte {
	b = bytes.Clone(b)
	for k := range 24 {
		if row&(1<<23>>k) != 0 {
			b[(from+k)/8] ^= 0x80 >> ((from + k) % 8)
		}
	}
	return b
}

// P3.3: whatever is turned within 24 bits in a row, bytes that fit don't any more.
func TestTurnedBitsDoNotFit(t *testing.T) {
	next := scatter()
	rows := []uint32{0xFFFFFF, 0x864CFB, 0xB704CE, 0x800001, 0xAAAAAA, 0x555555}
	for i := range 24 {
		for k := range 24 {
			rows = append(rows, 1<<i|1<<k, 0xFFFFFF>>i&^(1<<k))
		}
	}
	for range 400 {
		rows = append(rows, next()&0xFFFFFF)
	}
	for _, n := range []int{0, 1, 2, 9, 24} {
		b := sealed(some(next, n))
		for from := range 8*len(b) - 23 {
			for _, row := range rows {
				if row != 0 && crc.Fits(turned(b, row, from)) {
					t.Errorf("% x, with %06X turned from bit %d on, fit", b, row, from)
				}
			}
		}
	}
}
