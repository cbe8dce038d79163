package crc_test

import (
	"testing"

	"dynamo/crc"
)

func TestSumOfKnown(t *testing.T) {
	for text, want := range map[string]uint16{"": 0xffff, "123456789": 0x29b1, "A": 0xb915, "\x00": 0xe1f0} {
		if got := crc.Sum([]byte(text)...); got != want {
			t.Errorf("Sum(%q) = %#x, want %#x", text, got, want)
		}
	}
	if got := crc.More(0, []byte("123456789")...); got != 0x31c3 {
		t.Errorf("More(0, ..) = %#x, want 0x31c3", got)
	}
}

func TestMoreGoesOn(t *testing.T) {
	text := []byte("a longer text, with a byte \xff in it")
	for i := range text {
		if got, want := crc.More(crc.Sum(text[:i]...), text[i:]...), crc.Sum(text...); got != want {
			t.Errorf("cut at %d: %#x, want %#x", i, got, want)
		}
	}
	for _, sum := range []uint16{0, 1, 0x8000, 0xffff} {
		if got := crc.More(sum); got != sum {
			t.Errorf("More(%#x) of nothing: %#x", sum, got)
		}
	}
}

func TestRow(t *testing.T) {
	for i, want := range map[byte]uint16{0: 0, 1: 0x1021, 2: 0x2042, 0x10: 0x1231, 0x80: 0x9188, 0xff: 0x1ef0} {
		if got := crc.Row(i); got != want {
			t.Errorf("Row(%#x) = %#x, want %#x", i, got, want)
		}
	}
	for i := range 256 {
		if got, want := crc.Row(byte(i)), crc.More(0, byte(i)); got != want {
			t.Errorf("Row(%d) = %#x, want %#x", i, got, want)
		}
	}
}

// The sum turns bits in, so that which bits are other ones tells alone by how much it is another: a pattern of them against 0.
func TestOneOrTwoOtherBitsChangeTheSum(t *testing.T) {
	seen := map[uint16]int{}
	b := make([]byte, 1000)
	zero := crc.Sum(b...)
	for bit := range 8000 {
		b[bit/8] ^= 0x80 >> (bit % 8)
		other := crc.Sum(b...) ^ zero
		b[bit/8] ^= 0x80 >> (bit % 8)
		if other == 0 {
			t.Fatalf("bit %d doesn't change the sum", bit)
		}
		if ahead, ok := seen[other]; ok {
			t.Fatalf("bits %d and %d together don't change the sum", ahead, bit)
		}
		seen[other] = bit
	}
}

func TestBytesAreNotChanged(t *testing.T) {
	b := []byte{1, 2, 3}
	crc.Sum(b...)
	crc.More(7, b...)
	if b[0] != 1 || b[1] != 2 || b[2] != 3 {
		t.Error("the bytes were changed")
	}
}
