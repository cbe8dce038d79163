package slot_test

import (
	"bytes"
	"math"
	"testing"

	"dynamo/api"
	"dynamo/crc"
	"dynamo/slot"
)

func good() []api.Record {
	top := api.Span{Lo: api.Most, Hi: api.Most}
	return []api.Record{
		{Mode: 1},
		{Seq: math.MaxUint32, Mode: 5, Locks: 1<<21 - 1, Q1: top, Q2: top},
		{Seq: 0x01020304, Mode: 4, Locks: 0x00152637, Q1: api.Span{Lo: 0x11223344, Hi: 0x21324354}, Q2: api.Span{Lo: 5, Hi: api.Most}},
		{Seq: 7, Mode: 2, Q2: api.Span{Lo: 0, Hi: 1}},
	}
}

func bad() []api.Record {
	var l []api.Record
	for _, mode := range []int{0, 6, -1, 257, math.MinInt, math.MaxInt} {
		l = append(l, api.Record{Mode: mode})
	}
	for _, locks := range []uint32{1 << 21, 1<<21 + 1, 1 << 31, math.MaxUint32} {
		l = append(l, api.Record{Mode: 1, Locks: locks})
	}
	for _, q := range []api.Span{{Lo: -1, Hi: 0}, {Lo: -1, Hi: -1}, {Lo: 2, Hi: 1}, {Lo: 0, Hi: api.Most + 1}, {Lo: math.MinInt64}, {Hi: math.MaxInt64}, {Lo: 0, Hi: -1}} {
		l = append(l, api.Record{Mode: 1, Q1: q}, api.Record{Mode: 1, Q2: q})
	}
	return l
}

// summed is b with the right sum.
func summed(b []byte) []byte {
	b = bytes.Clone(b)
	sum := crc.Sum(b[1:42]...)
	b[42], b[43] = byte(sum>>8), byte(sum)
	return b
}

func made(t *testing.T, r api.Record) []byte {
	t.Helper()
	b, err := slot.Bytes(r)
	if err != nil {
		t.Fatal(err)
	}
	return b
}

func TestBytesOfKnown(t *testing.T) {
	got := made(t, good()[2])
	want := summed([]byte{0xa5, 1, 2, 3, 4, 4, 0, 0x15, 0x26, 0x37,
		0, 0, 0, 0, 0x11, 0x22, 0x33, 0x44, 0, 0, 0, 0, 0x21, 0x32, 0x43, 0x54,
		0, 0, 0, 0, 0, 0, 0, 5, 0, 0, 0, 0, 0x40, 0, 0, 0, 0, 0})
	if !bytes.Equal(got, want) {
		t.Errorf("\n% x, want\n% x", got, want)
	}
	if slot.Size != 44 || slot.Mark != 0xa5 {
		t.Error(slot.Size, slot.Mark)
	}
}

func TestCheckBytesRead(t *testing.T) {
	for _, r := range good() {
		if err := slot.Check(r); err != nil {
			t.Errorf("Check %v: %v", r, err)
		}
		b := made(t, r)
		if len(b) != slot.Size {
			t.Errorf("%d bytes", len(b))
		}
		if got, err := slot.Read(b); got != r || err != nil {
			t.Errorf("Read of %v: %v, %v", r, got, err)
		}
	}
	for _, r := range bad() {
		if err := slot.Check(r); err != api.ErrRange {
			t.Errorf("Check %v: %v", r, err)
		}
		if b, err := slot.Bytes(r); err != api.ErrRange || len(b) != 0 {
			t.Errorf("Bytes %v: % x, %v", r, b, err)
		}
	}
}

func TestReadErrorsInOrder(t *testing.T) {
	ok := made(t, good()[2])
	with := func(at int, v byte) []byte {
		b := bytes.Clone(ok)
		b[at] = v
		return b
	}
	for i, c := range []struct {
		b    []byte
		want error
	}{
		{nil, api.ErrShort},
		{ok[:43], api.ErrShort},
		{make([]byte, 43), api.ErrShort},
		{append(bytes.Clone(ok), 0), api.ErrLong},
		{make([]byte, 88), api.ErrLong},
		{make([]byte, 44), api.ErrNone},
		{with(0, 0), api.ErrNone},
		{with(0, 0xa4), api.ErrNone},
		{with(42, ok[42]+1), api.ErrSum},
		{with(43, ok[43]+1), api.ErrSum},
		{with(5, 0), api.ErrSum},
		{summed(with(5, 0)), api.ErrRange},
		{summed(with(5, 6)), api.ErrRange},
		{summed(with(7, 0x20)), api.ErrRange},
		{summed(with(6, 1)), api.ErrRange},
		{summed(with(10, 0x80)), api.ErrRange},
		{summed(with(10, 0xff)), api.ErrRange},
		{summed(with(14, 0x31)), api.ErrRange}, // Lo above Hi
		{summed(with(22, 0x41)), api.ErrRange}, // Hi above Most
		{summed(with(18, 1)), api.ErrRange},
		{summed(with(18, 0xff)), api.ErrRange},
		{summed(with(26, 0x80)), api.ErrRange},
		{summed(with(26, 0x01)), api.ErrRange},
		{summed(with(34, 0x80)), api.ErrRange},
		{summed(with(34, 0x01)), api.ErrRange},
		{summed(with(37, 1)), api.ErrRange},
		{summed(with(41, 1)), api.ErrRange},
	} {
		r, err := slot.Read(c.b)
		if err != c.want || r != (api.Record{}) {
			t.Errorf("%d: %v, %v, want %v", i, r, err, c.want)
		}
	}
}

func TestReadSeesEachBit(t *testing.T) {
	ok := made(t, good()[2])
	for bit := range 8 * slot.Size {
		b := bytes.Clone(ok)
		b[bit/8] ^= 1 << (bit % 8)
		want := api.ErrSum
		if bit < 8 {
			want = api.ErrNone
		}
		if _, err := slot.Read(b); err != want {
			t.Errorf("bit %d: %v", bit, err)
		}
	}
}

func TestReadLooksNotBehind(t *testing.T) {
	long := append(made(t, good()[1]), 9, 9, 9)
	if _, err := slot.Read(long[:44]); err != nil {
		t.Error(err)
	}
	if _, err := slot.Read(long[:43]); err != api.ErrShort {
		t.Error(err)
	}
}
