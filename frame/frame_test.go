package frame_test

import (
	"bytes"
	"math/rand"
	"slices"
	"testing"

	"dynamo/api"
	"dynamo/crc"
	"dynamo/frame"
)

func body(n int) []byte {
	b := make([]byte, n)
	for i := range b {
		b[i] = byte(0x7e + i*5)
	}
	return b
}

func made(t *testing.T, f api.Frame) []byte {
	t.Helper()
	b, err := frame.Bytes(f)
	if err != nil {
		t.Fatal(err)
	}
	return b
}

func same(a, b api.Frame) bool {
	return a.ID == b.ID && a.Seq == b.Seq && bytes.Equal(a.Body, b.Body)
}

func TestBytesOfKnown(t *testing.T) {
	got := made(t, api.Frame{ID: 1, Seq: 2, Body: []byte{3, 4}})
	sum := crc.Sum(1, 2, 2, 3, 4)
	want := []byte{0x7e, 1, 2, 2, 3, 4, byte(sum >> 8), byte(sum)}
	if !bytes.Equal(got, want) {
		t.Errorf("% x, want % x", got, want)
	}
	if got, want := made(t, api.Frame{}), []byte{0x7e, 0, 0, 0, 0xcc, 0x9c}; !bytes.Equal(got, want) {
		t.Errorf("% x, want % x", got, want)
	}
}

func TestBytesOfEachLength(t *testing.T) {
	for n := range api.MaxBody + 1 {
		f := api.Frame{ID: byte(n * 9), Seq: byte(255 - n), Body: body(n)}
		b := made(t, f)
		if len(b) != n+6 || frame.Size(f) != n+6 {
			t.Errorf("%d: %d bytes, Size %d", n, len(b), frame.Size(f))
		}
		if b[0] != 0x7e || b[1] != f.ID || b[2] != f.Seq || int(b[3]) != n || !bytes.Equal(b[4:4+n], f.Body) {
			t.Errorf("%d: % x", n, b)
		}
		if sum := crc.Sum(b[1 : 4+n]...); b[4+n] != byte(sum>>8) || b[5+n] != byte(sum) {
			t.Errorf("%d: sum % x, want %x", n, b[4+n:], sum)
		}
		l, passed := frame.Split(b)
		if len(l) != 1 || passed != 0 || !same(l[0], f) {
			t.Errorf("%d: split to %v, %d", n, l, passed)
		}
	}
}

func TestBytesTooLong(t *testing.T) {
	for _, n := range []int{33, 34, 255, 256, 257, 300} {
		f := api.Frame{Body: body(n)}
		if b, err := frame.Bytes(f); err != api.ErrLong || len(b) != 0 {
			t.Errorf("%d: % x, %v", n, b, err)
		}
	}
}

func TestSizeOfAnyLength(t *testing.T) {
	for _, n := range []int{0, 1, 31, 32, 33, 34, 100, 255, 256, 257, 1000, 1 << 16} {
		f := api.Frame{ID: 3, Seq: 4, Body: make([]byte, n, n+9)}
		if got, want := frame.Size(f), 6+n; got != want {
			t.Errorf("a body of %d: Size %d, want %d", n, got, want)
		}
	}
}

func TestSplitOfNothing(t *testing.T) {
	if l, passed := frame.Split(nil); len(l) != 0 || passed != 0 {
		t.Errorf("%v, %d", l, passed)
	}
}

func TestSplitPassesOver(t *testing.T) {
	a := api.Frame{ID: 5, Seq: 6, Body: []byte{0x7e, 1, 0x7e}}
	b := api.Frame{ID: 7, Seq: 8}
	ab, bb := made(t, a), made(t, b)
	long := append([]byte{0x7e, 1, 1, 33}, body(33)...)
	sum := crc.Sum(long[1:]...)
	long = append(long, byte(sum>>8), byte(sum))
	low := slices.Clone(ab)
	low[len(low)-1]++
	high := slices.Clone(ab)
	high[len(high)-2]++
	inner := made(t, api.Frame{ID: 9, Seq: 9, Body: ab})
	broken := slices.Clone(inner)
	broken[1]++
	for i, c := range []struct {
		in     []byte
		want   []api.Frame
		passed int
	}{
		{slices.Concat(ab, bb), []api.Frame{a, b}, 0},
		{slices.Concat([]byte{1, 2, 0x7e}, ab, []byte{0x7e}, bb, []byte{0x7e, 0}), []api.Frame{a, b}, 6},
		{ab[:len(ab)-1], nil, len(ab) - 1},
		{slices.Concat(ab[:5], bb), []api.Frame{b}, 5},
		{slices.Concat(low, bb), []api.Frame{b}, len(low)},
		{slices.Concat(high, bb), []api.Frame{b}, len(high)},
		{slices.Concat(long, bb), []api.Frame{b}, len(long)},
		{inner, []api.Frame{{ID: 9, Seq: 9, Body: ab}}, 0},            // what stands in a frame is no other one
		{broken, []api.Frame{a}, 6},                                   // where the outer one is none, it is
		{slices.Concat([]byte{0x7e, 0, 0, 3}, bb), []api.Frame{b}, 4}, // the body would reach into the next
		{[]byte{0x7e}, nil, 1},
		{[]byte{0x7e, 0, 0, 0, 0xcc}, nil, 5},
		{[]byte{0x7f, 0, 0, 0, 0xcc, 0x9c}, nil, 6},
	} {
		l, passed := frame.Split(c.in)
		if !slices.EqualFunc(l, c.want, same) || passed != c.passed {
			t.Errorf("%d: %v, %d, want %v, %d", i, l, passed, c.want, c.passed)
		}
	}
}

func TestSplitCountsEveryByte(t *testing.T) {
	r := rand.New(rand.NewSource(6))
	for range 500 {
		var in []byte
		var want []api.Frame
		for range r.Intn(6) {
			for range r.Intn(4) {
				in = append(in, byte(r.Intn(0x7e))) // no mark: no frame begins here
			}
			f := api.Frame{ID: byte(r.Intn(256)), Seq: byte(r.Intn(256)), Body: body(r.Intn(33))}
			in, want = append(in, made(t, f)...), append(want, f)
		}
		kept := slices.Clone(in)
		l, passed := frame.Split(in)
		size := 0
		for _, f := range l {
			size += frame.Size(f)
		}
		if !slices.EqualFunc(l, want, same) || size+passed != len(in) {
			t.Fatalf("% x: %v, %d, want %v", in, l, passed, want)
		}
		if !bytes.Equal(in, kept) {
			t.Fatal("the bytes were changed")
		}
	}
}

func TestMemoryIsNotShared(t *testing.T) {
	f := api.Frame{ID: 1, Seq: 1, Body: append(make([]byte, 0, 40), 1, 2, 3)}
	spare := f.Body[:40]
	b := made(t, f)
	b[4] = 99
	if f.Body[0] != 1 || !bytes.Equal(spare[3:], make([]byte, 37)) {
		t.Error("Bytes shares or writes into the body's memory")
	}
	in := slices.Concat(made(t, f), made(t, f))
	l, _ := frame.Split(in)
	in[4] = 77
	l[1].Body[1] = 88
	_ = append(l[0].Body, 66, 66, 66, 66, 66, 66, 66, 66)
	if !bytes.Equal(l[0].Body, []byte{1, 2, 3}) || !bytes.Equal(l[1].Body, []byte{1, 88, 3}) {
		t.Errorf("bodies share memory: %v", l)
	}
}
