package sensor_test

import (
	"bytes"
	"math"
	"testing"

	"dynamo/api"
	"dynamo/sensor"
)

// ranges is by channel, from 0.
func ranges() []api.Span {
	l := []api.Span{{}}
	add := func(n int, lo, hi int64) {
		for range n {
			l = append(l, api.Span{Lo: lo, Hi: hi})
		}
	}
	add(4, 0, 60000)
	add(4, -500000, 500000)
	add(3, 0, 60000)
	add(3, 0, 500000)
	add(8, 0, 6000)
	add(2, -500, 1500)
	add(4, -30000, 30000)
	add(1, 0, 127)
	add(16, 0, 1)
	add(2, -500000, 500000)
	return l
}

func TestRange(t *testing.T) {
	l := ranges()
	if len(l) != api.Channels {
		t.Fatal(len(l))
	}
	for ch, want := range l {
		got, ok := sensor.Range(ch)
		if got != want || ok != (ch > 0) {
			t.Errorf("Range(%d) = %v, %v, want %v", ch, got, ok, want)
		}
	}
	for _, ch := range []int{0, -1, math.MinInt, api.Channels, 80, 96, 256, 257, math.MaxInt} {
		if got, ok := sensor.Range(ch); ok || got != (api.Span{}) {
			t.Errorf("Range(%d) = %v, %v", ch, got, ok)
		}
	}
}

func TestPutAndReadEnds(t *testing.T) {
	for ch, r := range ranges() {
		if ch == 0 {
			continue
		}
		for _, v := range []int64{r.Lo, r.Lo + 1, (r.Lo + r.Hi) / 2, r.Hi - 1, r.Hi} {
			f, err := sensor.Put(ch, 200, v)
			n := uint32(v)
			want := []byte{byte(n >> 24), byte(n >> 16), byte(n >> 8), byte(n)}
			if err != nil || int(f.ID) != ch || f.Seq != 200 || !bytes.Equal(f.Body, want) {
				t.Errorf("Put(%d, 200, %d) = %v, %v", ch, v, f, err)
			}
			if c, got, err := sensor.Read(f); c != ch || got != v || err != nil {
				t.Errorf("Read of Put(%d, %d) = %d, %d, %v", ch, v, c, got, err)
			}
		}
		for _, v := range []int64{r.Lo - 1, r.Hi + 1, math.MinInt64, math.MaxInt64, r.Lo + 1<<32, r.Hi - 1<<32} {
			if f, err := sensor.Put(ch, 1, v); err != api.ErrRange || f.ID != 0 || f.Seq != 0 || len(f.Body) != 0 {
				t.Errorf("Put(%d, 1, %d) = %v, %v", ch, v, f, err)
			}
			if n := int32(v); int64(n) == v {
				f := api.Frame{ID: byte(ch), Body: []byte{byte(n >> 24), byte(n >> 16), byte(n >> 8), byte(n)}}
				if c, got, err := sensor.Read(f); c != 0 || got != 0 || err != api.ErrRange {
					t.Errorf("Read of %d, %d = %d, %d, %v", ch, v, c, got, err)
				}
			}
		}
	}
}

func TestPutNoChannel(t *testing.T) {
	for _, ch := range []int{0, -1, api.Channels, 255, 256 + 1, -255, math.MinInt, math.MaxInt} {
		if f, err := sensor.Put(ch, 1, 0); err != api.ErrRange || f.ID != 0 || len(f.Body) != 0 {
			t.Errorf("Put(%d) = %v, %v", ch, f, err)
		}
	}
}

func TestReadErrorsInOrder(t *testing.T) {
	for i, c := range []struct {
		f    api.Frame
		want error
	}{
		{api.Frame{}, api.ErrRange},
		{api.Frame{ID: api.Channels}, api.ErrRange},
		{api.Frame{ID: api.IDPilot, Body: make([]byte, 9)}, api.ErrRange},
		{api.Frame{ID: 1}, api.ErrShort},
		{api.Frame{ID: 47, Body: []byte{255, 255, 255}}, api.ErrShort},
		{api.Frame{ID: 1, Body: []byte{255, 255, 255, 255, 255}}, api.ErrLong},
		{api.Frame{ID: 1, Body: make([]byte, 5)}, api.ErrLong},
		{api.Frame{ID: 1, Body: []byte{255, 255, 255, 255}}, api.ErrRange}, // -1
		{api.Frame{ID: 30, Body: []byte{1, 0, 0, 0}}, api.ErrRange},
	} {
		if ch, v, err := sensor.Read(c.f); ch != 0 || v != 0 || err != c.want {
			t.Errorf("%d: %d, %d, %v, want %v", i, ch, v, err, c.want)
		}
	}
}

func TestReadBelowZero(t *testing.T) {
	f := api.Frame{ID: api.ChAmp, Seq: 9, Body: []byte{0xff, 0xff, 0xff, 0xfe}}
	if ch, v, err := sensor.Read(f); ch != api.ChAmp || v != -2 || err != nil {
		t.Errorf("%d, %d, %v", ch, v, err)
	}
}
