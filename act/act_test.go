package act_test

import (
	"bytes"
	"math"
	"testing"

	"dynamo/act"
	"dynamo/api"
)

func good() []api.Out {
	return []api.Out{
		{Mode: 1},
		{Close: 127, Feed: 65535, Charge: 3, Mode: 5, Notes: 511},
		{Close: 0x25, Feed: 0x1234, Charge: 2, Mode: 4, Notes: 0x1a5},
		{Close: 1, Feed: 0xff00, Charge: 1, Mode: 3, Notes: 0x100},
		{Close: 64, Feed: 0x00ff, Mode: 2, Notes: 0xff},
	}
}

func TestCheck(t *testing.T) {
	if err := act.Check(api.Out{}); err != api.ErrRange {
		t.Errorf("the zero value: %v", err)
	}
	for _, o := range good() {
		if err := act.Check(o); err != nil {
			t.Errorf("%v: %v", o, err)
		}
	}
	for _, o := range []api.Out{
		{Close: -1, Mode: 1}, {Close: 128, Mode: 1}, {Feed: -1, Mode: 1}, {Feed: 65536, Mode: 1},
		{Charge: -1, Mode: 1}, {Charge: 4, Mode: 1}, {Mode: 0}, {Mode: 6}, {Mode: -1},
		{Notes: -1, Mode: 1}, {Notes: 512, Mode: 1},
		{Close: math.MinInt, Mode: 1}, {Feed: math.MaxInt, Mode: 1}, {Charge: math.MinInt, Mode: 1},
		{Mode: math.MaxInt}, {Mode: 1 + 256}, {Notes: math.MaxInt, Mode: 1},
	} {
		if err := act.Check(o); err != api.ErrRange {
			t.Errorf("%v: %v", o, err)
		}
		if f, err := act.Put(o, 3); err != api.ErrRange || f.ID != 0 || f.Seq != 0 || len(f.Body) != 0 {
			t.Errorf("Put %v: %v, %v", o, f, err)
		}
	}
}

func TestPutAndRead(t *testing.T) {
	f, err := act.Put(api.Out{Close: 0x25, Feed: 0x1234, Charge: 2, Mode: 4, Notes: 0x1a5}, 250)
	if err != nil || f.ID != 96 || f.Seq != 250 || !bytes.Equal(f.Body, []byte{0x25, 0x12, 0x34, 2, 4, 1, 0xa5}) {
		t.Errorf("%v, %v", f, err)
	}
	for _, o := range good() {
		f, err := act.Put(o, 9)
		if err != nil || f.ID != api.IDAct || f.Seq != 9 || len(f.Body) != 7 {
			t.Errorf("Put %v: %v, %v", o, f, err)
		}
		if got, err := act.Read(f); got != o || err != nil {
			t.Errorf("Read of %v: %v, %v", o, got, err)
		}
	}
}

func TestReadErrorsInOrder(t *testing.T) {
	ok := []byte{1, 2, 3, 1, 1, 1, 1}
	with := func(at int, v byte) []byte {
		b := bytes.Clone(ok)
		b[at] = v
		return b
	}
	for i, c := range []struct {
		f    api.Frame
		want error
	}{
		{api.Frame{}, api.ErrRange},
		{api.Frame{ID: api.IDPilot, Body: ok}, api.ErrRange},
		{api.Frame{ID: 97, Body: ok[:3]}, api.ErrRange},
		{api.Frame{ID: api.IDAct}, api.ErrShort},
		{api.Frame{ID: api.IDAct, Body: bytes.Repeat([]byte{255}, 6)}, api.ErrShort},
		{api.Frame{ID: api.IDAct, Body: bytes.Repeat([]byte{255}, 8)}, api.ErrLong},
		{api.Frame{ID: api.IDAct, Body: append(bytes.Clone(ok), 0)}, api.ErrLong},
		{api.Frame{ID: api.IDAct, Body: with(0, 128)}, api.ErrRange},
		{api.Frame{ID: api.IDAct, Body: with(3, 4)}, api.ErrRange},
		{api.Frame{ID: api.IDAct, Body: with(4, 0)}, api.ErrRange},
		{api.Frame{ID: api.IDAct, Body: with(4, 6)}, api.ErrRange},
		{api.Frame{ID: api.IDAct, Body: with(5, 2)}, api.ErrRange},
		{api.Frame{ID: api.IDAct, Body: ok}, nil},
	} {
		o, err := act.Read(c.f)
		if err != c.want || err != nil && o != (api.Out{}) {
			t.Errorf("%d: %v, %v, want %v", i, o, err, c.want)
		}
	}
}
