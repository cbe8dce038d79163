package pilot_test

import (
	"bytes"
	"math"
	"testing"

	"dynamo/api"
	"dynamo/pilot"
)

func wrong() [][2]int {
	return [][2]int{{0, 0}, {6, 0}, {-1, 1}, {1, 2}, {3, -1}, {5, 255}, {257, 1}, {1, 256}, {3, 2}, {math.MinInt, 0}, {math.MaxInt, 0}, {2, math.MinInt}, {4, math.MaxInt}}
}

func TestPutAndRead(t *testing.T) {
	for cmd := 1; cmd <= 5; cmd++ {
		for arg := range 2 {
			f, err := pilot.Put(cmd, arg, 77)
			if err != nil || f.ID != 80 || f.Seq != 77 || !bytes.Equal(f.Body, []byte{byte(cmd), byte(arg)}) {
				t.Errorf("Put(%d, %d) = %v, %v", cmd, arg, f, err)
			}
			if c, a, err := pilot.Read(f); c != cmd || a != arg || err != nil {
				t.Errorf("Read of Put(%d, %d) = %d, %d, %v", cmd, arg, c, a, err)
			}
		}
	}
	for _, w := range wrong() {
		if f, err := pilot.Put(w[0], w[1], 1); err != api.ErrRange || f.ID != 0 || f.Seq != 0 || len(f.Body) != 0 {
			t.Errorf("Put%v = %v, %v", w, f, err)
		}
	}
}

func TestReadErrorsInOrder(t *testing.T) {
	for i, c := range []struct {
		f    api.Frame
		want error
	}{
		{api.Frame{}, api.ErrRange},
		{api.Frame{ID: api.IDAct}, api.ErrRange},
		{api.Frame{ID: 81, Body: []byte{1, 1, 1}}, api.ErrRange},
		{api.Frame{ID: 79, Body: []byte{1, 1}}, api.ErrRange},
		{api.Frame{ID: api.IDPilot}, api.ErrShort},
		{api.Frame{ID: api.IDPilot, Body: []byte{9}}, api.ErrShort},
		{api.Frame{ID: api.IDPilot, Body: []byte{9, 9, 9}}, api.ErrLong},
		{api.Frame{ID: api.IDPilot, Body: []byte{0, 0}}, api.ErrRange},
		{api.Frame{ID: api.IDPilot, Body: []byte{6, 0}}, api.ErrRange},
		{api.Frame{ID: api.IDPilot, Body: []byte{1, 2}}, api.ErrRange},
		{api.Frame{ID: api.IDPilot, Body: []byte{3, 255}}, api.ErrRange},
	} {
		if cmd, arg, err := pilot.Read(c.f); cmd != 0 || arg != 0 || err != c.want {
			t.Errorf("%d: %d, %d, %v, want %v", i, cmd, arg, err, c.want)
		}
	}
}

func TestApply(t *testing.T) {
	var s pilot.State
	for i, c := range []struct {
		cmd, arg int
		want     pilot.State
	}{
		{1, 1, pilot.State{Ext: true}},
		{1, 1, pilot.State{Ext: true}},
		{2, 1, pilot.State{Ext: true, Shed: true}},
		{4, 1, pilot.State{Ext: true, Shed: true, Return: true}},
		{1, 0, pilot.State{Shed: true, Return: true}},
		{2, 0, pilot.State{Return: true}},
		{4, 0, pilot.State{}},
		{4, 0, pilot.State{}},
		{5, 0, pilot.State{Clears: 1}},
		{5, 1, pilot.State{Clears: 2}},
		{3, 0, pilot.State{Clears: 2, Land: true}},
		{3, 1, pilot.State{Clears: 2, Land: true}},
		{3, 0, pilot.State{Clears: 2, Land: true}},
	} {
		if ok := s.Apply(c.cmd, c.arg); !ok || s != c.want {
			t.Errorf("%d: %v, %v, want %v", i, ok, s, c.want)
		}
	}
	for _, arg := range []int{0, 1} {
		var land pilot.State
		if !land.Apply(3, arg) || land != (pilot.State{Land: true}) {
			t.Errorf("Apply(3, %d): %v", arg, land)
		}
	}
}

func TestApplyWrong(t *testing.T) {
	for _, s := range []pilot.State{{}, {Ext: true, Shed: true, Land: true, Return: true, Clears: 3}} {
		for _, w := range wrong() {
			got := s
			if got.Apply(w[0], w[1]) || got != s {
				t.Errorf("Apply%v: %v, from %v", w, got, s)
			}
		}
	}
}

func TestClearsStop(t *testing.T) {
	var s pilot.State
	for i := 1; i <= api.MaxCycle+3; i++ {
		if !s.Apply(api.PilotClear, 0) || s.Clears != min(i, api.MaxCycle) {
			t.Fatalf("%d: Clears %d", i, s.Clears)
		}
	}
}
