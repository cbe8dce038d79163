package config_test

import (
	"errors"
	"math"
	"slices"
	"testing"

	"dynamo/api"
	"dynamo/config"
)

func good() api.Config {
	return api.Config{
		D: 3, B: 2, S: 4, P: 10, H: 5,
		Cap: 1000000, Qmin: 50000, Imax: 100000, Trip: 300000, Vmin: 20000, Vdark: 18000,
		CellMin: 3000, CellMax: 4200, CellGap: 300, TempMax: 600, Coil: 10000,
		Ohm: 30, SagErr: 100, AmpErr: 500, Drift: 1000,
		Ocv:    []api.Point{{X: 0, Y: 18000}, {X: 500000, Y: 24000}, {X: 1000000, Y: 25200}},
		GenMax: 100000, BatMax: 80000, ExtMax: 150000, Eland: 100000, Margin: 200000,
		Feeders: []api.Feeder{{Bus: api.L, Load: 10000, Prio: 1}, {Bus: api.E, Load: 5000}},
	}
}

func is(t *testing.T, what string, v int64, c api.Config, pos int) {
	t.Helper()
	err := config.Check(c)
	if pos == 0 {
		if err != nil {
			t.Errorf("%s %d: %v", what, v, err)
		}
		return
	}
	var at *api.At
	if !errors.As(err, &at) || at.Pos != pos || at.Err != api.ErrConfig {
		t.Errorf("%s %d: %v, want ErrConfig around %d", what, v, err, pos)
	}
}

func TestZeroAndGood(t *testing.T) {
	is(t, "zero", 0, api.Config{}, 1)
	is(t, "good", 0, good(), 0)
}

func TestBoundsOfNumbers(t *testing.T) {
	for _, f := range []struct {
		pos    int
		name   string
		lo, hi int64
		set    func(c *api.Config, v int64)
	}{
		{1, "D", 1, 100, func(c *api.Config, v int64) { c.D = int(v) }},
		{2, "B", 1, 100, func(c *api.Config, v int64) { c.B = int(v) }},
		{3, "S", 1, 100, func(c *api.Config, v int64) { c.S = int(v) }},
		{4, "P", 1, 100, func(c *api.Config, v int64) { c.P = int(v) }},
		{5, "H", 1, 100, func(c *api.Config, v int64) { c.H = int(v) }},
		{6, "Cap", 1, api.Most, func(c *api.Config, v int64) {
			c.Cap, c.Qmin = v, 0
			c.Ocv = []api.Point{{X: 0, Y: 1}, {X: v, Y: 2}}
		}},
		{7, "Qmin", 0, 1000000, func(c *api.Config, v int64) { c.Qmin = v }},
		{8, "Imax", 1, 500000, func(c *api.Config, v int64) { c.Imax, c.Margin = v, 500000 }},
		{9, "Trip", 1, 500000, func(c *api.Config, v int64) { c.Trip = v }},
		{10, "Vmin", 1, 60000, func(c *api.Config, v int64) { c.Vmin = v }},
		{11, "Vdark", 1, 60000, func(c *api.Config, v int64) { c.Vdark = v }},
		{12, "CellMin", 0, 6000, func(c *api.Config, v int64) { c.CellMin, c.CellMax = v, 6000 }},
		{13, "CellMax", 3000, 6000, func(c *api.Config, v int64) { c.CellMax = v }},
		{14, "CellGap", 0, 6000, func(c *api.Config, v int64) { c.CellGap = v }},
		{15, "TempMax", -500, 1500, func(c *api.Config, v int64) { c.TempMax = v }},
		{16, "Coil", 1, 30000, func(c *api.Config, v int64) { c.Coil = v }},
		{17, "Ohm", 0, 100000, func(c *api.Config, v int64) { c.Ohm = v }},
		{18, "SagErr", 0, 60000, func(c *api.Config, v int64) { c.SagErr = v }},
		{19, "AmpErr", 0, 500000, func(c *api.Config, v int64) { c.AmpErr = v }},
		{20, "Drift", 0, api.Most, func(c *api.Config, v int64) { c.Drift = v }},
		{22, "GenMax", 0, api.Most, func(c *api.Config, v int64) { c.GenMax = v }},
		{23, "BatMax", 0, api.Most, func(c *api.Config, v int64) { c.BatMax = v }},
		{24, "ExtMax", 0, api.Most, func(c *api.Config, v int64) { c.ExtMax = v }},
		{25, "Eland", 0, api.Most, func(c *api.Config, v int64) { c.Eland = v }},
		{26, "Margin", 100000, api.Most, func(c *api.Config, v int64) { c.Margin = v }},
		{27, "Load", 0, api.Most, func(c *api.Config, v int64) { c.Feeders[1].Load = v }},
		{27, "Prio", 0, 100, func(c *api.Config, v int64) { c.Feeders[0].Prio = int(v) }},
		{27, "Bus", api.L, api.E, func(c *api.Config, v int64) { c.Feeders[1].Bus = int(v) }},
	} {
		for _, v := range []int64{f.lo, f.lo + 1, f.hi - 1, f.hi} {
			c := good()
			f.set(&c, v)
			is(t, f.name, v, c, 0)
		}
		for _, v := range []int64{f.lo - 1, f.hi + 1, math.MinInt64, math.MaxInt64} {
			c := good()
			f.set(&c, v)
			is(t, f.name, v, c, f.pos)
		}
	}
}

func TestQminIsAsCapAtMost(t *testing.T) {
	c := good()
	c.Qmin = c.Cap
	is(t, "Qmin", c.Qmin, c, 0)
	c.Cap, c.Ocv[2].X = 900000, 900000
	is(t, "Qmin", c.Qmin, c, 7)
}

func TestCellMaxIsCellMinAtLeast(t *testing.T) {
	c := good()
	c.CellMin, c.CellMax = 4000, 4000
	is(t, "CellMax", c.CellMax, c, 0)
	c.CellMin = 4001
	is(t, "CellMax", c.CellMax, c, 13)
}

func TestMarginIsImaxAtLeast(t *testing.T) {
	c := good()
	c.Imax = c.Margin
	is(t, "Margin", c.Margin, c, 0)
	c.Imax++
	is(t, "Margin", c.Margin, c, 26)
}

func TestOcv(t *testing.T) {
	for i, l := range [][]api.Point{
		nil,
		{{X: 0, Y: 1}},
		{{X: 1, Y: 1}, {X: 1000000, Y: 2}},
		{{X: -1, Y: 1}, {X: 0, Y: 1}, {X: 1000000, Y: 2}},
		{{X: 0, Y: 1}, {X: 999999, Y: 2}},
		{{X: 0, Y: 1}, {X: 1000000, Y: 2}, {X: 1000001, Y: 2}},
		{{X: 0, Y: 3}, {X: 1000000, Y: 2}},
		{{X: 0, Y: 3}, {X: 0, Y: 3}, {X: 1000000, Y: 4}},
		{{X: 0, Y: -api.Most - 1}, {X: 1000000, Y: 4}},
	} {
		c := good()
		c.Ocv = l
		is(t, "Ocv", int64(i), c, 21)
	}
	c := good()
	c.Ocv = []api.Point{{X: 0, Y: -5}, {X: 1000000, Y: -5}}
	is(t, "Ocv", 9, c, 0)
	c.Ocv = nil
	for x := range int64(api.MaxPoints) {
		c.Ocv = append(c.Ocv, api.Point{X: x * 1000000 / (api.MaxPoints - 1), Y: x})
	}
	is(t, "Ocv of the greatest length", api.MaxPoints, c, 0)
	c.Ocv = slices.Insert(c.Ocv, 1, api.Point{X: 1, Y: 0})
	is(t, "Ocv too long", api.MaxPoints+1, c, 21)
}

func TestFeeders(t *testing.T) {
	for n := range api.MaxFeeds + 3 {
		c := good()
		c.Feeders = slices.Repeat([]api.Feeder{{Bus: api.R}}, n)
		pos := 0
		if n > api.MaxFeeds {
			pos = 27
		}
		is(t, "Feeders", int64(n), c, pos)
		if n > 0 {
			c.Feeders[n-1].Bus = api.Ext
			is(t, "Feeders, the last one wrong", int64(n), c, 27)
		}
	}
}

func TestTheFirstAmissIsTold(t *testing.T) {
	c := good()
	c.Feeders[0].Bus = 0
	for _, f := range []struct {
		pos   int
		spoil func()
	}{
		{26, func() { c.Margin = 0 }}, {25, func() { c.Eland = -1 }}, {24, func() { c.ExtMax = -1 }}, {23, func() { c.BatMax = -1 }},
		{22, func() { c.GenMax = -1 }}, {21, func() { c.Ocv = nil }}, {20, func() { c.Drift = -1 }}, {19, func() { c.AmpErr = -1 }},
		{18, func() { c.SagErr = -1 }}, {17, func() { c.Ohm = -1 }}, {16, func() { c.Coil = 0 }}, {15, func() { c.TempMax = 2000 }},
		{14, func() { c.CellGap = -1 }}, {13, func() { c.CellMax = -1 }}, {12, func() { c.CellMin = -1 }}, {11, func() { c.Vdark = 0 }},
		{10, func() { c.Vmin = 0 }}, {9, func() { c.Trip = 0 }}, {8, func() { c.Imax = 0 }}, {7, func() { c.Qmin = -1 }},
		{6, func() { c.Cap = 0 }}, {5, func() { c.H = 0 }}, {4, func() { c.P = 0 }}, {3, func() { c.S = 0 }}, {2, func() { c.B = 0 }}, {1, func() { c.D = 0 }},
	} {
		f.spoil()
		is(t, "spoiled down to", int64(f.pos), c, f.pos)
	}
}

func TestBootAndBound(t *testing.T) {
	for _, x := range []struct{ d, b, s, boot, bound int }{{1, 1, 1, 2, 32}, {3, 2, 4, 6, 72}, {100, 1, 1, 2, 626}, {1, 100, 1, 101, 725}, {1, 1, 100, 101, 725}, {100, 100, 100, 200, 2012}} {
		c := good()
		c.D, c.B, c.S = x.d, x.b, x.s
		if boot, bound := config.Boot(c), config.Bound(c); boot != x.boot || bound != x.bound {
			t.Errorf("%v: Boot %d, Bound %d", x, boot, bound)
		}
	}
}
