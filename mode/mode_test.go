package mode_test

import (
	"math"
	"testing"

	"dynamo/api"
	"dynamo/mode"
	"dynamo/pilot"
)

func config() api.Config { return api.Config{Eland: 100, Margin: 20} }

// well is where nothing is amiss.
func well() mode.In {
	return mode.In{Usable: [4]bool{true, true, true, false}, Way: true, Reserve: 240}
}

func TestReserve(t *testing.T) {
	q := [2]api.Span{{Lo: 5, Hi: 90}, {Lo: 7, Hi: 8}}
	turned := [2]api.Span{q[1], q[0]}
	for i, c := range []struct {
		usable [2]bool
		q      [2]api.Span
		want   int64
	}{
		{[2]bool{true, true}, q, 5}, {[2]bool{true, true}, turned, 5},
		{[2]bool{true, false}, q, 5}, {[2]bool{false, true}, q, 7},
		{[2]bool{true, false}, turned, 7}, {[2]bool{false, true}, turned, 5},
		{[2]bool{}, q, 0},
	} {
		if got := mode.Reserve(c.usable, c.q); got != c.want {
			t.Errorf("%d: %d, want %d", i, got, c.want)
		}
	}
}

func TestNext(t *testing.T) {
	for i, c := range []struct {
		change func(in *mode.In)
		want   int
	}{
		{func(in *mode.In) {}, api.Normal},
		{func(in *mode.In) { in.Pilot.Land = true }, api.Land},
		{func(in *mode.In) { in.Pilot.Land, in.Boot = true, true }, api.Land},
		{func(in *mode.In) { in.Reserve = 120 }, api.Return},
		{func(in *mode.In) { in.Reserve = 119 }, api.Land},
		{func(in *mode.In) { in.Reserve = 0 }, api.Land},
		{func(in *mode.In) { in.Reserve, in.Boot = 0, true }, api.Normal},
		{func(in *mode.In) { in.Reserve = 239 }, api.Return},
		{func(in *mode.In) { in.Reserve, in.Boot = 239, true }, api.Normal},
		{func(in *mode.In) { in.Reserve = math.MaxInt64 }, api.Normal},
		{func(in *mode.In) { in.Pilot.Ext = true }, api.Normal},
		{func(in *mode.In) { in.Usable[api.Ext] = true }, api.Normal},
		{func(in *mode.In) { in.Pilot.Ext, in.Usable[api.Ext] = true, true }, api.Ground},
		{func(in *mode.In) { in.Pilot.Ext, in.Usable[api.Ext], in.Pilot.Land = true, true, true }, api.Land},
		{func(in *mode.In) { in.Pilot.Ext, in.Usable[api.Ext], in.Reserve = true, true, 119 }, api.Land},
		{func(in *mode.In) {
			in.Pilot = pilot.State{Ext: true, Return: true, Shed: true}
			in.Usable[api.Ext], in.Reserve, in.Way, in.Locks = true, 120, false, true
		}, api.Ground},
		{func(in *mode.In) { in.Pilot.Return = true }, api.Return},
		{func(in *mode.In) { in.Pilot.Return, in.Boot = true, true }, api.Return},
		{func(in *mode.In) { in.Way = false }, api.Return},
		{func(in *mode.In) { in.Way, in.Boot = false, true }, api.Return},
		{func(in *mode.In) { in.Way, in.Locks = false, true }, api.Return},
		{func(in *mode.In) { in.Locks = true }, api.Degraded},
		{func(in *mode.In) { in.Usable[api.Gen] = false }, api.Degraded},
		{func(in *mode.In) { in.Usable[api.B1] = false }, api.Degraded},
		{func(in *mode.In) { in.Usable[api.B2] = false }, api.Degraded},
		{func(in *mode.In) { in.Pilot.Shed, in.Pilot.Clears = true, 4 }, api.Normal},
	} {
		for _, m := range []int{api.Normal, api.Degraded, api.Return, api.Ground, 0, -1, 6} {
			in := well()
			c.change(&in)
			if got := mode.Next(config(), m, in); got != c.want {
				t.Errorf("%d: Next of %d: %d, want %d", i, m, got, c.want)
			}
		}
		in := well()
		c.change(&in)
		if got := mode.Next(config(), api.Land, in); got != api.Land {
			t.Errorf("%d: Next of Land: %d", i, got)
		}
	}
}

func TestTheGreatestNumbers(t *testing.T) {
	c := api.Config{Eland: api.Most, Margin: api.Most}
	for reserve, want := range map[int64]int{2*api.Most - 1: api.Land, 2 * api.Most: api.Return, 4*api.Most - 1: api.Return, 4 * api.Most: api.Normal} {
		in := well()
		in.Reserve = reserve
		if got := mode.Next(c, api.Normal, in); got != want {
			t.Errorf("reserve %d: %d, want %d", reserve, got, want)
		}
	}
}
