package shed_test

import (
	"math"
	"math/rand"
	"slices"
	"testing"

	"dynamo/api"
	"dynamo/cell"
	"dynamo/graph"
	"dynamo/shed"
)

const (
	gc = 1 << iota
	bc1
	bc2
	xc
	tie
	el
	er
)

func config(feeders ...api.Feeder) api.Config {
	return api.Config{H: 3, Cap: 1000, GenMax: 100, BatMax: 50, ExtMax: 200, Feeders: feeders}
}

func feeder(bus int, load int64, prio int) api.Feeder {
	return api.Feeder{Bus: bus, Load: load, Prio: prio}
}

func TestWantNothingClosed(t *testing.T) {
	if got := shed.Want(config(feeder(api.L, 1, 0), feeder(api.R, 0, 0), feeder(api.E, 1, 0)), 0, 0, false); got != 0 {
		t.Errorf("%b", got)
	}
	if got := shed.Want(config(), 127, 0, false); got != 0 {
		t.Errorf("without feeders: %b", got)
	}
}

func TestWant(t *testing.T) {
	l, r, e := api.L, api.R, api.E
	for i, c := range []struct {
		feeders      []api.Feeder
		close, trips int
		few          bool
		want         int
	}{
		// only on buses that are fed
		{[]api.Feeder{feeder(l, 10, 0), feeder(r, 10, 0), feeder(e, 10, 0)}, gc | el, 0, false, 0b101},
		{[]api.Feeder{feeder(l, 10, 0), feeder(r, 10, 0), feeder(e, 10, 0)}, bc2, 0, false, 0b010},
		{[]api.Feeder{feeder(l, 10, 0), feeder(r, 10, 0), feeder(e, 10, 0)}, gc | bc1 | el, 0, false, 0}, // fed by two is fed by none
		{[]api.Feeder{feeder(l, 10, 0), feeder(r, 10, 0), feeder(e, 10, 0)}, gc | xc, 0, false, 0b011},
		// the Loads together may be as much as the source's, each source for itself
		{[]api.Feeder{feeder(l, 60, 0), feeder(l, 40, 0)}, gc, 0, false, 0b11},
		{[]api.Feeder{feeder(l, 60, 0), feeder(l, 41, 0)}, gc, 0, false, 0b01},
		{[]api.Feeder{feeder(l, 50, 0), feeder(l, 1, 0)}, bc1, 0, false, 0b01},
		{[]api.Feeder{feeder(r, 50, 0), feeder(r, 1, 0)}, bc2, 0, false, 0b01},
		{[]api.Feeder{feeder(r, 200, 0), feeder(r, 1, 0)}, xc, 0, false, 0b01},
		{[]api.Feeder{feeder(l, 100, 0), feeder(r, 50, 0), feeder(e, 1, 0)}, gc | bc2 | er, 0, false, 0b011},
		{[]api.Feeder{feeder(l, 100, 0), feeder(r, 49, 0), feeder(e, 1, 0)}, gc | bc2 | er, 0, false, 0b111},
		{[]api.Feeder{feeder(l, 60, 0), feeder(r, 60, 0)}, gc | tie, 0, false, 0b01}, // one source feeds both
		{[]api.Feeder{feeder(l, 60, 0), feeder(r, 60, 0)}, gc | xc, 0, false, 0b11},
		// by Prio, then by place; one that has no room lets others go ahead
		{[]api.Feeder{feeder(l, 60, 2), feeder(l, 60, 1), feeder(l, 40, 3)}, gc, 0, false, 0b110},
		{[]api.Feeder{feeder(l, 60, 1), feeder(l, 60, 1), feeder(l, 30, 1)}, gc, 0, false, 0b101},
		{[]api.Feeder{feeder(l, 30, 1), feeder(l, 90, 0), feeder(l, 10, 2), feeder(l, 0, 9)}, gc, 0, false, 0b1110},
		{[]api.Feeder{feeder(l, 101, 0), feeder(l, 100, 5)}, gc, 0, false, 0b10},
		{[]api.Feeder{feeder(l, 50, 100), feeder(l, 51, 99)}, gc, 0, false, 0b10},
		// trips, few
		{[]api.Feeder{feeder(l, 60, 0), feeder(l, 60, 1)}, gc, 0b01, false, 0b10},
		{[]api.Feeder{feeder(l, 60, 0), feeder(l, 60, 1)}, gc, 0b10, false, 0b01},
		{[]api.Feeder{feeder(l, 60, 0), feeder(l, 60, 1)}, gc, -1, false, 0},
		{[]api.Feeder{feeder(l, 10, 0), feeder(l, 10, 1), feeder(l, 10, 0)}, gc, 0, true, 0b101},
		{[]api.Feeder{feeder(l, 10, 0), feeder(l, 10, 1), feeder(l, 10, 0)}, gc, 0b100, true, 0b001},
		{[]api.Feeder{feeder(l, 10, 0), feeder(l, 10, 1), feeder(l, 10, 0)}, gc, 0, false, 0b111},
		{[]api.Feeder{feeder(l, 10, 0)}, gc, 0b110, false, 0b001},
		{[]api.Feeder{feeder(l, 10, 0)}, gc | 1<<20, 0, false, 0b001},
	} {
		if got := shed.Want(config(c.feeders...), c.close, c.trips, c.few); got != c.want {
			t.Errorf("%d: %b, want %b", i, got, c.want)
		}
	}
}

func some(r *rand.Rand) api.Config {
	var l []api.Feeder
	for range r.Intn(api.MaxFeeds + 1) {
		l = append(l, feeder(api.L+r.Intn(3), r.Int63n(40), r.Intn(4)))
	}
	return config(l...)
}

// want is by the words: each time the first one in order that was not asked yet.
func want(c api.Config, close, trips int, few bool) int {
	on := 0
	for source, most := range [4]int64{c.GenMax, c.BatMax, c.BatMax, c.ExtMax} {
		for prio := range 101 {
			for i, f := range c.Feeders {
				if f.Prio != prio || trips>>i&1 == 1 || few && prio > 0 || graph.Feeds(close, f.Bus) != source {
					continue
				}
				if shed.Load(c, on|1<<i, close, source) <= most {
					on |= 1 << i
				}
			}
		}
	}
	return on
}

func TestManyAgainstTheWords(t *testing.T) {
	r := rand.New(rand.NewSource(25))
	for range 800 {
		c, close, trips, few := some(r), r.Intn(128)&r.Intn(128), r.Intn(65536)&r.Intn(65536), r.Intn(4) == 0
		kept := slices.Clone(c.Feeders)
		got := shed.Want(c, close, trips, few)
		if w := want(c, close, trips, few); got != w {
			t.Fatalf("Want(%v, %b, %b, %v) = %b, want %b", c.Feeders, close, trips, few, got, w)
		}
		for source := range 4 {
			var load int64
			for i, f := range c.Feeders {
				if trips>>i&1 == 1 && graph.Feeds(close, f.Bus) == source {
					load += f.Load
				}
			}
			if got := shed.Load(c, trips, close, source); got != load {
				t.Fatalf("Load(%v, %b, %b, %d) = %d, want %d", c.Feeders, trips, close, source, got, load)
			}
		}
		if !slices.Equal(c.Feeders, kept) {
			t.Fatal("the feeders were changed")
		}
	}
}

func TestLoad(t *testing.T) {
	c := config(feeder(api.L, 1, 0), feeder(api.R, 20, 0), feeder(api.E, 300, 0), feeder(api.L, 4000, 5))
	for _, x := range []struct {
		feed, close, source int
		want                int64
	}{
		{0b1111, gc | bc2 | er, api.Gen, 4001},
		{0b1111, gc | bc2 | er, api.B2, 320},
		{0b1111, gc | bc2 | er, api.B1, 0},
		{0b1111, gc | bc2 | er, api.Ext, 0},
		{0b0110, gc | bc2 | er, api.Gen, 0},
		{0b0101, bc1 | el, api.B1, 301},
		{0b1111, xc | tie | el, api.Ext, 4321},
		{-1, xc | tie | el, api.Ext, 4321},
		{0b11110000, xc | tie | el, api.Ext, 0},
		{0b1111, 0, -1, 0}, // fed by none
		{0b1111, gc | bc1 | bc2, -1, 0},
		{0b1111, gc, 4, 0},
		{0b1111, gc, math.MinInt, 0},
		{0b1111, gc, math.MaxInt, 0},
	} {
		if got := shed.Load(c, x.feed, x.close, x.source); got != x.want {
			t.Errorf("Load(%b, %b, %d) = %d, want %d", x.feed, x.close, x.source, got, x.want)
		}
	}
	big := config(slices.Repeat([]api.Feeder{feeder(api.L, api.Most, 0)}, api.MaxFeeds)...)
	if got := shed.Load(big, 65535, gc, api.Gen); got != api.MaxFeeds*api.Most {
		t.Errorf("the greatest: %d", got)
	}
}

func TestKeeper(t *testing.T) {
	c := config(slices.Repeat([]api.Feeder{feeder(api.L, 1, 0)}, api.MaxFeeds)...)
	for h := 1; h <= 4; h++ {
		c.H = h
		k := shed.New(c)
		if k.On() != 0 {
			t.Errorf("a new one: %b", k.On())
		}
		for i := 1; i <= h+2; i++ {
			want := 0
			if i >= h {
				want = 0x8005
			}
			if got := k.Step(0x8005); got != want || k.On() != want {
				t.Errorf("H %d, %d Steps: %b, %b", h, i, got, k.On())
			}
		}
		if got := k.Step(0x8001); got != 0x8001 || k.On() != 0x8001 {
			t.Errorf("off at once: %b", got)
		}
		for i := 1; i <= h; i++ {
			want := 0x8001
			if i == h {
				want = 0x8005
			}
			if got := k.Step(0x8005); got != want {
				t.Errorf("H %d, again %d Steps: %b", h, i, got)
			}
		}
		if got := k.Step(0); got != 0 || k.On() != 0 {
			t.Errorf("all off: %b", got)
		}
	}
}

func TestKeeperWantsARow(t *testing.T) {
	k := shed.New(config(feeder(api.L, 1, 0), feeder(api.L, 1, 0)))
	for i, x := range []struct{ want, on int }{{1, 0}, {1, 0}, {0, 0}, {1, 0}, {3, 0}, {3, 1}, {2, 2}, {3, 2}, {3, 2}, {3, 3}, {-1, 3}, {-2, 2}, {0, 0}} {
		if got := k.Step(x.want); got != x.on || k.On() != x.on {
			t.Errorf("%d: %b, want %b", i, got, x.on)
		}
	}
}

func TestKeeperHasOnlyFeeders(t *testing.T) {
	k := shed.New(config(feeder(api.L, 1, 0)))
	for range 5 {
		k.Step(-1)
	}
	if got := k.On(); got != 1 {
		t.Errorf("%b", got)
	}
}

func TestKeeperKeepsNoFeeders(t *testing.T) {
	c := config(feeder(api.L, 1, 0), feeder(api.L, 1, 0))
	k := shed.New(c)
	c.Feeders[0] = api.Feeder{}
	for range 3 {
		k.Step(3)
	}
	if got := k.On(); got != 3 {
		t.Errorf("%b", got)
	}
}

func TestChargers(t *testing.T) {
	yes, no := [2]bool{true, true}, [2]int{}
	half := [2]api.Span{{Lo: 0, Hi: 999}, {Lo: 0, Hi: 999}}
	for i, x := range []struct {
		close  int
		usable [2]bool
		flags  [2]int
		q      [2]api.Span
		want   int
	}{
		{0, yes, no, half, 0},
		{gc, yes, no, half, 1},
		{xc, yes, no, half, 2},
		{gc | xc, yes, no, half, 3},
		{gc | tie, yes, no, half, 3},
		{xc | tie, yes, no, half, 3},
		{gc | el | er, yes, no, half, 3},
		{bc1 | bc2, yes, no, half, 0}, // a battery charges none
		{bc1 | tie, yes, no, half, 0},
		{gc | bc2, yes, no, half, 1},
		{gc | bc1, yes, no, half, 0},
		{gc | xc, [2]bool{false, true}, no, half, 2},
		{gc | xc, [2]bool{true, false}, no, half, 1},
		{gc | xc, yes, [2]int{cell.Over, 0}, half, 2},
		{gc | xc, yes, [2]int{0, cell.Over}, half, 1},
		{gc | xc, yes, [2]int{cell.Hot, cell.Hot}, half, 0},
		{gc | xc, yes, [2]int{cell.Hot | cell.Over, cell.Under | cell.Gap | cell.Blind}, half, 2},
		{gc | xc, yes, no, [2]api.Span{{Lo: 0, Hi: 1000}, {Lo: 0, Hi: 999}}, 2},
		{gc | xc, yes, no, [2]api.Span{{Lo: 0, Hi: 0}, {Lo: 1000, Hi: 1000}}, 1},
		{gc | xc, yes, no, [2]api.Span{{Lo: 0, Hi: 1001}, {Lo: 999, Hi: 1001}}, 0},
	} {
		if got := shed.Chargers(config(), x.close, x.usable, x.flags, x.q); got != x.want {
			t.Errorf("%d: %b, want %b", i, got, x.want)
		}
	}
}
