package sag_test

import (
	"math/rand"
	"slices"
	"testing"

	"dynamo/api"
	"dynamo/sag"
	"dynamo/table"
)

func config() api.Config {
	return api.Config{
		Cap: 10000, Vmin: 18000, Ohm: 30, SagErr: 40,
		Ocv: []api.Point{{X: 0, Y: 18000}, {X: 1000, Y: 21000}, {X: 8000, Y: 24500}, {X: 9000, Y: 24500}, {X: 10000, Y: 26000}},
	}
}

func sp(lo, hi int64) api.Span { return api.Span{Lo: lo, Hi: hi} }

func fresh(v int64) api.Sample { return api.Sample{V: v, Fresh: true} }

func TestRest(t *testing.T) {
	for i, c := range []struct {
		volt, amp, ohm, err int64
		want                api.Span
	}{
		{24000, 0, 30, 40, sp(23960, 24040)},
		{24000, 10000, 30, 40, sp(24260, 24340)}, // under load the volts are below those without
		{24000, -10000, 30, 40, sp(23660, 23740)},
		{24000, 1, 30, 0, sp(24000, 24001)},
		{24000, -1, 30, 0, sp(23999, 24000)},
		{24000, 33, 1000, 0, sp(24033, 24033)},
		{24000, 1001, 1001, 0, sp(25002, 25003)},
		{24000, -1001, 1001, 0, sp(22997, 22998)},
		{24000, 5000, 0, 0, sp(24000, 24000)},
		{60000, 500000, 100000, 60000, sp(50000000, 50120000)},
		{0, -500000, 100000, 60000, sp(-50060000, -49940000)},
		{24000, 1, 30, 7, sp(23993, 24008)},
	} {
		cfg := config()
		cfg.Ohm, cfg.SagErr = c.ohm, c.err
		if got := sag.Rest(cfg, c.volt, c.amp); got != c.want {
			t.Errorf("%d: %v, want %v", i, got, c.want)
		}
	}
}

func TestChargeSaysNothing(t *testing.T) {
	for i, c := range []struct{ volt, amp api.Sample }{
		{api.Sample{V: 24000}, fresh(0)},
		{fresh(24000), api.Sample{}},
		{api.Sample{V: 24000}, api.Sample{}},
		{fresh(17999), fresh(0)},
		{fresh(0), fresh(500000)}, // a dead battery's
	} {
		if got, ok := sag.Charge(config(), c.volt, c.amp); ok || got != (api.Span{}) {
			t.Errorf("%d: %v, %v", i, got, ok)
		}
	}
}

func TestCharge(t *testing.T) {
	for i, c := range []struct {
		volt, amp int64
		want      api.Span
	}{
		{22000, 0, sp(2919, 3081)}, // half a thousandth of a volt a step: each end one step on
		{21900, 3333, sp(2917, 3081)},
		{21900, 3334, sp(2919, 3083)},
		{22100, -3333, sp(2919, 3083)},
		{18000, 0, sp(0, 14)},        // Vmin itself says something
		{18030, -1000, sp(0, 14)},    // below the table
		{24500, 0, sp(7919, 9027)},   // over the flat part
		{26000, 0, sp(9973, 10000)},  // the table's end
		{59000, 0, sp(10000, 10000)}, // above the table
		{18000, -500000, sp(0, 0)},
	} {
		if got, ok := sag.Charge(config(), fresh(c.volt), fresh(c.amp)); !ok || got != c.want {
			t.Errorf("%d: %v, %v, want %v", i, got, ok, c.want)
		}
	}
}

func TestTheChargeStandsInWhatTheVoltsSay(t *testing.T) {
	r := rand.New(rand.NewSource(19))
	c := config()
	kept := slices.Clone(c.Ocv)
	for range 3000 {
		q := r.Int63n(c.Cap + 1)
		amp := r.Int63n(4001) - 2000
		volt := table.At(c.Ocv, q).Lo - amp*c.Ohm/1000 + r.Int63n(79) - 39
		got, ok := sag.Charge(c, fresh(volt), fresh(amp))
		if ok != (volt >= c.Vmin) {
			t.Fatalf("%d: %v", volt, ok)
		}
		if ok && (q < got.Lo || q > got.Hi) {
			t.Fatalf("%d isn't in %v: %d, %d", q, got, volt, amp)
		}
	}
	if !slices.Equal(c.Ocv, kept) {
		t.Error("the table was changed")
	}
}
