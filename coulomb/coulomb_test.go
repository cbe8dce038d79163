package coulomb_test

import (
	"math"
	"math/rand"
	"testing"

	"dynamo/api"
	"dynamo/coulomb"
)

func config() api.Config {
	return api.Config{Cap: 1000, Imax: 50, AmpErr: 3}
}

func sp(lo, hi int64) api.Span { return api.Span{Lo: lo, Hi: hi} }

func fresh(v int64) api.Sample { return api.Sample{V: v, Fresh: true} }

func TestExample(t *testing.T) {
	k := coulomb.New(api.Config{Cap: 1000, Imax: 50}, sp(5, 5))
	if got := k.Step(fresh(1)); got != sp(4, 4) || k.Q() != got {
		t.Errorf("%v, %v, want 4 to 4", got, k.Q())
	}
}

func TestNewAndSetClamp(t *testing.T) {
	for q, want := range map[api.Span]api.Span{
		sp(0, 1000): sp(0, 1000), sp(-1, 1001): sp(0, 1000), sp(3, 4): sp(3, 4), sp(-9, -5): sp(0, 0), sp(1500, 2000): sp(1000, 1000),
		sp(math.MinInt64, math.MaxInt64): sp(0, 1000),
	} {
		k := coulomb.New(config(), q)
		if got := k.Q(); got != want {
			t.Errorf("New of %v: %v, want %v", q, got, want)
		}
		k = coulomb.New(config(), sp(7, 7))
		k.Set(q)
		if got := k.Q(); got != want {
			t.Errorf("Set of %v: %v, want %v", q, got, want)
		}
	}
}

func TestStep(t *testing.T) {
	for i, c := range []struct {
		q, want api.Span
		amp     api.Sample
	}{
		{sp(500, 600), sp(487, 593), fresh(10)},
		{sp(500, 600), sp(507, 613), fresh(-10)},
		{sp(500, 600), sp(497, 603), fresh(0)},
		{sp(500, 600), sp(450, 650), api.Sample{}},
		{sp(500, 600), sp(450, 650), api.Sample{V: 10}}, // its value counts for nothing
		{sp(5, 600), sp(0, 593), fresh(10)},
		{sp(5, 6), sp(0, 0), fresh(10)},
		{sp(995, 999), sp(1000, 1000), fresh(-10)},
		{sp(10, 990), sp(0, 1000), api.Sample{}},
		{sp(500, 600), sp(397, 503), fresh(100)}, // what is told counts, also above Imax
		{sp(500, 600), sp(0, 0), fresh(math.MaxInt64)},
		{sp(500, 600), sp(1000, 1000), fresh(math.MinInt64)},
	} {
		k := coulomb.New(config(), c.q)
		if got := k.Step(c.amp); got != c.want || k.Q() != c.want {
			t.Errorf("%d: %v, %v, want %v", i, got, k.Q(), c.want)
		}
	}
}

func TestStepsGoOn(t *testing.T) {
	k := coulomb.New(config(), sp(500, 500))
	k.Step(fresh(10))
	k.Step(api.Sample{})
	if got := k.Step(fresh(-20)); got != sp(454, 566) {
		t.Errorf("%v, want 454 to 566", got)
	}
	k.Set(sp(2, 3))
	if got := k.Step(fresh(0)); got != sp(0, 6) {
		t.Errorf("behind Set: %v", got)
	}
}

func TestTheChargeStandsInQ(t *testing.T) {
	r := rand.New(rand.NewSource(18))
	for range 200 {
		q := r.Int63n(1001)
		k := coulomb.New(config(), sp(max(0, q-r.Int63n(30)), q+r.Int63n(30)))
		for range 60 {
			out := r.Int63n(101) - 50
			if q-out < 0 || q-out > 1000 {
				out = 0
			}
			q -= out
			amp := api.Sample{V: out + r.Int63n(7) - 3, Fresh: r.Intn(4) > 0}
			if got := k.Step(amp); q < got.Lo || q > got.Hi || got.Lo < 0 || got.Hi > 1000 {
				t.Fatalf("%d isn't in %v", q, got)
			}
		}
	}
}
