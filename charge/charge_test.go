package charge_test

import (
	"math/rand"
	"testing"

	"dynamo/api"
	"dynamo/charge"
	"dynamo/table"
)

// config has volts that are 10000 above the charge, and say it to 20 exactly.
func config() api.Config {
	return api.Config{
		Cap: 10000, Imax: 100, AmpErr: 2, Drift: 5, Vmin: 10100, SagErr: 20,
		Ocv: []api.Point{{X: 0, Y: 10000}, {X: 10000, Y: 20000}},
	}
}

func sp(lo, hi int64) api.Span { return api.Span{Lo: lo, Hi: hi} }

func fresh(v int64) api.Sample { return api.Sample{V: v, Fresh: true} }

var stale = api.Sample{V: 15000}

// is holds all that a battery tells against what is asked.
func is(t *testing.T, b *charge.Battery, q, first, second api.Span, known bool) {
	t.Helper()
	k, l := b.Counters()
	if b.Q() != q || k != first || l != second || b.Known() != known {
		t.Errorf("Q %v, Counters %v, %v, Known %v, want %v, %v, %v, %v", b.Q(), k, l, b.Known(), q, first, second, known)
	}
}

func step(t *testing.T, b *charge.Battery, volt, first, second api.Sample) {
	t.Helper()
	if got := b.Step(volt, first, second); got != b.Q() {
		t.Errorf("Step %v, Q %v", got, b.Q())
	}
}

func TestNewOne(t *testing.T) {
	is(t, charge.New(config(), sp(5, 9), true), sp(5, 9), sp(5, 9), sp(5, 9), true)
	is(t, charge.New(config(), sp(5, 9), false), sp(0, 10000), sp(0, 10000), sp(0, 10000), false)
	is(t, charge.New(config(), sp(-5, 10009), true), sp(0, 10000), sp(0, 10000), sp(0, 10000), true)
	is(t, charge.New(config(), api.Span{}, true), api.Span{}, api.Span{}, api.Span{}, true)
}

func TestNotKnownUntilTheVoltsSay(t *testing.T) {
	b := charge.New(config(), sp(5, 9), false)
	step(t, b, stale, fresh(50), fresh(50))
	is(t, b, sp(0, 9952), sp(0, 9952), sp(0, 9952), false)
	step(t, b, fresh(15000), stale, fresh(0)) // without amps the volts say nothing
	is(t, b, sp(0, 9954), sp(0, 10000), sp(0, 9954), false)
	step(t, b, fresh(10099), fresh(0), fresh(0)) // a dead battery's
	is(t, b, sp(0, 9956), sp(0, 10000), sp(0, 9956), false)
	step(t, b, fresh(15000), fresh(0), stale)
	is(t, b, sp(4980, 5020), sp(4980, 5020), sp(4980, 5020), true)
	step(t, b, stale, fresh(10), fresh(10))
	is(t, b, sp(4968, 5012), sp(4968, 5012), sp(4968, 5012), true)
}

func TestKnownIsNotSetByTheVolts(t *testing.T) {
	b := charge.New(config(), sp(4990, 5030), true)
	step(t, b, fresh(15000), fresh(0), fresh(0))
	is(t, b, sp(4988, 5032), sp(4988, 5032), sp(4988, 5032), true) // the counters are two
	b = charge.New(config(), sp(4990, 5030), true)
	step(t, b, fresh(15000), fresh(10), fresh(-10))
	// 4978 to 5022, 4998 to 5042, 4980 to 5020
	is(t, b, sp(4980, 5022), sp(4978, 5022), sp(4998, 5042), true)
}

func TestTwoOfThree(t *testing.T) {
	// The counter that went off is set to where the charge is, wider by Drift.
	b := charge.New(config(), sp(5000, 5010), true)
	step(t, b, fresh(15005), fresh(0), fresh(-90))
	is(t, b, sp(4998, 5012), sp(4998, 5012), sp(4993, 5017), true)
	b = charge.New(config(), sp(5000, 5010), true)
	step(t, b, fresh(15005), fresh(90), fresh(0))
	is(t, b, sp(4998, 5012), sp(4993, 5017), sp(4998, 5012), true)
	// Where the volts are apart, both counters hold.
	b = charge.New(config(), sp(5000, 5010), true)
	step(t, b, fresh(19000), fresh(0), fresh(5))
	is(t, b, sp(4998, 5007), sp(4998, 5012), sp(4993, 5007), true)
}

func TestNoTwoAgree(t *testing.T) {
	b := charge.New(config(), sp(5000, 5010), true)
	step(t, b, fresh(19000), fresh(40), fresh(-40))
	is(t, b, sp(4958, 5052), sp(4958, 4972), sp(5038, 5052), true) // the hull: both meet it
	step(t, b, fresh(15005), fresh(0), fresh(0))                   // the volts stand between them
	is(t, b, sp(4956, 5054), sp(4956, 4974), sp(5036, 5054), true)
	step(t, b, fresh(14970), fresh(0), fresh(0))
	is(t, b, sp(4954, 4976), sp(4954, 4976), sp(4949, 4981), true)
}

func TestWithoutTheVolts(t *testing.T) {
	b := charge.New(config(), sp(5000, 5010), true)
	step(t, b, stale, fresh(0), fresh(5))
	is(t, b, sp(4998, 5007), sp(4998, 5012), sp(4993, 5007), true)
	b = charge.New(config(), sp(5000, 5010), true)
	step(t, b, stale, fresh(40), fresh(-40))
	is(t, b, sp(4958, 5052), sp(4958, 4972), sp(5038, 5052), true)
	b = charge.New(config(), sp(5000, 5010), true)
	step(t, b, stale, fresh(7), fresh(-7))
	is(t, b, sp(5005, 5005), sp(4991, 5005), sp(5005, 5019), true)
	b = charge.New(config(), sp(5000, 5010), true)
	step(t, b, stale, stale, fresh(0))
	is(t, b, sp(4998, 5012), sp(4900, 5110), sp(4998, 5012), true)
}

// Volts that say nothing are no third one, not even one that says 0.
func TestNothingSaidIsNotZero(t *testing.T) {
	b := charge.New(config(), sp(0, 5), true)
	step(t, b, stale, fresh(0), fresh(-9))
	is(t, b, sp(7, 7), sp(0, 7), sp(7, 16), true)
}

func TestSetIsClamped(t *testing.T) {
	b := charge.New(config(), sp(100, 100), true)
	b.Step(stale, fresh(99), fresh(99)) // 0 to 3
	step(t, b, fresh(10100), fresh(99), fresh(-99))
	// 0 to 0, 97 to 104, 80 to 120
	is(t, b, sp(97, 104), sp(92, 109), sp(97, 104), true)
	b = charge.New(config(), sp(9990, 9999), true)
	step(t, b, fresh(19995), fresh(80), fresh(-1))
	// 9908 to 9921, 9989 to 10000, 9975 to 10000
	is(t, b, sp(9989, 10000), sp(9984, 10000), sp(9989, 10000), true)
}

func TestTheTableIsNotKept(t *testing.T) {
	c := config()
	b := charge.New(c, api.Span{}, false)
	c.Ocv[0], c.Ocv[1] = api.Point{}, api.Point{}
	step(t, b, fresh(15000), fresh(0), fresh(0))
	is(t, b, sp(4980, 5020), sp(4980, 5020), sp(4980, 5020), true)
}

// A battery is lived through, where one of the three tells anything.
func TestTheChargeStandsInQ(t *testing.T) {
	r := rand.New(rand.NewSource(20))
	c := config()
	for round := range 600 {
		q := 1000 + r.Int63n(8000)
		b := charge.New(c, sp(q-r.Int63n(9), q+r.Int63n(9)), true)
		wrong := round % 3
		for range 100 {
			out := r.Int63n(2*c.Imax-3) - c.Imax + 2
			if q < 500 || q > 9500 {
				out = 0
			}
			q -= out
			first, second := fresh(out+r.Int63n(5)-2), fresh(out+r.Int63n(5)-2)
			volt := fresh(table.At(c.Ocv, q).Lo + r.Int63n(41) - 20)
			switch wrong {
			case 0:
				first = api.Sample{V: r.Int63n(201) - 100, Fresh: r.Intn(3) > 0}
			case 1:
				second = api.Sample{V: r.Int63n(201) - 100, Fresh: r.Intn(3) > 0}
			case 2:
				volt = api.Sample{V: r.Int63n(60000), Fresh: r.Intn(3) > 0}
			}
			if wrong == 0 {
				first.Fresh = true // without it the volts say nothing, and two are wrong
			}
			if got := b.Step(volt, first, second); q < got.Lo || q > got.Hi {
				t.Fatalf("round %d: %d isn't in %v", round, q, got)
			}
		}
	}
}
