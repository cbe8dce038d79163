package health_test

import (
	"testing"

	"dynamo/api"
	"dynamo/cell"
	"dynamo/health"
)

func config(b int) api.Config {
	return api.Config{B: b, Vmin: 20000, Trip: 300000}
}

func fresh(v int64) api.Sample { return api.Sample{V: v, Fresh: true} }

func well() health.In {
	return health.In{Volt: fresh(24000), Amp: fresh(5000), May: true}
}

func steps(s *health.Source, n int, in health.In) {
	for range n {
		s.Step(in)
	}
}

// expect steps once, and holds what is handed out against what is asked.
func expect(t *testing.T, s *health.Source, in health.In, want bool) {
	t.Helper()
	if got := s.Step(in); got != want || s.Usable() != want {
		t.Errorf("Step(%v): %v, Usable %v, want %v", in, got, s.Usable(), want)
	}
}

func TestNewOne(t *testing.T) {
	s := health.New(config(1))
	if s.Usable() || s.Failed() {
		t.Error("a new one is usable, or has failed")
	}
}

func TestUpAndDown(t *testing.T) {
	for b := 1; b <= 4; b++ {
		s := health.New(config(b))
		for i := 1; i <= b+2; i++ {
			expect(t, s, well(), i >= b)
		}
		low := well()
		low.Volt.V = 19999
		for i := 1; i <= b+2; i++ {
			expect(t, s, low, i < b)
		}
		edge := well()
		edge.Volt.V = 20000
		for i := 1; i <= b+2; i++ {
			expect(t, s, edge, i >= b)
		}
		stale := well()
		stale.Volt.Fresh = false
		for i := 1; i <= b+2; i++ {
			expect(t, s, stale, i < b)
		}
		if s.Failed() {
			t.Error("it has failed")
		}
	}
}

func TestMay(t *testing.T) {
	s := health.New(config(2))
	not := well()
	not.May = false
	steps(s, 5, not)
	if s.Usable() {
		t.Error("usable where it may not")
	}
	expect(t, s, well(), true) // at once: up went on
	expect(t, s, not, false)
	expect(t, s, well(), true)
}

func TestSick(t *testing.T) {
	for _, flag := range []int{cell.Under, cell.Over, cell.Gap, cell.Hot, cell.Hot | cell.Blind} {
		s := health.New(config(2))
		steps(s, 2, well())
		sick := well()
		sick.Flags = flag
		expect(t, s, sick, true)
		expect(t, s, well(), true)
		expect(t, s, sick, true)
		expect(t, s, sick, false)
		expect(t, s, well(), false)
		expect(t, s, well(), true)
	}
	s := health.New(config(1))
	blind := well()
	blind.Flags = cell.Blind
	expect(t, s, blind, true)
}

func TestFailsForGood(t *testing.T) {
	for _, amp := range []int64{300001, -300001, 500000, -500000} {
		for b := 1; b <= 3; b++ {
			s := health.New(config(b))
			steps(s, 5, well())
			over := well()
			over.Amp.V = amp
			for i := 1; i <= b; i++ {
				if s.Failed() {
					t.Errorf("failed ahead of %d", i)
				}
				expect(t, s, over, i < b)
			}
			if !s.Failed() {
				t.Errorf("not failed by %d times %d", b, amp)
			}
			for range 6 {
				expect(t, s, well(), false)
			}
			if !s.Failed() {
				t.Error("not failed any more")
			}
		}
	}
}

func TestDoesNotFail(t *testing.T) {
	for _, amp := range []api.Sample{fresh(300000), fresh(-300000), {V: 400000}, {V: -400000}} {
		s := health.New(config(2))
		in := well()
		in.Amp = amp
		steps(s, 6, in)
		if s.Failed() || !s.Usable() {
			t.Errorf("%v: Failed %v, Usable %v", amp, s.Failed(), s.Usable())
		}
	}
	s := health.New(config(2))
	over := well()
	over.Amp.V = -400000
	stale := over
	stale.Amp.Fresh = false
	for range 4 { // never two in a row
		s.Step(over)
		s.Step(stale)
	}
	if s.Failed() {
		t.Error("failed without a row")
	}
	s.Step(over)
	over.Amp.V = 400000 // the other way counts in the same row
	s.Step(over)
	if !s.Failed() {
		t.Error("not failed by both ways in a row")
	}
}

func TestFail(t *testing.T) {
	s := health.New(config(1))
	s.Step(well())
	s.Fail()
	if s.Usable() || !s.Failed() {
		t.Error("Fail isn't at once")
	}
	expect(t, s, well(), false)
	if !s.Failed() {
		t.Error("Fail isn't for good")
	}
}

func TestFailsThoughItMayNot(t *testing.T) {
	s := health.New(config(2))
	steps(s, 2, health.In{Amp: fresh(400000)})
	if !s.Failed() {
		t.Error("not failed")
	}
}
