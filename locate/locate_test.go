package locate_test

import (
	"math"
	"testing"

	"dynamo/api"
	"dynamo/locate"
)

func config(b int) api.Config { return api.Config{B: b, Trip: 1000} }

func fresh(v int64) api.Sample { return api.Sample{V: v, Fresh: true} }

// at has v on one of the buses, and 0 on the others.
func at(bus int, v api.Sample) [3]api.Sample {
	l := [3]api.Sample{fresh(0), fresh(0), fresh(0)}
	l[bus] = v
	return l
}

func only(bus int, locked bool) [3]bool {
	var l [3]bool
	l[bus] = locked
	return l
}

func step(t *testing.T, b *locate.Buses, leaks [3]api.Sample, want [3]bool) {
	t.Helper()
	if got := b.Step(leaks); got != want || b.Locked() != want {
		t.Errorf("Step(%v): %v, Locked %v, want %v", leaks, got, b.Locked(), want)
	}
}

func TestNewOne(t *testing.T) {
	if got := locate.New(config(1)).Locked(); got != [3]bool{} {
		t.Errorf("%v", got)
	}
}

func TestLocksBehindB(t *testing.T) {
	for bus := range 3 {
		for n := 1; n <= 4; n++ {
			b := locate.New(config(n))
			for i := 1; i <= n; i++ {
				step(t, b, at(bus, fresh(1001)), only(bus, i == n))
			}
			for range 2*n + 2 { // for good
				step(t, b, at(bus, fresh(0)), only(bus, true))
			}
			for range n {
				step(t, b, [3]api.Sample{}, only(bus, true))
			}
		}
	}
}

func TestTheEdgeDoesNotCount(t *testing.T) {
	b := locate.New(config(2))
	for range 5 {
		step(t, b, [3]api.Sample{fresh(1000), fresh(1000), fresh(1000)}, [3]bool{})
	}
	step(t, b, at(1, fresh(1001)), [3]bool{})
	step(t, b, at(1, fresh(1000)), [3]bool{}) // the count is none
	step(t, b, at(1, fresh(1001)), [3]bool{})
	step(t, b, at(1, fresh(500000)), only(1, true))
}

func TestOneThatIsNotFreshLeavesTheCount(t *testing.T) {
	b := locate.New(config(3))
	step(t, b, at(2, fresh(5000)), [3]bool{})
	step(t, b, at(2, fresh(5000)), [3]bool{})
	for range 5 {
		step(t, b, at(2, api.Sample{V: 5000}), [3]bool{})
		step(t, b, at(2, api.Sample{}), [3]bool{})
	}
	step(t, b, at(2, fresh(5000)), only(2, true))
}

func TestBusesAreApart(t *testing.T) {
	b := locate.New(config(2))
	step(t, b, at(0, fresh(5000)), [3]bool{})
	step(t, b, at(1, fresh(5000)), [3]bool{})
	step(t, b, at(0, fresh(5000)), [3]bool{})
	step(t, b, [3]api.Sample{fresh(5000), fresh(0), fresh(5000)}, only(0, true))
	step(t, b, [3]api.Sample{fresh(0), fresh(5000), fresh(5000)}, [3]bool{true, false, true})
	step(t, b, [3]api.Sample{fresh(0), fresh(5000), fresh(5000)}, [3]bool{true, true, true})
}

func TestLock(t *testing.T) {
	b := locate.New(config(3))
	for _, bus := range []int{-1, 0, 1, 2, 3, 7, math.MinInt, math.MaxInt} {
		if b.Lock(bus) || b.Locked() != [3]bool{} {
			t.Errorf("Lock(%d): %v", bus, b.Locked())
		}
	}
	want := [3]bool{}
	for _, bus := range []int{api.R, api.L, api.E, api.E} {
		want[bus-4] = true
		if !b.Lock(bus) || b.Locked() != want {
			t.Errorf("Lock(%d): %v, want %v", bus, b.Locked(), want)
		}
	}
	for range 5 {
		step(t, b, at(0, fresh(0)), want)
	}
	b = locate.New(config(2))
	b.Lock(api.E)
	step(t, b, at(2, fresh(5000)), only(2, true))
	step(t, b, at(2, fresh(0)), only(2, true))
}
