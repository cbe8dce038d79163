package debounce_test

import (
	"math"
	"math/rand"
	"testing"

	"dynamo/api"
	"dynamo/debounce"
)

func TestNewOne(t *testing.T) {
	for _, n := range []int{-1, 0, 1, 2, math.MinInt, math.MaxInt} {
		if debounce.New(n).State() {
			t.Errorf("New(%d) is true", n)
		}
	}
	if !debounce.New(1).Step(true) {
		t.Error("New(1): Step(true) isn't true")
	}
}

func TestSoManyInARow(t *testing.T) {
	for n, need := range map[int]int{math.MinInt: 1, -1: 1, 0: 1, 1: 1, 2: 2, 3: 3, 7: 7, api.MaxCycle: 1000, api.MaxCycle + 1: 1000, math.MaxInt: 1000} {
		f := debounce.New(n)
		for _, to := range []bool{true, false, true} {
			for i := 1; i <= need; i++ {
				want := !to
				if i == need {
					want = to
				}
				if got := f.Step(to); got != want || f.State() != want {
					t.Fatalf("New(%d): %d times %v: %v", n, i, to, got)
				}
			}
			for range 3 {
				if f.Step(to) != to {
					t.Fatalf("New(%d): %v doesn't stay", n, to)
				}
			}
		}
	}
}

func TestOneOtherBreaksTheRow(t *testing.T) {
	f := debounce.New(3)
	for i, in := range []bool{true, true, false, true, true, false, true, true} {
		if f.Step(in) {
			t.Fatalf("true at %d", i)
		}
	}
	if !f.Step(true) {
		t.Fatal("not true behind three")
	}
	for i, in := range []bool{false, false, true, false, false} {
		if !f.Step(in) {
			t.Fatalf("false at %d", i)
		}
	}
	if f.Step(false) {
		t.Fatal("not false behind three")
	}
}

func TestForce(t *testing.T) {
	f := debounce.New(3)
	f.Force(true)
	if !f.State() {
		t.Error("not forced to true")
	}
	f.Step(false)
	f.Step(false)
	f.Force(true) // the count is none
	if !f.Step(false) || !f.Step(false) || f.Step(false) {
		t.Error("the count behind Force is wrong")
	}
	f.Step(true)
	f.Step(true)
	f.Force(false)
	if f.State() || f.Step(true) || f.Step(true) || !f.Step(true) {
		t.Error("the count behind Force(false) is wrong")
	}
	f.Force(false)
	if f.State() {
		t.Error("not forced to false")
	}
}

func TestManyAgainstTheRow(t *testing.T) {
	r := rand.New(rand.NewSource(13))
	for n := 1; n <= 4; n++ {
		f := debounce.New(n)
		var row []bool
		state := false
		for i := range 2000 {
			in := r.Intn(3) > 0
			row = append(row, in)
			if len(row) >= n {
				all := true
				for _, x := range row[len(row)-n:] {
					all = all && x != state
				}
				if all {
					state = in
				}
			}
			if got := f.Step(in); got != state {
				t.Fatalf("New(%d): %d: %v", n, i, got)
			}
		}
	}
}
