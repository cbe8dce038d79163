package phasor_test

import (
	"math"
	"math/cmplx"
	"math/rand"
	"testing"

	"dynamo/phasor"
)

const top = 30000

func parts() []int64 {
	return []int64{-top, -29999, -2, -1, 0, 1, 2, 12345, 29999, top}
}

func TestCoil(t *testing.T) {
	for _, re := range parts() {
		for _, im := range parts() {
			z := phasor.Coil(re, im)
			if int64(real(z)) != re || int64(imag(z)) != im {
				t.Errorf("Coil(%d, %d) = %v", re, im, z)
			}
		}
	}
}

func TestForwardBackPowerAreExact(t *testing.T) {
	if got := phasor.Forward(1, -1i); got != 2 {
		t.Errorf("Forward(1, -i) = %v, want 2", got)
	}
	if got := phasor.Back(1, -1i); got != 0 {
		t.Errorf("Back(1, -i) = %v, want 0", got)
	}
	for _, ar := range parts() {
		for _, ai := range parts() {
			for _, br := range parts() {
				for _, bi := range parts() {
					a, b := phasor.Coil(ar, ai), phasor.Coil(br, bi)
					f, k := phasor.Forward(a, b), phasor.Back(a, b)
					if f != phasor.Coil(ar-bi, ai+br) || k != phasor.Coil(ar+bi, ai-br) {
						t.Fatalf("Forward, Back(%v, %v) = %v, %v", a, b, f, k)
					}
					if got, want := phasor.Power(f), (ar-bi)*(ar-bi)+(ai+br)*(ai+br); got != want {
						t.Fatalf("Power(%v) = %d, want %d", f, got, want)
					}
					if got, want := phasor.Power(k), (ar+bi)*(ar+bi)+(ai-br)*(ai-br); got != want {
						t.Fatalf("Power(%v) = %d, want %d", k, got, want)
					}
				}
			}
		}
	}
}

func TestTurn(t *testing.T) {
	for _, z := range []complex128{0, 1, 1i, 3 - 4i, complex(-top, top), complex(-7, -29999)} {
		want := z
		for q := range 9 {
			if got := phasor.Turn(z, q); got != want {
				t.Errorf("Turn(%v, %d) = %v, want %v", z, q, got, want)
			}
			if got := phasor.Turn(want, -q); got != z {
				t.Errorf("Turn(%v, %d) = %v, want %v", want, -q, got, z)
			}
			want *= 1i
		}
		if got := phasor.Turn(z, math.MaxInt); got != z*-1i { // 3 more than a multiple of 4
			t.Errorf("Turn(%v, MaxInt) = %v", z, got)
		}
		if got := phasor.Turn(z, math.MinInt); got != z {
			t.Errorf("Turn(%v, MinInt) = %v", z, got)
		}
	}
}

func TestGoodEdges(t *testing.T) {
	for i, c := range []struct {
		a, b  complex128
		least int64
		want  bool
	}{
		{5, -5i, 10, true},     // forward 10, back 0
		{5, -5i, 11, false},    // too weak
		{5, 5i, 0, false},      // it turns back
		{5, 5i, 10, false},     //
		{0, 0, 0, true},        // nothing is as strong as nothing
		{0, 0, 1, false},       //
		{5, -3i, 8, true},      // forward 8, back 2: sixteen times 4 is 64
		{5, -3i, 9, false},     //
		{50, -30i, 0, true},    //
		{51, -30i, 0, false},   // forward 81, back 21: 6561, 16 * 441 = 7056
		{49, -30i, 0, true},    // forward 79, back 19
		{501, -300i, 0, false}, // just beyond: 801, 201
		{499, -300i, 0, true},  // just within: 799, 199
		{5i, 5, 10, true},      // a quarter on
		{-5i, 5, 1, false},     //
		{3 + 4i, 4 - 3i, 10, true},
		{-30000 + 30000i, 30000 + 30000i, 30000, true},
		{30000 + 30000i, -30000 + 30000i, 30000, false},
		{15000, -15000i, 30000, true},
		{15000, -14999i, 30000, false},
	} {
		if got := phasor.Good(c.a, c.b, c.least); got != c.want {
			t.Errorf("%d: Good(%v, %v, %d) = %v", i, c.a, c.b, c.least, got)
		}
	}
}

func TestGoodOfMany(t *testing.T) {
	r := rand.New(rand.NewSource(14))
	part := func() int64 { return r.Int63n(41) - 20 }
	good := 0
	for range 200000 {
		a, b, least := phasor.Coil(part(), part()), phasor.Coil(part(), part()), r.Int63n(60)
		f, k := a+b*1i, a-b*1i
		ff, kk := real(f*cmplx.Conj(f)), real(k*cmplx.Conj(k))
		want := ff >= float64(least*least) && 16*kk <= ff
		if got := phasor.Good(a, b, least); got != want {
			t.Fatalf("Good(%v, %v, %d) = %v", a, b, least, got)
		}
		if want {
			good++
		}
	}
	if good < 1000 {
		t.Errorf("only %d were good", good)
	}
}

func TestAnyNumbersEnd(t *testing.T) {
	wild := []float64{math.NaN(), math.Inf(1), math.Inf(-1), math.MaxFloat64, 1e10, 0.5}
	for _, x := range wild {
		for _, y := range wild {
			z := complex(x, y)
			phasor.Turn(z, 3)
			phasor.Good(z, z, math.MinInt64)
			if phasor.Power(z) < 0 {
				t.Errorf("Power(%v) is below 0", z)
			}
		}
	}
}
