package span_test

import (
	"math"
	"testing"

	"dynamo/api"
	"dynamo/fixed"
	"dynamo/span"
)

const (
	least    = math.MinInt64
	greatest = math.MaxInt64
)

// small has every span of numbers from -4 to 4.
func small() []api.Span {
	var l []api.Span
	for lo := int64(-4); lo <= 4; lo++ {
		for hi := lo; hi <= 4; hi++ {
			l = append(l, api.Span{Lo: lo, Hi: hi})
		}
	}
	return l
}

// tight is the least span that has op of each number of a with each of b.
func tight(a, b api.Span, op func(x, y int64) int64) api.Span {
	s := api.Span{Lo: greatest, Hi: least}
	for x := a.Lo; x <= a.Hi; x++ {
		for y := b.Lo; y <= b.Hi; y++ {
			s.Lo, s.Hi = min(s.Lo, op(x, y)), max(s.Hi, op(x, y))
		}
	}
	return s
}

func TestOf(t *testing.T) {
	for _, c := range []struct{ a, b, lo, hi int64 }{{2, 1, 1, 2}, {1, 2, 1, 2}, {3, 3, 3, 3}, {greatest, least, least, greatest}} {
		if got := span.Of(c.a, c.b); got != (api.Span{Lo: c.lo, Hi: c.hi}) {
			t.Errorf("Of(%d, %d) = %v", c.a, c.b, got)
		}
	}
}

func TestSumsAreTight(t *testing.T) {
	for _, a := range small() {
		for _, b := range small() {
			if got, want := span.Add(a, b), tight(a, b, fixed.Add); got != want {
				t.Errorf("Add(%v, %v) = %v, want %v", a, b, got, want)
			}
			if got, want := span.Sub(a, b), tight(a, b, fixed.Sub); got != want {
				t.Errorf("Sub(%v, %v) = %v, want %v", a, b, got, want)
			}
		}
		for k := int64(-3); k <= 3; k++ {
			if got, want := span.Scale(a, k), tight(a, api.Span{Lo: k, Hi: k}, fixed.Mul); got != want {
				t.Errorf("Scale(%v, %d) = %v, want %v", a, k, got, want)
			}
		}
	}
}

func TestSumsStopAtTheBounds(t *testing.T) {
	all := api.Span{Lo: least, Hi: greatest}
	top := api.Span{Lo: greatest - 1, Hi: greatest}
	for i, c := range []struct{ got, want api.Span }{
		{span.Add(top, api.Span{Lo: 1, Hi: 5}), api.Span{Lo: greatest, Hi: greatest}},
		{span.Add(all, all), all},
		{span.Sub(all, all), all},
		{span.Sub(api.Span{Lo: least, Hi: 0}, api.Span{Lo: -1, Hi: 1}), api.Span{Lo: least, Hi: 1}},
		{span.Scale(top, -2), api.Span{Lo: least, Hi: least}},
		{span.Scale(all, -1), api.Span{Lo: -greatest, Hi: greatest}},
		{span.Widen(api.Span{Lo: least + 1, Hi: greatest - 1}, 3), all},
		{span.Widen(api.Span{}, greatest), api.Span{Lo: -greatest, Hi: greatest}},
	} {
		if c.got != c.want {
			t.Errorf("%d: %v, want %v", i, c.got, c.want)
		}
	}
}

func TestShrink(t *testing.T) {
	for _, a := range small() {
		for k := int64(-1); k <= 4; k++ {
			got, want := span.Shrink(a, k), api.Span{}
			if k >= 1 {
				want = api.Span{Lo: int64(math.Floor(float64(a.Lo) / float64(k))), Hi: int64(math.Ceil(float64(a.Hi) / float64(k)))}
			}
			if got != want {
				t.Errorf("Shrink(%v, %d) = %v, want %v", a, k, got, want)
			}
		}
	}
}

func TestHullMeetIn(t *testing.T) {
	for _, a := range small() {
		for _, b := range small() {
			hull := span.Hull(a, b)
			if want := (api.Span{Lo: min(a.Lo, b.Lo), Hi: max(a.Hi, b.Hi)}); hull != want {
				t.Errorf("Hull(%v, %v) = %v, want %v", a, b, hull, want)
			}
			meet, ok := span.Meet(a, b)
			common, in := 0, true
			for x := int64(-5); x <= 5; x++ {
				both := span.Has(a, x) && span.Has(b, x)
				if both {
					common++
				}
				if both != (ok && span.Has(meet, x)) {
					t.Errorf("Meet(%v, %v) = %v, %v: wrong at %d", a, b, meet, ok, x)
				}
				in = in && (!span.Has(a, x) || span.Has(b, x))
			}
			if ok != (common > 0) || !ok && meet != (api.Span{}) {
				t.Errorf("Meet(%v, %v) = %v, %v", a, b, meet, ok)
			}
			if got := span.In(a, b); got != in {
				t.Errorf("In(%v, %v) = %v", a, b, got)
			}
		}
	}
}

func TestWidenHasClamp(t *testing.T) {
	a := api.Span{Lo: -2, Hi: 3}
	for by, want := range map[int64]api.Span{0: a, 1: {Lo: -3, Hi: 4}, 10: {Lo: -12, Hi: 13}, -1: a, -3: a, least: a} {
		if got := span.Widen(a, by); got != want {
			t.Errorf("Widen(%v, %d) = %v, want %v", a, by, got, want)
		}
	}
	for x, want := range map[int64]bool{-3: false, -2: true, 0: true, 3: true, 4: false, least: false, greatest: false} {
		if got := span.Has(a, x); got != want {
			t.Errorf("Has(%v, %d) = %v", a, x, got)
		}
	}
	for _, c := range []struct {
		lo, hi int64
		want   api.Span
	}{{-10, 10, a}, {0, 2, api.Span{Lo: 0, Hi: 2}}, {5, 9, api.Span{Lo: 5, Hi: 5}}, {-9, -5, api.Span{Lo: -5, Hi: -5}}, {-2, 3, a}, {1, 0, api.Span{Lo: 1, Hi: 1}}} {
		if got := span.Clamp(a, c.lo, c.hi); got != c.want {
			t.Errorf("Clamp(%v, %d, %d) = %v, want %v", a, c.lo, c.hi, got, c.want)
		}
	}
}
