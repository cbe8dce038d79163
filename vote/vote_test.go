package vote_test

import (
	"math"
	"math/rand"
	"slices"
	"testing"

	"dynamo/api"
	"dynamo/vote"
)

func TestMid(t *testing.T) {
	if got := vote.Mid(3, 1, 2); got != 2 {
		t.Errorf("Mid(3, 1, 2) = %d, want 2", got)
	}
	values := []int64{math.MinInt64, -2, -1, 0, 1, 2, math.MaxInt64}
	for _, a := range values {
		for _, b := range values {
			for _, c := range values {
				l := []int64{a, b, c}
				slices.Sort(l)
				if got := vote.Mid(a, b, c); got != l[1] {
					t.Errorf("Mid(%d, %d, %d) = %d, want %d", a, b, c, got, l[1])
				}
			}
		}
	}
}

// standing is in how many of l x stands.
func standing(l []api.Span, x int64) int {
	n := 0
	for _, s := range l {
		if s.Lo <= x && x <= s.Hi {
			n++
		}
	}
	return n
}

func TestCoverAndMostOfMany(t *testing.T) {
	r := rand.New(rand.NewSource(4))
	for range 3000 {
		var l []api.Span
		for range r.Intn(6) {
			lo := r.Int63n(14)
			l = append(l, api.Span{Lo: lo, Hi: lo + r.Int63n(6)})
		}
		kept := slices.Clone(l)
		most := 0
		for x := int64(-1); x <= 20; x++ {
			most = max(most, standing(l, x))
		}
		if got := vote.Most(l...); got != most {
			t.Fatalf("Most(%v) = %d, want %d", l, got, most)
		}
		for k := -1; k <= 7; k++ {
			want, found := api.Span{}, false
			for x := int64(-1); x <= 20; x++ {
				if standing(l, x) >= max(k, 1) {
					if !found {
						want.Lo = x
					}
					want.Hi, found = x, true
				}
			}
			if got, ok := vote.Cover(k, l...); got != want || ok != found {
				t.Fatalf("Cover(%d, %v) = %v, %v, want %v, %v", k, l, got, ok, want, found)
			}
		}
		if !slices.Equal(l, kept) {
			t.Fatal("the list was changed")
		}
	}
}

func TestCoverEdges(t *testing.T) {
	all := api.Span{Lo: math.MinInt64, Hi: math.MaxInt64}
	for i, c := range []struct {
		k    int
		l    []api.Span
		want api.Span
		ok   bool
	}{
		{2, nil, api.Span{}, false},
		{0, nil, api.Span{}, false},
		{1, []api.Span{{Lo: 3, Hi: 5}}, api.Span{Lo: 3, Hi: 5}, true},
		{math.MinInt, []api.Span{{Lo: 3, Hi: 5}, {Lo: 9, Hi: 9}}, api.Span{Lo: 3, Hi: 9}, true},
		{2, []api.Span{{Lo: 3, Hi: 5}, {Lo: 5, Hi: 9}}, api.Span{Lo: 5, Hi: 5}, true},
		{2, []api.Span{{Lo: 3, Hi: 4}, {Lo: 5, Hi: 9}}, api.Span{}, false},
		{2, []api.Span{{Lo: 0, Hi: 2}, {Lo: 1, Hi: 8}, {Lo: 7, Hi: 9}}, api.Span{Lo: 1, Hi: 8}, true}, // with a gap between
		{3, []api.Span{{Lo: 0, Hi: 2}, {Lo: 1, Hi: 8}, {Lo: 7, Hi: 9}}, api.Span{}, false},
		{2, []api.Span{all, all}, all, true},
		{3, []api.Span{all, all}, api.Span{}, false},
		{math.MaxInt, []api.Span{all}, api.Span{}, false},
	} {
		if got, ok := vote.Cover(c.k, c.l...); got != c.want || ok != c.ok {
			t.Errorf("%d: %v, %v, want %v, %v", i, got, ok, c.want, c.ok)
		}
	}
	if got, ok := vote.Cover(1, api.Span{Lo: 5, Hi: 3}); ok || got != (api.Span{}) {
		t.Errorf("of a span without numbers: %v, %v", got, ok)
	}
	if got, ok := vote.Cover(1, api.Span{Lo: 5, Hi: 3}, api.Span{Lo: 4, Hi: 4}); !ok || got != (api.Span{Lo: 4, Hi: 4}) {
		t.Errorf("beside a span without numbers: %v, %v", got, ok)
	}
	if got := vote.Most(); got != 0 {
		t.Errorf("Most of nothing: %d", got)
	}
	if got := vote.Most(all, api.Span{Lo: math.MaxInt64, Hi: math.MaxInt64}); got != 2 {
		t.Errorf("Most at the bound: %d", got)
	}
}
