package table_test

import (
	"errors"
	"math"
	"math/big"
	"math/rand"
	"slices"
	"testing"

	"dynamo/api"
	"dynamo/table"
)

func line(n int) []api.Point {
	var t []api.Point
	for i := range n {
		t = append(t, api.Point{X: int64(i), Y: int64(i)})
	}
	return t
}

func TestCheckTakes(t *testing.T) {
	for i, l := range [][]api.Point{
		{{X: 0, Y: 0}, {X: 2, Y: 1}},
		{{X: 0, Y: 5}, {X: 1, Y: 5}, {X: 2, Y: 5}},
		{{X: -api.Most, Y: -api.Most}, {X: api.Most, Y: api.Most}},
		line(2), line(api.MaxPoints),
	} {
		if err := table.Check(l); err != nil {
			t.Errorf("%d: %v", i, err)
		}
	}
}

func TestCheckRefuses(t *testing.T) {
	p := func(n ...int64) []api.Point {
		var l []api.Point
		for i := 0; i < len(n); i += 2 {
			l = append(l, api.Point{X: n[i], Y: n[i+1]})
		}
		return l
	}
	long := line(api.MaxPoints + 1)
	long[0].X = math.MaxInt64
	for i, c := range []struct {
		t    []api.Point
		want error
		pos  int // -1: not around a place
	}{
		{nil, api.ErrShort, -1},
		{p(api.Most+1, 0), api.ErrShort, -1},
		{long, api.ErrLong, -1},
		{p(api.Most+1, 0, 0, 0), api.ErrRange, 0},
		{p(-api.Most-1, 0, 0, 0), api.ErrRange, 0},
		{p(0, api.Most+1, 1, 0), api.ErrRange, 0},
		{p(0, -api.Most-1, 1, 0), api.ErrRange, 0},
		{p(0, 0, 1, api.Most+1), api.ErrRange, 1},
		{p(0, 0, math.MinInt64, 0), api.ErrRange, 1},
		{p(0, 0, 0, 1), api.ErrTable, 1},
		{p(0, 0, -1, 1), api.ErrTable, 1},
		{p(0, 0, 1, -1), api.ErrTable, 1},
		{p(0, 0, 1, 1, 1, 2), api.ErrTable, 2},
		{p(0, 0, 0, 1, api.Most+1, 0), api.ErrTable, 1},
		{p(0, 0, 1, 0, 2, api.Most+1, 0, 0), api.ErrRange, 2},
	} {
		err := table.Check(c.t)
		var at *api.At
		around := errors.As(err, &at)
		if !errors.Is(err, c.want) || around != (c.pos >= 0) || around && (at.Pos != c.pos || at.Err != c.want) {
			t.Errorf("%d: %v, want %v at %d", i, err, c.want, c.pos)
		}
		if got := table.At(c.t, 1); got != (api.Span{}) {
			t.Errorf("%d: At of a table that is none: %v", i, got)
		}
		if got := table.Back(c.t, 1); got != (api.Span{}) {
			t.Errorf("%d: Back of a table that is none: %v", i, got)
		}
	}
}

func TestAtExamples(t *testing.T) {
	two := []api.Point{{X: 0, Y: 0}, {X: 2, Y: 1}}
	if got := table.At(two, 1); got != (api.Span{Lo: 0, Hi: 1}) {
		t.Errorf("At = %v, want 0 to 1", got)
	}
	bent := []api.Point{{X: -10, Y: -7}, {X: 0, Y: 0}, {X: 3, Y: 10}, {X: 5, Y: 10}, {X: 6, Y: 100}}
	for x, want := range map[int64]api.Span{
		math.MinInt64: {Lo: -7, Hi: -7}, -11: {Lo: -7, Hi: -7}, -10: {Lo: -7, Hi: -7},
		-9: {Lo: -7, Hi: -6}, -5: {Lo: -4, Hi: -3}, 0: {}, 1: {Lo: 3, Hi: 4}, 2: {Lo: 6, Hi: 7}, 3: {Lo: 10, Hi: 10},
		4: {Lo: 10, Hi: 10}, 5: {Lo: 10, Hi: 10}, 6: {Lo: 100, Hi: 100}, 7: {Lo: 100, Hi: 100}, math.MaxInt64: {Lo: 100, Hi: 100},
	} {
		if got := table.At(bent, x); got != want {
			t.Errorf("At(%d) = %v, want %v", x, got, want)
		}
	}
}

// exact is At by unbounded fractions.
func exact(l []api.Point, x int64) api.Span {
	i, found := slices.BinarySearchFunc(l, x, func(p api.Point, x int64) int { return big.NewInt(p.X).Cmp(big.NewInt(x)) })
	if found {
		return api.Span{Lo: l[i].Y, Hi: l[i].Y}
	}
	if i == 0 || i == len(l) {
		y := l[max(i-1, 0)].Y
		return api.Span{Lo: y, Hi: y}
	}
	p, q := l[i-1], l[i]
	run := big.NewInt(q.X - p.X)
	rise := new(big.Int).Mul(big.NewInt(x-p.X), big.NewInt(q.Y-p.Y))
	down, rest := new(big.Int).DivMod(rise, run, new(big.Int))
	s := api.Span{Lo: p.Y + down.Int64(), Hi: p.Y + down.Int64()}
	if rest.Sign() > 0 {
		s.Hi++
	}
	return s
}

func TestAtOfTheGreatest(t *testing.T) {
	wide := []api.Point{{X: -api.Most, Y: -api.Most}, {X: api.Most - 1, Y: api.Most}, {X: api.Most, Y: api.Most}}
	for _, x := range []int64{-api.Most, -api.Most + 1, -3, 0, 1, 12345, api.Most - 2, api.Most - 1, api.Most} {
		if got, want := table.At(wide, x), exact(wide, x); got != want {
			t.Errorf("At(%d) = %v, want %v", x, got, want)
		}
	}
}

// slowBack goes through all x, by the words of the promise.
func slowBack(l []api.Point, y int64) api.Span {
	first, last := l[0].X, l[len(l)-1].X
	a, b := last, first
	for x := last; x >= first; x-- {
		if table.At(l, x).Hi >= y {
			a = x
		}
	}
	for x := first; x <= last; x++ {
		if table.At(l, x).Lo <= y {
			b = x
		}
	}
	return api.Span{Lo: min(a, b), Hi: max(a, b)}
}

func TestAtAndBackOfManyTables(t *testing.T) {
	r := rand.New(rand.NewSource(3))
	for range 300 {
		p := api.Point{X: r.Int63n(20) - 10, Y: r.Int63n(20) - 10}
		l := []api.Point{p}
		for range 1 + r.Intn(5) {
			p = api.Point{X: p.X + 1 + r.Int63n(7), Y: p.Y + max(0, r.Int63n(9)-2)}
			l = append(l, p)
		}
		kept := slices.Clone(l)
		for x := l[0].X - 2; x <= p.X+2; x++ {
			if got, want := table.At(l, x), exact(l, x); got != want {
				t.Fatalf("At(%v, %d) = %v, want %v", l, x, got, want)
			}
		}
		for y := l[0].Y - 2; y <= p.Y+2; y++ {
			if got, want := table.Back(l, y), slowBack(l, y); got != want {
				t.Fatalf("Back(%v, %d) = %v, want %v", l, y, got, want)
			}
		}
		if !slices.Equal(l, kept) {
			t.Fatal("the table was changed")
		}
	}
}

func TestBackEdges(t *testing.T) {
	steep := []api.Point{{X: 0, Y: 0}, {X: 1, Y: 10}}
	flat := []api.Point{{X: -4, Y: 3}, {X: 5, Y: 3}, {X: 9, Y: 4}}
	wide := []api.Point{{X: -api.Most, Y: -api.Most}, {X: api.Most, Y: api.Most}}
	for i, c := range []struct {
		t    []api.Point
		y    int64
		want api.Span
	}{
		{steep, 5, api.Span{Lo: 0, Hi: 1}}, // the least x is the greater one here
		{steep, -1, api.Span{}},
		{steep, 0, api.Span{}},
		{steep, 10, api.Span{Lo: 1, Hi: 1}},
		{steep, 11, api.Span{Lo: 1, Hi: 1}},
		{flat, 3, api.Span{Lo: -4, Hi: 8}},
		{flat, 4, api.Span{Lo: 6, Hi: 9}},
		{flat, 2, api.Span{Lo: -4, Hi: -4}},
		{flat, 5, api.Span{Lo: 9, Hi: 9}},
		{wide, 17, api.Span{Lo: 17, Hi: 17}},
		{wide, math.MaxInt64, api.Span{Lo: api.Most, Hi: api.Most}},
		{wide, math.MinInt64, api.Span{Lo: -api.Most, Hi: -api.Most}},
	} {
		if got := table.Back(c.t, c.y); got != c.want {
			t.Errorf("%d: %v, want %v", i, got, c.want)
		}
	}
}
