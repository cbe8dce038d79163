package choose_test

import (
	"math"
	"math/bits"
	"math/rand"
	"testing"

	"dynamo/api"
	"dynamo/choose"
	"dynamo/graph"
)

const (
	gc = 1 << iota
	bc1
	bc2
	xc
	tie
	el
	er
)

// facts: all sources are live, and as the supervisor ranks them; all can be closed.
func facts() api.Facts {
	return api.Facts{Live: [4]bool{true, true, true, true}, Rank: [4]int{4, 3, 3, 5}, Can: 127}
}

// fits is by the words of the promise.
func fits(f api.Facts, mask int) bool {
	for c := range 7 {
		in := mask>>c&1 == 1
		can, must := f.Can>>c&1 == 1, f.Must>>c&1 == 1
		if must && !in || in && !can && !must {
			return false
		}
	}
	for a := range 4 {
		for b := range a {
			if graph.Reach(mask, a)>>b&1 == 1 {
				return false
			}
		}
		for bus := range 3 {
			if f.Short[bus] && graph.Reach(mask, a)>>(4+bus)&1 == 1 {
				return false
			}
		}
	}
	return true
}

func score(f api.Facts, mask int) [4]int {
	var s [4]int
	fed := func(bus int) (int, bool) {
		n, by := 0, 0
		for source := range 4 {
			if graph.Reach(mask, source)>>bus&1 == 1 {
				n, by = n+1, source
			}
		}
		return by, n == 1 && f.Live[by]
	}
	if by, ok := fed(api.E); ok {
		s[0], s[1] = 1, f.Rank[by]
	}
	if by, ok := fed(api.L); ok {
		s[2] += f.Rank[by]
	}
	if by, ok := fed(api.R); ok {
		s[2] += f.Rank[by]
	}
	s[3] = 7 - bits.OnesCount(uint((mask^f.Now)&127))
	return s
}

// above tells by the first number that is unlike.
func above(a, b [4]int) bool {
	for i := range a {
		if a[i] != b[i] {
			return a[i] > b[i]
		}
	}
	return false
}

func some(r *rand.Rand) api.Facts {
	f := api.Facts{Can: r.Intn(128) | r.Intn(128), Must: r.Intn(128) & r.Intn(128) & r.Intn(128) & r.Intn(128), Now: r.Intn(128), Rank: [4]int{4, 3, 3, 5}}
	for i := range f.Live {
		f.Live[i] = r.Intn(3) > 0
	}
	for i := range f.Short {
		f.Short[i] = r.Intn(5) == 0
	}
	if r.Intn(3) == 0 {
		for i := range f.Rank {
			f.Rank[i] = r.Intn(7) - 2
		}
	}
	return f
}

func TestManyAgainstTheWords(t *testing.T) {
	r := rand.New(rand.NewSource(22))
	none := 0
	for range 1500 {
		f := some(r)
		best, found := 0, false
		for mask := range 128 {
			ok := fits(f, mask)
			if got := choose.Fits(f, mask); got != ok {
				t.Fatalf("Fits(%v, %b) = %v", f, mask, got)
			}
			if got, want := choose.Score(f, mask), score(f, mask); got != want {
				t.Fatalf("Score(%v, %b) = %v, want %v", f, mask, got, want)
			}
			if ok && (!found || above(score(f, mask), score(f, best))) {
				best, found = mask, true
			}
		}
		if got, ok := choose.Best(f); got != best || ok != found {
			t.Fatalf("Best(%v) = %b, %v, want %b, %v", f, got, ok, best, found)
		}
		if !found {
			none++
		}
	}
	if none == 0 || none > 1200 {
		t.Errorf("%d had no way", none)
	}
}

func TestFits(t *testing.T) {
	for i, c := range []struct {
		change func(f *api.Facts)
		mask   int
		want   bool
	}{
		{nil, 0, true},
		{nil, gc | bc2 | el, true},
		{nil, gc | bc1, false},
		{nil, gc | tie | el, true},
		{nil, gc | tie | bc2, false},
		{nil, gc | el | er | xc, false},
		{nil, tie | el | er, true},
		{func(f *api.Facts) { f.Can = 127 &^ gc }, gc, false},
		{func(f *api.Facts) { f.Can = 127 &^ gc }, bc1, true},
		{func(f *api.Facts) { f.Can, f.Must = 0, gc }, gc, true}, // what can't be opened may be closed
		{func(f *api.Facts) { f.Must = gc }, 0, false},
		{func(f *api.Facts) { f.Must = gc }, gc | el, true},
		{func(f *api.Facts) { f.Must = gc | bc1 }, gc | bc1, false},
		{func(f *api.Facts) { f.Short[0] = true }, gc, false},
		{func(f *api.Facts) { f.Short[0] = true }, bc2 | er, true},
		{func(f *api.Facts) { f.Short[0] = true }, bc2 | tie, false},
		{func(f *api.Facts) { f.Short[2] = true }, gc | bc2, true},
		{func(f *api.Facts) { f.Short[2] = true }, bc2 | tie | el, false},
		{func(f *api.Facts) { f.Short[1] = true }, el | er | tie, true}, // no source is there
		{func(f *api.Facts) { f.Live = [4]bool{} }, gc | bc2 | el, true},
		{func(f *api.Facts) { f.Live = [4]bool{}; f.Short[0] = true }, gc, false}, // one that isn't live counts too
	} {
		f := facts()
		if c.change != nil {
			c.change(&f)
		}
		if got := choose.Fits(f, c.mask); got != c.want {
			t.Errorf("%d: Fits(%b) = %v", i, c.mask, got)
		}
	}
	for _, mask := range []int{-1, 128, 128 | gc, -128, math.MinInt, math.MaxInt} {
		f := facts()
		f.Can = -1
		if choose.Fits(f, mask) {
			t.Errorf("Fits(%d)", mask)
		}
	}
}

// beyond are bits that are no contactor's.
var beyond = []int{1 << 7, 1 << 9, 1 << 31, 1 << 62, math.MinInt, -128}

func TestOtherBitsOfFactsCountForNothing(t *testing.T) {
	r := rand.New(rand.NewSource(23))
	for range 200 {
		f := some(r)
		wide := f
		wide.Can |= beyond[r.Intn(len(beyond))]
		wide.Must |= beyond[r.Intn(len(beyond))]
		wide.Now |= beyond[r.Intn(len(beyond))]
		for mask := range 128 {
			if got, want := choose.Fits(wide, mask), choose.Fits(f, mask); got != want {
				t.Fatalf("Fits(%v, %b) = %v", wide, mask, got)
			}
			if got, want := choose.Score(wide, mask), choose.Score(f, mask); got != want {
				t.Fatalf("Score(%v, %b) = %v, want %v", wide, mask, got, want)
			}
		}
		best, found := choose.Best(f)
		if got, ok := choose.Best(wide); got != best || ok != found {
			t.Fatalf("Best(%v) = %b, %v, want %b, %v", wide, got, ok, best, found)
		}
	}
}

func TestMustBeyondContactors(t *testing.T) {
	for _, bit := range beyond {
		f := facts()
		f.Must = bit
		for _, mask := range []int{0, gc, xc | tie | el} {
			if !choose.Fits(f, mask) {
				t.Errorf("Must %b: Fits(%b) is false", bit, mask)
			}
		}
		if choose.Fits(f, gc|bc1) || choose.Fits(f, bit) || choose.Fits(f, bit|gc) {
			t.Errorf("Must %b: what can't be fits", bit)
		}
		f.Must = bit | el
		if choose.Fits(f, gc) || !choose.Fits(f, gc|el) {
			t.Errorf("Must %b: EL isn't asked for", f.Must)
		}
		f.Must, f.Can = bit, 0
		if !choose.Fits(f, 0) || choose.Fits(f, gc) {
			t.Errorf("Must %b: other than nothing can be closed", f.Must)
		}
	}
}

func TestScore(t *testing.T) {
	f := facts()
	f.Now = gc
	for mask, want := range map[int][4]int{
		0:                {0, 0, 0, 6},
		gc:               {0, 0, 4, 7},
		gc | el:          {1, 4, 4, 6},
		gc | tie | el:    {1, 4, 8, 5}, // one that feeds both counts twice
		gc | tie | er:    {1, 4, 8, 5},
		gc | bc2 | el:    {1, 4, 7, 5},
		gc | xc | er:     {1, 5, 9, 5},
		xc | tie | er:    {1, 5, 10, 3},
		gc | bc1 | el:    {0, 0, 0, 5}, // fed by two is fed by none
		bc1 | el | er:    {1, 3, 6, 3}, // R by way of E
		gc | bc1 | bc2:   {0, 0, 3, 5},
		127:              {0, 0, 0, 1},
		gc | 128 | 1<<20: {0, 0, 4, 7},
	} {
		if got := choose.Score(f, mask); got != want {
			t.Errorf("Score(%b) = %v, want %v", mask, got, want)
		}
	}
	f.Live[api.Gen] = false
	if got := choose.Score(f, gc|bc2|el); got != [4]int{0, 0, 3, 5} {
		t.Errorf("Gen isn't live: %v", got)
	}
}

func TestBest(t *testing.T) {
	dark := facts()
	dark.Live = [4]bool{}
	if got, ok := choose.Best(dark); got != 0 || !ok {
		t.Errorf("nothing is live: %b, %v", got, ok)
	}
	dark.Now = gc | bc1 // joined: one of both goes, and the least mask tells which
	if got, ok := choose.Best(dark); got != gc || !ok {
		t.Errorf("two as good: %b, %v", got, ok)
	}
	if got, ok := choose.Best(facts()); got != xc|tie|el || !ok {
		t.Errorf("all: %b, %v", got, ok)
	}
	flight := facts()
	flight.Live[api.Ext] = false
	if got, ok := choose.Best(flight); got != gc|tie|el || !ok {
		t.Errorf("in flight: %b, %v", got, ok)
	}
	flight.Now = gc | tie | er // as good: what is closed stays
	if got, ok := choose.Best(flight); got != gc|tie|er || !ok {
		t.Errorf("as it is: %b, %v", got, ok)
	}
	stuck := facts()
	stuck.Must = gc | bc1
	if got, ok := choose.Best(stuck); got != 0 || ok {
		t.Errorf("no way: %b, %v", got, ok)
	}
}
