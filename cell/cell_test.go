package cell_test

import (
	"math"
	"testing"

	"dynamo/api"
	"dynamo/cell"
)

func config() api.Config {
	return api.Config{CellMin: 3000, CellMax: 4200, CellGap: 300, TempMax: 600}
}

// seen makes samples; those of -1 are not fresh, but show what would be amiss if they were.
func seen(v ...int64) [4]api.Sample {
	var l [4]api.Sample
	for i, x := range v {
		l[i] = api.Sample{V: x, Fresh: true}
		if x == -1 {
			l[i] = api.Sample{V: int64(i%2) * 9000}
		}
	}
	return l
}

func TestFlags(t *testing.T) {
	cool := api.Sample{V: 600, Fresh: true}
	for i, c := range []struct {
		cells [4]api.Sample
		temp  api.Sample
		want  int
	}{
		{seen(3500, 3500, 3500, 3500), cool, 0},
		{seen(3000, 3300, 3150, 3299), cool, 0}, // the edges
		{seen(4200, 3900, 4000, 4100), cool, 0},
		{seen(3100, 2999, 3100, 3100), cool, cell.Under},
		{seen(2999, 3100, 3100, 3100), cool, cell.Under},
		{seen(4100, 4100, 4100, 4201), cool, cell.Over},
		{seen(3800, 3800, 3499, 3800), cool, cell.Gap},
		{seen(3499, 3800, 3500, 3800), cool, cell.Gap},
		{seen(3500, 3800, 3500, 3800), cool, 0},
		{seen(2999, 4201, 3500, 3500), cool, cell.Under | cell.Over | cell.Gap},
		{seen(3500, 3500, 3500, 3500), api.Sample{V: 601, Fresh: true}, cell.Hot},
		{seen(3500, 3500, 3500, 3500), api.Sample{V: -500, Fresh: true}, 0},
		{seen(3500, 3500, 3500, 3500), api.Sample{V: 601}, cell.Blind},
		{seen(3500, 3500, 3500, 3500), api.Sample{}, cell.Blind},
		{seen(3500, -1, 3500, 3500), cool, 0}, // three are enough
		{seen(-1, 3500, 3500, 3500), cool, 0},
		{seen(3500, 3500, -1, -1), cool, cell.Blind},
		{seen(2000, -1, -1, -1), cool, cell.Blind | cell.Under},
		{seen(-1, -1, -1, 5000), cool, cell.Blind | cell.Over},
		{seen(-1, 3000, -1, 4000), cool, cell.Blind | cell.Gap},
		{seen(-1, -1, -1, -1), cool, cell.Blind},
		{seen(-1, -1, -1, -1), api.Sample{V: 601, Fresh: true}, cell.Blind | cell.Hot},
		{seen(-1, -1, -1, -1), api.Sample{V: 601}, cell.Blind},
		{[4]api.Sample{}, api.Sample{}, cell.Blind},
		{seen(2000, 5000, 2000, 5000), api.Sample{V: 1500, Fresh: true}, cell.Under | cell.Over | cell.Gap | cell.Hot},
	} {
		if got := cell.Flags(config(), c.cells, c.temp); got != c.want {
			t.Errorf("%d: %d, want %d", i, got, c.want)
		}
	}
}

func TestFlagsOfAnyNumbers(t *testing.T) {
	cool := api.Sample{V: math.MinInt64, Fresh: true}
	hot := api.Sample{V: math.MaxInt64, Fresh: true}
	wide := seen(math.MinInt64, math.MaxInt64, 0, 3500)
	if got := cell.Flags(config(), wide, cool); got != cell.Under|cell.Over|cell.Gap {
		t.Errorf("from the least to the greatest: %d", got)
	}
	if got := cell.Flags(config(), seen(math.MinInt64, 1, 1, 1), hot); got != cell.Under|cell.Gap|cell.Hot {
		t.Errorf("from the least: %d", got)
	}
	if got := cell.Flags(config(), seen(-5, -305, -5, -5), cool); got != cell.Under {
		t.Errorf("below 0: %d", got)
	}
	if got := cell.Flags(config(), seen(-5, -306, -5, -5), cool); got != cell.Under|cell.Gap {
		t.Errorf("below 0, apart: %d", got)
	}
}

func TestBad(t *testing.T) {
	for flags := range 64 {
		if got, want := cell.Bad(flags), flags%16 != 0; got != want {
			t.Errorf("Bad(%d) = %v", flags, got)
		}
	}
	if cell.Under != 1 || cell.Over != 2 || cell.Gap != 4 || cell.Hot != 8 || cell.Blind != 16 {
		t.Error("the bits are others")
	}
}
