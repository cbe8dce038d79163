package graph_test

import (
	"math"
	"math/bits"
	"testing"

	"dynamo/api"
	"dynamo/graph"
)

var pairs = [7][2]int{{0, 4}, {1, 4}, {2, 5}, {3, 5}, {4, 5}, {4, 6}, {5, 6}}

// joined is by Warshall's way: whether each two nodes are joined.
func joined(mask int) [7][7]bool {
	var j [7][7]bool
	for n := range 7 {
		j[n][n] = true
	}
	for c, p := range pairs {
		if mask>>c&1 == 1 {
			j[p[0]][p[1]], j[p[1]][p[0]] = true, true
		}
	}
	for k := range 7 {
		for a := range 7 {
			for b := range 7 {
				j[a][b] = j[a][b] || j[a][k] && j[k][b]
			}
		}
	}
	return j
}

func TestEnds(t *testing.T) {
	for c, want := range pairs {
		if a, b := graph.Ends(c); a != want[0] || b != want[1] {
			t.Errorf("Ends(%d) = %d, %d", c, a, b)
		}
	}
	for _, c := range []int{-1, 7, 8, math.MinInt, math.MaxInt} {
		if a, b := graph.Ends(c); a != -1 || b != -1 {
			t.Errorf("Ends(%d) = %d, %d", c, a, b)
		}
	}
}

func TestEveryMask(t *testing.T) {
	for mask := range 128 {
		j := joined(mask)
		for _, m := range []int{mask, mask | 128, mask | 1<<40, mask - 128, mask | math.MinInt} {
			two := false
			for node := range 7 {
				want := 0
				for other := range 7 {
					if j[node][other] {
						want |= 1 << other
					}
				}
				if got := graph.Reach(m, node); got != want {
					t.Fatalf("Reach(%d, %d) = %b, want %b", m, node, got, want)
				}
				feeds := -1
				if node >= 4 && bits.OnesCount(uint(want&15)) == 1 {
					feeds = bits.TrailingZeros(uint(want & 15))
				}
				if got := graph.Feeds(m, node); got != feeds {
					t.Fatalf("Feeds(%d, %d) = %d, want %d", m, node, got, feeds)
				}
				two = two || node < 4 && want&15 != 1<<node
			}
			if got := graph.Joined(m); got != two {
				t.Fatalf("Joined(%d) = %v", m, got)
			}
			parts := 0
			for node := range 7 {
				first := true
				for ahead := range node {
					first = first && !j[node][ahead]
				}
				if first {
					parts++
				}
			}
			if got := graph.Parts(m); got != parts {
				t.Fatalf("Parts(%d) = %d, want %d", m, got, parts)
			}
		}
	}
}

func TestKnown(t *testing.T) {
	if got := graph.Parts(0); got != 7 {
		t.Errorf("Parts(0) = %d", got)
	}
	if got := graph.Parts(127); got != 1 {
		t.Errorf("Parts(127) = %d", got)
	}
	if graph.Joined(0) || graph.Joined(1<<api.GC|1<<api.BC2) || !graph.Joined(1<<api.GC|1<<api.BC1) || !graph.Joined(1<<api.BC2|1<<api.XC) {
		t.Error("Joined")
	}
	if !graph.Joined(1<<api.GC | 1<<api.EL | 1<<api.ER | 1<<api.XC) {
		t.Error("Gen and Ext are joined by way of E")
	}
	if got := graph.Feeds(1<<api.GC|1<<api.EL|1<<api.BC2, api.E); got != api.Gen {
		t.Errorf("E is fed by %d", got)
	}
}

func TestNoNode(t *testing.T) {
	for _, n := range []int{-1, 7, 64, math.MinInt, math.MaxInt} {
		if got := graph.Reach(127, n); got != 0 {
			t.Errorf("Reach(127, %d) = %d", n, got)
		}
		if got := graph.Feeds(1, n); got != -1 {
			t.Errorf("Feeds(1, %d) = %d", n, got)
		}
	}
	for source := range 4 {
		if got := graph.Feeds(0, source); got != -1 {
			t.Errorf("Feeds of a source: %d", got)
		}
	}
}
