package sequence_test

import (
	"testing"

	"dynamo/graph"
	"dynamo/sequence"
)

func TestExample(t *testing.T) {
	if got := sequence.Next(3, 0, 4); got != 0 {
		t.Errorf("Next(3, 0, 4) = %d, want 0", got)
	}
}

func TestNext(t *testing.T) {
	for _, c := range []struct{ target, told, maybe, want int }{
		{0, 0, 0, 0},
		{3, 0, 0, 3},
		{3, 3, 3, 3},
		{3, 1, 1, 3},
		{3, 0, 3, 3}, // what may be closed is to be closed
		{3, 5, 5, 1}, // open first
		{3, 1, 5, 1}, // still not proved open
		{3, 1, 1, 3}, // then close
		{3, 4, 0, 0}, // it is told to be closed, though it is proved open
		{0, 127, 127, 0},
		{127, 0, 127, 127},
		{0x55, 0x2a, 0, 0},
		{0x55, 0x7f, 0x7f, 0x55},
		{0x55, 0x11, 0x2a, 0x11},
	} {
		if got := sequence.Next(c.target, c.told, c.maybe); got != c.want {
			t.Errorf("Next(%d, %d, %d) = %d, want %d", c.target, c.told, c.maybe, got, c.want)
		}
	}
}

// Every target, all that is told, and what is not proved open, bit by bit.
func TestEveryNextIsSafe(t *testing.T) {
	for target := range 128 {
		joins := graph.Joined(target)
		for told := range 128 {
			for maybe := 0; maybe < 128; maybe += 1 + target%3 {
				next := sequence.Next(target, told, maybe)
				want := target
				for c := range 7 {
					if (told|maybe)>>c&1 == 1 && target>>c&1 == 0 {
						want = told & target
					}
				}
				if next != want {
					t.Fatalf("Next(%d, %d, %d) = %d, want %d", target, told, maybe, next, want)
				}
				if !joins && !sequence.Safe(told, maybe, next) {
					t.Fatalf("Next(%d, %d, %d) = %d isn't safe", target, told, maybe, next)
				}
			}
		}
	}
}

func TestSafe(t *testing.T) {
	for _, c := range []struct {
		told, maybe, next int
		want              bool
	}{
		{0, 0, 0, true},
		{0, 0, 1, true},
		{0, 2, 1, false},   // B1 may still be at L
		{1, 2, 1, true},    // nothing more is told
		{3, 3, 1, true},    //
		{3, 3, 3, true},    //
		{1, 0, 3, false},   //
		{0, 12, 0, true},   // nothing is told
		{0, 12, 32, false}, // what may be closed joins two by itself
		{0, 4, 1, true},    // B2 at R, Gen at L
		{0, 20, 1, false},  // and the tie
		{0, 1, 3, false},   // what may be closed is to be closed
		{0, 1, 1, true},    //
		{0, 4, 17, false},  //
		{0, 96, 5, false},  // by way of E
		{17, 0, 21, false}, //
		{1, 1, 33, true},   //
	} {
		if got := sequence.Safe(c.told, c.maybe, c.next); got != c.want {
			t.Errorf("Safe(%d, %d, %d) = %v", c.told, c.maybe, c.next, got)
		}
	}
}
