package super_test

import (
	"math/rand"
	"testing"

	"dynamo/api"
	layer "dynamo/config"
	"dynamo/graph"
	"dynamo/journal"
	"dynamo/sequence"
)

// harm changes the world at random, for good.
func harm(r *rand.Rand, w *world) {
	switch r.Intn(8) {
	case 0:
		w.dead[r.Intn(3)] = true
	case 1:
		w.short[r.Intn(3)] = true
	case 2, 3, 4:
		w.stuck |= 1 << r.Intn(7)
	case 5:
		w.values[api.ChAmp+r.Intn(3)] = 400000
	case 6:
		w.mute[1+r.Intn(api.Channels-1)] = true
	case 7:
		delete(w.mute, 1+r.Intn(api.Channels-1))
	}
}

// P0.9: whatever comes, what is told is safe; and where feedback is true, no two sources are ever joined.
func TestOneSource(t *testing.T) {
	for round := range 300 {
		r := rand.New(rand.NewSource(int64(round)))
		c := config()
		c.D, c.B = 1+r.Intn(4), 1+r.Intn(3)
		w := newWorld(c)
		w.dead[api.Ext] = r.Intn(2) == 0
		for i := range w.delays {
			w.delays[i] = 1 + r.Intn(c.D)
		}
		// Ahead of a reset something was closed.
		for {
			w.closed = r.Intn(128)
			if !graph.Joined(w.closed) {
				break
			}
		}
		for range c.D {
			w.told = append(w.told, w.closed)
		}
		s := start(t, c, nil)
		for cycle := range 150 {
			if r.Intn(25) == 0 {
				harm(r, w)
			}
			if r.Intn(10) == 0 {
				w.command(t, api.PilotExt, r.Intn(2), byte(cycle))
			}
			told := s.Told()
			w.follows()
			if graph.Joined(w.closed) {
				t.Fatalf("round %d, cycle %d: %b is closed", round, cycle, w.closed)
			}
			out, _ := w.step(s)
			if !sequence.Safe(told, s.Maybe(), out.Close) {
				t.Fatalf("round %d, cycle %d: %b is told behind %b, where %b may be closed", round, cycle, out.Close, told, s.Maybe())
			}
		}
	}
}

// P0.9 also where what comes is anything.
func TestOneSourceOfAnyBytes(t *testing.T) {
	for round := range 40 {
		r := rand.New(rand.NewSource(int64(1000 + round)))
		w := newWorld(config())
		s := start(t, config(), nil)
		for cycle := range 200 {
			w.follows()
			in := w.frames()
			for range r.Intn(4) * r.Intn(4) * 20 {
				in[r.Intn(len(in))] = byte(r.Intn(256))
			}
			if r.Intn(2) == 0 {
				from := r.Intn(len(in))
				in = append(in[from:], in[:from]...)
			}
			if r.Intn(3) == 0 {
				w.values[api.ChBack] = int64(r.Intn(128)) // it lies
			} else {
				delete(w.values, api.ChBack)
			}
			told := s.Told()
			out, _ := s.Step(in)
			w.told = append(w.told, out.Close)
			if !sequence.Safe(told, s.Maybe(), out.Close) {
				t.Fatalf("round %d, cycle %d: %b is told behind %b, where %b may be closed", round, cycle, out.Close, told, s.Maybe())
			}
		}
	}
}

// P0.10: where what is wrong stays as it is, E is fed in so many cycles.
func TestNeverDarkForLong(t *testing.T) {
	ways, none := 0, 0
	for round := range 500 {
		r := rand.New(rand.NewSource(int64(round)))
		c := config()
		c.D, c.B, c.S = 1+r.Intn(4), 1+r.Intn(4), 1+r.Intn(4)
		w := newWorld(c)
		for i := range w.delays {
			w.delays[i] = 1 + r.Intn(c.D)
		}
		s := start(t, c, nil)
		w.steps(s, r.Intn(2)*(10+r.Intn(60)))
		for range 1 + r.Intn(5) {
			switch r.Intn(4) {
			case 0:
				w.dead[r.Intn(3)] = true
			case 1:
				w.short[r.Intn(3)] = true
			default:
				w.stuck |= 1 << r.Intn(7)
			}
		}
		for range 3 * c.S {
			w.step(s)
			for ch := 1; ch < api.Channels; ch++ {
				w.mute[ch] = r.Intn(3) == 0
			}
		}
		clear(w.mute)
		for range layer.Bound(c) {
			w.step(s)
		}
		if !w.way() {
			none++
			continue
		}
		ways++
		for i := range 30 {
			w.follows()
			if !w.fed() {
				t.Fatalf("round %d: E is dark %d cycles behind Bound: %b closed, %b stuck, dead %v, short %v, locks %b", round, i, w.closed, w.stuck, w.dead, w.short, s.Locks())
			}
			w.step(s)
		}
	}
	if ways < 150 || none < 50 {
		t.Errorf("%d ways, %d without", ways, none)
	}
}

// P0.11: as long as LAND wasn't told, there is enough to land.
func TestEnoughToLand(t *testing.T) {
	landed := 0
	for round := range 60 {
		r := rand.New(rand.NewSource(int64(round)))
		c := config()
		w := newWorld(c)
		w.q = [2]int64{c.Eland + c.Margin + r.Int63n(60000), c.Eland + c.Margin + r.Int63n(60000)}
		w.noise = func(int) int64 { return r.Int63n(2*c.AmpErr+1) - c.AmpErr }
		s := start(t, c, nil)
		for cycle := range 400 {
			for i := range w.amps {
				w.amps[i] = 0
				if cycle > layer.Boot(c) {
					w.amps[i] = r.Int63n(c.Imax - c.AmpErr)
				}
			}
			for ch := api.ChAmp; ch < api.ChBus; ch++ {
				w.mute[ch] = r.Intn(8) == 0
			}
			w.mute[api.ChSecond] = r.Intn(8) == 0
			out, _ := w.step(s)
			for i, q := range w.q {
				if got := s.Charge(i); q < got.Lo || q > got.Hi {
					t.Fatalf("round %d, cycle %d: %d isn't in %v", round, cycle, q, got)
				}
			}
			if out.Mode == api.Land {
				landed++
				break
			}
			if reserve := min(w.q[0], w.q[1]); reserve < c.Eland {
				t.Fatalf("round %d, cycle %d: %d is left, and LAND wasn't told", round, cycle, reserve)
			}
		}
	}
	if landed < 50 {
		t.Errorf("only %d landed", landed)
	}
}

// P0.12: a reset at any byte takes back neither LAND nor what is locked out.
func TestOverAReset(t *testing.T) {
	land, locked := 0, 0
	for round := range 150 {
		r := rand.New(rand.NewSource(int64(round)))
		c := config()
		c.P = 1 + r.Intn(9)
		w := newWorld(c)
		nv := make([]byte, api.NV)
		s := start(t, c, nv)
		shown := api.Out{} // what was put out last
		var locks uint32
		for cycle := range 120 {
			if r.Intn(30) == 0 {
				harm(r, w)
			}
			if r.Intn(90) == 0 {
				w.command(t, api.PilotLand, 0, byte(cycle))
			}
			before, beforeErr := journal.Recover(nv)
			out, writes := w.step(s)
			if r.Intn(20) > 0 {
				nv = journal.Apply(nv, writes, len(writes))
				shown, locks = out, s.Locks()
				continue
			}
			done := r.Intn(len(writes) + 1)
			nv = journal.Apply(nv, writes, done)
			if done == len(writes) {
				shown, locks = out, s.Locks()
			} else { // cut off ahead of what is put out
				w.told[len(w.told)-1] = shown.Close
			}
			got, err := journal.Recover(nv)
			if done < len(writes) && (got != before || err != beforeErr) {
				t.Fatalf("round %d, cycle %d: %v, %v behind %d writes, want %v", round, cycle, got, err, done, before)
			}
			s = start(t, c, nv)
			if s.Locks()&locks != locks {
				t.Fatalf("round %d, cycle %d: locks %b, ahead %b", round, cycle, s.Locks(), locks)
			}
			if shown.Mode == api.Land {
				land++
				if next, _ := start(t, c, nv).Step(nil); next.Mode != api.Land {
					t.Fatalf("round %d, cycle %d: LAND was taken back", round, cycle)
				}
			}
			if locks != 0 {
				locked++
			}
		}
	}
	if land < 20 || locked < 100 {
		t.Errorf("%d with LAND, %d with locks", land, locked)
	}
}
