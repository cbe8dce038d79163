package super_test

import (
	"bytes"
	"errors"
	"slices"
	"testing"

	"dynamo/act"
	"dynamo/api"
	"dynamo/frame"
	"dynamo/journal"
	"dynamo/super"
)

func TestNewErrorsInOrder(t *testing.T) {
	bad := config()
	bad.Margin = 0
	for i, x := range []struct {
		c    api.Config
		nv   []byte
		want error
		pos  int
	}{
		{api.Config{}, make([]byte, api.NV), api.ErrConfig, 1},
		{api.Config{}, nil, api.ErrConfig, 1},
		{bad, make([]byte, 89), api.ErrConfig, 26},
		{config(), nil, api.ErrShort, 0},
		{config(), make([]byte, 87), api.ErrShort, 0},
		{config(), make([]byte, 89), api.ErrLong, 0},
	} {
		s, err := super.New(x.c, x.nv)
		var at *api.At
		if errors.As(err, &at); s != nil || !errors.Is(err, x.want) || (at != nil) != (x.pos > 0) || at != nil && at.Pos != x.pos {
			t.Errorf("%d: %v, %v, want %v", i, s, err, x.want)
		}
	}
}

func TestNewOneOfNothing(t *testing.T) {
	c := config()
	for _, nv := range [][]byte{make([]byte, api.NV), bytes.Repeat([]byte{0xa5}, api.NV)} {
		s := start(t, c, nv)
		if s.Told() != 0 || s.Maybe() != 127 || s.Cycles() != 0 || s.Locks() != 0 || len(s.Act()) != 0 {
			t.Errorf("Told %b, Maybe %b, Cycles %d, Locks %b, Act % x", s.Told(), s.Maybe(), s.Cycles(), s.Locks(), s.Act())
		}
		all := api.Span{Lo: 0, Hi: c.Cap}
		for i, want := range map[int]api.Span{-1: {}, 0: all, 1: all, 2: {}, 1 << 40: {}} {
			if got := s.Charge(i); got != want {
				t.Errorf("Charge(%d) = %v, want %v", i, got, want)
			}
		}
		w := newWorld(c)
		for range 20 {
			if out, _ := w.step(s); out.Notes&api.NoteDefault == 0 {
				t.Error("that nothing was recovered isn't told")
			}
		}
	}
}

func TestNewOneOfARecord(t *testing.T) {
	c := config()
	r := api.Record{Mode: api.Degraded, Q1: api.Span{Lo: 500000, Hi: 600000}, Q2: api.Span{Lo: 10000, Hi: 990000}}
	s := start(t, c, kept(t, r))
	// (P + B) times Imax: 18000
	if got, want := s.Charge(0), (api.Span{Lo: 482000, Hi: 618000}); got != want {
		t.Errorf("Charge(0) = %v, want %v", got, want)
	}
	if got, want := s.Charge(1), (api.Span{Lo: 0, Hi: c.Cap}); got != want {
		t.Errorf("Charge(1) = %v, want %v", got, want)
	}
	if s.Told() != 0 || s.Maybe() != 127 || s.Locks() != 0 || s.Cycles() != 0 || len(s.Act()) != 0 {
		t.Errorf("Told %b, Maybe %b, Locks %b, Cycles %d", s.Told(), s.Maybe(), s.Locks(), s.Cycles())
	}
	out, _ := s.Step(nil)
	if out.Notes&api.NoteDefault != 0 {
		t.Error("NoteDefault where something was recovered")
	}
	// Known: the volts alone don't set the counters.
	s = start(t, c, kept(t, r))
	w := newWorld(c)
	w.q = [2]int64{550000, 550000}
	w.step(s)
	if got := s.Charge(0); got != (api.Span{Lo: 481990, Hi: 618010}) {
		t.Errorf("Charge(0) = %v", got)
	}
}

func TestTheModeIsRecovered(t *testing.T) {
	full := api.Span{Lo: 900000, Hi: 900000}
	for m := api.Normal; m <= api.Ground; m++ {
		s := start(t, config(), kept(t, api.Record{Mode: m, Q1: full, Q2: full}))
		out := newWorld(config()).steps(s, 9)
		want := api.Normal
		if m == api.Land {
			want = api.Land
		}
		if out.Mode != want {
			t.Errorf("mode %d behind %d", out.Mode, m)
		}
	}
}

func TestEachLockIsRecovered(t *testing.T) {
	full := api.Span{Lo: 900000, Hi: 900000}
	for bit := range 21 {
		c := config()
		s := start(t, c, kept(t, api.Record{Mode: api.Normal, Locks: 1 << bit, Q1: full, Q2: full}))
		if got := s.Locks(); got != 1<<bit {
			t.Errorf("lock %d: %b", bit, got)
		}
		w := newWorld(c)
		if bit >= 7 && bit < 14 {
			w.closed = 1 << (bit - 7)
			w.stuck = w.closed
		}
		w.dead[api.Ext] = false
		w.command(t, api.PilotExt, 1, 1)
		out := w.steps(s, 20)
		note, least, most := 0, 0, 127
		switch {
		case bit < 7:
			note, most = api.NoteJam, 127&^(1<<bit)
		case bit < 14:
			note, least = api.NoteJam, 1<<(bit-7)
		case bit == 14:
			note, most = api.NoteShort, bc2|xc|er
		case bit == 15:
			note, most = api.NoteShort, gc|bc1|el
		case bit == 16:
			note, most = api.NoteShort, 127&^(el|er)
		default:
			note, most = api.NoteSource, 127&^(1<<(bit-17))
		}
		if bit == 17+api.Ext && out.Close&gc == 0 || bit == 17 && out.Close&xc == 0 {
			t.Errorf("lock %d: %b is told", bit, out.Close)
		}
		if out.Close&least != least || out.Close&^most != 0 || out.Notes&(api.NoteJam|api.NoteShort|api.NoteSource) != note {
			t.Errorf("lock %d: %b is told, notes %b", bit, out.Close, out.Notes)
		}
		if got := s.Locks(); got != 1<<bit {
			t.Errorf("lock %d, later: %b", bit, got)
		}
	}
	s := start(t, config(), kept(t, api.Record{Mode: api.Normal, Locks: 1<<21 - 1}))
	if got := s.Locks(); got != 1<<21-1 {
		t.Errorf("all: %b", got)
	}
}

func TestFromTheBeginning(t *testing.T) {
	w, s := newWorld(config()), start(t, config(), nil)
	const on = gc | tie | el
	for i, want := range []api.Out{
		{Mode: api.Return, Notes: api.NoteDark | api.NoteLow | api.NoteNone},
		{Mode: api.Normal, Notes: api.NoteDark},
		{Mode: api.Normal, Notes: api.NoteDark},
		{Close: on, Charge: 3, Mode: api.Normal, Notes: api.NoteDark}, // proved open since D
		{Close: on, Charge: 3, Mode: api.Normal},
		{Close: on, Charge: 3, Mode: api.Normal, Feed: 7}, // wanted H times
		{Close: on, Charge: 3, Mode: api.Normal, Feed: 7},
	} {
		want.Notes |= api.NoteDefault | api.NoteShed // the last feeder has no room
		out, writes := w.step(s)
		if out != want {
			t.Errorf("cycle %d: %+v, want %+v", i, out, want)
		}
		if s.Told() != want.Close || s.Cycles() != i+1 || s.Locks() != 0 {
			t.Errorf("cycle %d: Told %b, Cycles %d, Locks %b", i, s.Told(), s.Cycles(), s.Locks())
		}
		if (len(writes) > 0) != (i == 6) {
			t.Errorf("cycle %d: %d writes", i, len(writes))
		}
		f, passed := frame.Split(s.Act())
		if len(f) != 1 || passed != 0 || f[0].Seq != byte(i) {
			t.Fatalf("cycle %d: Act % x", i, s.Act())
		}
		if got, err := act.Read(f[0]); got != want || err != nil {
			t.Errorf("cycle %d: Act tells %v, %v", i, got, err)
		}
	}
	if got := s.Maybe(); got != on {
		t.Errorf("Maybe %b", got)
	}
}

func TestActsSeqGoesRound(t *testing.T) {
	s := start(t, config(), nil)
	for i := range 600 {
		s.Step(nil)
		if b := s.Act(); b[2] != byte(i) {
			t.Fatalf("cycle %d: seq %d", i, b[2])
		}
	}
}

func TestASourceDies(t *testing.T) {
	w, s := newWorld(config()), start(t, config(), nil)
	w.steps(s, 10)
	w.dead[api.Gen] = true
	for i, want := range []struct{ close, mode, charge int }{
		{gc | tie | el, api.Normal, 3},
		{tie | el, api.Degraded, 0}, // B times: open first
		{tie | el, api.Degraded, 0},
		{tie | el, api.Degraded, 0},
		{bc1 | tie | el, api.Degraded, 0}, // proved open since D: then close
		{bc1 | tie | el, api.Degraded, 0},
	} {
		out, _ := w.step(s)
		if out.Close != want.close || out.Mode != want.mode || out.Charge != want.charge {
			t.Errorf("%d: %+v, want %+v", i, out, want)
		}
	}
}

func TestTheGeneratorHasToTurnForward(t *testing.T) {
	for _, x := range []struct {
		change func(w *world)
		uses   bool
	}{
		{func(w *world) {}, true},
		{func(w *world) { w.values[api.ChCoil+3] = 12000 }, false},
		{func(w *world) { w.values[api.ChCoil], w.values[api.ChCoil+3] = 4000, -4000 }, false},
		{func(w *world) { w.values[api.ChCoil], w.values[api.ChCoil+3] = 5000, -5000 }, true},
		{func(w *world) { w.values[api.ChCoil+1], w.values[api.ChCoil+2] = 12000, 12000 }, true},
		{func(w *world) { w.mute[api.ChCoil] = true }, false},
		{func(w *world) { w.mute[api.ChCoil+1] = true }, false},
		{func(w *world) { w.mute[api.ChCoil+2] = true }, false},
		{func(w *world) { w.mute[api.ChCoil+3] = true }, false},
	} {
		w, s := newWorld(config()), start(t, config(), nil)
		x.change(w)
		out := w.steps(s, 15)
		if (out.Close&gc != 0) != x.uses || (out.Mode == api.Normal) != x.uses {
			t.Errorf("%v, mute %v: %+v", w.values, w.mute, out)
		}
		w.values, w.mute = map[int]int64{api.ChCoil + 3: 12000}, map[int]bool{}
		if out := w.steps(s, 1); out.Mode != api.Degraded {
			t.Errorf("backward: %+v", out) // at once
		}
	}
}

func TestSamplesStayFreshForSCycles(t *testing.T) {
	for ch := 1; ch < api.Channels; ch++ {
		w, s := newWorld(config()), start(t, config(), nil)
		w.steps(s, 10)
		w.mute[ch] = true
		needed := ch < api.ChCell1 || ch == api.ChBack
		for age := 1; age <= 6; age++ {
			out, _ := w.step(s)
			if got, want := out.Notes&api.NoteStale != 0, needed && age > 3; got != want {
				t.Errorf("channel %d, age %d: stale %v", ch, age, got)
			}
		}
	}
}

func TestFramesThatComeTwiceOrTooLate(t *testing.T) {
	w, s := newWorld(config()), start(t, config(), nil)
	w.steps(s, 6)
	old := w.frames()
	w.step(s)
	for range 8 { // the same frames, ever again
		s.Step(old)
	}
	out, _ := s.Step(old)
	if out.Notes&api.NoteStale == 0 || s.Maybe() != 127 {
		t.Errorf("%+v, Maybe %b", out, s.Maybe())
	}
	if out := w.steps(s, 1); out.Notes&api.NoteStale != 0 {
		t.Errorf("new ones: %+v", out)
	}
}

func TestFeedbackCountsOnlyInItsCycle(t *testing.T) {
	w, s := newWorld(config()), start(t, config(), nil)
	w.steps(s, 3)
	w.mute[api.ChBack] = true
	for range 5 {
		if out, _ := w.step(s); out.Close != 0 || s.Maybe() != 127 {
			t.Fatalf("%+v, Maybe %b", out, s.Maybe())
		}
	}
	w.mute[api.ChBack] = false
	if out, _ := w.step(s); out.Close == 0 || s.Maybe() != 0 {
		t.Errorf("%+v, Maybe %b", out, s.Maybe())
	}
}

func TestJams(t *testing.T) {
	w, s := newWorld(config()), start(t, config(), nil)
	w.stuck = gc // open
	w.steps(s, 4)
	for i := range 8 {
		out, writes := w.step(s)
		// since 0, 1, then wrong twice
		jammed := i >= 3
		if got := s.Locks() == 1<<api.GC; got != jammed || (out.Notes&api.NoteJam != 0) != jammed || (out.Mode == api.Degraded) != jammed {
			t.Errorf("%d: Locks %b, %+v", i, s.Locks(), out)
		}
		if written := i == 3 || i == 2; written != (len(writes) > 0) { // cycle 7, and where the lock is another
			t.Errorf("%d: %d writes", i, len(writes))
		}
		if jammed && out.Close&gc != 0 {
			t.Errorf("%d: what is jammed open is told to be closed", i)
		}
	}
	w, s = newWorld(config()), start(t, config(), nil)
	w.steps(s, 8)
	w.stuck, w.dead[api.Gen] = gc, true // closed
	w.steps(s, 8)
	if got := s.Locks(); got != 1<<(7+api.GC) {
		t.Errorf("Locks %b", got)
	}
	if out := w.steps(s, 6); out.Close&gc == 0 || out.Close&(bc1|tie) != 0 || out.Close&(bc2|er) != bc2|er {
		t.Errorf("%+v", out) // L stands at the dead source, E at the other battery
	}
}

func TestShorts(t *testing.T) {
	for bus, way := range []int{bc2 | er, gc | el, gc | tie} {
		w, s := newWorld(config()), start(t, config(), nil)
		w.steps(s, 8)
		w.values[api.ChLeak+bus] = 300001
		w.steps(s, 1)
		if s.Locks() != 0 {
			t.Errorf("bus %d: locked too soon", bus)
		}
		out, writes := w.step(s)
		if s.Locks() != 1<<(14+bus) || out.Notes&api.NoteShort == 0 || len(writes) == 0 {
			t.Errorf("bus %d: Locks %b, %+v, %d writes", bus, s.Locks(), out, len(writes))
		}
		delete(w.values, api.ChLeak+bus)
		out = w.steps(s, 12)
		if out.Close != way || s.Locks() != 1<<(14+bus) || out.Notes&api.NoteShort == 0 {
			t.Errorf("bus %d: %b, Locks %b", bus, out.Close, s.Locks())
		}
		if none := bus == 2; (out.Notes&api.NoteNone != 0) != none || (out.Mode == api.Return) != none {
			t.Errorf("bus %d: %+v", bus, out)
		}
	}
}

func TestSourcesFail(t *testing.T) {
	for source := range 4 {
		w, s := newWorld(config()), start(t, config(), nil)
		w.steps(s, 8)
		w.values[api.ChAmp+source] = -300001
		w.steps(s, 1)
		if s.Locks() != 0 {
			t.Errorf("source %d: failed too soon", source)
		}
		out, writes := w.step(s)
		if s.Locks() != 1<<(17+source) || out.Notes&api.NoteSource == 0 || len(writes) == 0 || out.Mode != api.Degraded {
			t.Errorf("source %d: Locks %b, %+v, %d writes", source, s.Locks(), out, len(writes))
		}
		delete(w.values, api.ChAmp+source)
		if out := w.steps(s, 9); s.Locks() != 1<<(17+source) || out.Close&(1<<source) != 0 {
			t.Errorf("source %d: later %b, %+v", source, s.Locks(), out)
		}
	}
}

func TestExtOnlyAsThePilotSays(t *testing.T) {
	w, s := newWorld(config()), start(t, config(), nil)
	w.dead[api.Ext] = false
	if out := w.steps(s, 12); out.Close&xc != 0 || out.Mode != api.Normal {
		t.Errorf("without the pilot: %+v", out)
	}
	w.command(t, api.PilotExt, 1, 9)
	if out := w.steps(s, 1); out.Mode != api.Ground || out.Close != tie|el {
		t.Errorf("at once: %+v", out)
	}
	if out := w.steps(s, 8); out.Close != xc|tie|el || out.Charge != 3 {
		t.Errorf("then: %+v", out)
	}
	w.command(t, api.PilotExt, 0, 9) // comes twice
	w.command(t, api.PilotExt, 0, 8) // comes too late
	if out := w.steps(s, 1); out.Mode != api.Ground {
		t.Errorf("%+v", out)
	}
	w.command(t, api.PilotExt, 0, 10)
	if out := w.steps(s, 9); out.Mode != api.Normal || out.Close&xc != 0 {
		t.Errorf("not any more: %+v", out)
	}
}

func TestThePilotsSeqIsAny(t *testing.T) {
	for _, seq := range []byte{0, 1, 127, 128, 255} {
		w, s := newWorld(config()), start(t, config(), nil)
		w.command(t, api.PilotReturn, 1, seq)
		w.steps(s, 5)
		if out := w.steps(s, 1); out.Mode != api.Return {
			t.Errorf("seq %d at first: %+v", seq, out)
		}
		w.command(t, api.PilotReturn, 0, seq+127)
		if out := w.steps(s, 1); out.Mode != api.Normal {
			t.Errorf("seq %d behind %d: %+v", seq+127, seq, out)
		}
		w.command(t, api.PilotReturn, 1, seq+127+128)
		if out := w.steps(s, 1); out.Mode != api.Normal {
			t.Errorf("seq %d behind %d: %+v", seq+255, seq+127, out)
		}
	}
}

func TestCommandsInTheirOrder(t *testing.T) {
	w, s := newWorld(config()), start(t, config(), nil)
	w.steps(s, 9)
	w.command(t, api.PilotReturn, 1, 5)
	w.command(t, api.PilotReturn, 0, 6)
	w.command(t, api.PilotReturn, 1, 5)
	if out := w.steps(s, 1); out.Mode != api.Normal {
		t.Errorf("%+v", out)
	}
}

func TestLandIsNeverTakenBack(t *testing.T) {
	w, s := newWorld(config()), start(t, config(), nil)
	w.steps(s, 9)
	w.command(t, api.PilotLand, 0, 1)
	out, writes := w.step(s)
	if out.Mode != api.Land || len(writes) == 0 {
		t.Errorf("%+v, %d writes", out, len(writes))
	}
	nv := journal.Apply(make([]byte, api.NV), writes, len(writes))
	if r, err := journal.Recover(nv); r.Mode != api.Land || err != nil {
		t.Errorf("%v, %v", r, err)
	}
	for i := 11; i < 30; i++ {
		out, writes := w.step(s)
		if out.Mode != api.Land || (len(writes) > 0) != (i%7 == 0) {
			t.Errorf("cycle %d: %+v, %d writes", i, out, len(writes))
		}
	}
}

func TestTheReserveIsAskedBehindTheBoot(t *testing.T) {
	for q, mode := range map[int64]int{140000: api.Land, 160000: api.Return, 290000: api.Return, 320000: api.Normal} {
		w, s := newWorld(config()), start(t, config(), nil)
		w.q = [2]int64{q, q}
		for i := range 8 {
			out, _ := w.step(s)
			want := api.Normal
			switch {
			case i == 0:
				want = api.Return // no way yet
			case i >= 5: // B + S cycles were done
				want = mode
			}
			if out.Mode != want {
				t.Errorf("%d, cycle %d: %+v, want mode %d", q, i, out, want)
			}
			if low := i == 0 || q < 300000; (out.Notes&api.NoteLow != 0) != low {
				t.Errorf("%d, cycle %d: notes %b", q, i, out.Notes)
			}
		}
	}
}

func TestABatteryThatIsEmptyIsNotLive(t *testing.T) {
	w, s := newWorld(config()), start(t, config(), nil)
	w.dead[api.Gen] = true
	w.q = [2]int64{40000, 700000}
	if out := w.steps(s, 12); out.Close&bc1 != 0 || out.Close&bc2 == 0 {
		t.Errorf("%+v", out)
	}
	w, s = newWorld(config()), start(t, config(), nil)
	w.dead[api.Gen] = true
	w.q = [2]int64{40000, 40000}
	if out := w.steps(s, 12); out.Close != 0 || out.Notes&api.NoteNone == 0 {
		t.Errorf("%+v", out)
	}
}

func TestTheEdgesOfQminAndLow(t *testing.T) {
	c := config()
	c.AmpErr = 0
	for q, live := range map[int64]bool{32000: false, 32001: true} { // 18000 wider: up to Qmin, or above
		at := api.Span{Lo: q, Hi: q}
		s := start(t, c, kept(t, api.Record{Mode: api.Normal, Q1: at, Q2: at}))
		w := newWorld(c)
		w.q = [2]int64{40000, 40000}
		w.dead[api.Gen] = true
		if out := w.steps(s, 12); (out.Close != 0) != live || (out.Notes&api.NoteNone != 0) == live {
			t.Errorf("%d: %+v, %v", q, out, s.Charge(0))
		}
	}
	for q, low := range map[int64]bool{318000: false, 317999: true} { // 18000 wider: down to 2 (Eland + Margin), or below
		at := api.Span{Lo: q, Hi: q}
		s := start(t, c, kept(t, api.Record{Mode: api.Normal, Q1: at, Q2: at}))
		w := newWorld(c)
		w.q = [2]int64{320000, 320000}
		if out := w.steps(s, 12); (out.Notes&api.NoteLow != 0) != low || (out.Mode == api.Return) != low {
			t.Errorf("%d: %+v, %v", q, out, s.Charge(0))
		}
	}
}

func TestASickBattery(t *testing.T) {
	for _, ch := range []int{api.ChCell1 + 2, api.ChCell2 + 3, api.ChTemp, api.ChTemp + 1} {
		w, s := newWorld(config()), start(t, config(), nil)
		w.values[ch] = 1200 // a cell is too low, or a battery too hot
		out := w.steps(s, 12)
		charge := 1
		if ch == api.ChCell1+2 || ch == api.ChTemp {
			charge = 2
		}
		if out.Mode != api.Degraded || out.Charge != charge {
			t.Errorf("channel %d: %+v", ch, out)
		}
	}
}

func TestTripsAreKeptUntilTheyAreForgotten(t *testing.T) {
	w, s := newWorld(config()), start(t, config(), nil)
	w.steps(s, 8)
	w.values[api.ChTrip] = 1
	if out := w.steps(s, 1); out.Feed != 6 {
		t.Errorf("tripped: %b", out.Feed)
	}
	w.values[api.ChTrip] = 0
	if out := w.steps(s, 9); out.Feed != 0b1110 { // the last one has room then
		t.Errorf("kept: %b", out.Feed)
	}
	w.mute[api.ChTrip] = true
	w.steps(s, 9)
	w.command(t, api.PilotClear, 0, 1)
	if out := w.steps(s, 2); out.Feed != 0b0110 {
		t.Errorf("forgotten, but not on yet: %b", out.Feed)
	}
	if out := w.steps(s, 1); out.Feed != 0b0111 {
		t.Errorf("on again: %b", out.Feed)
	}
	w.mute[api.ChTrip], w.values[api.ChTrip] = false, 1
	w.steps(s, 1)
	w.command(t, api.PilotClear, 0, 2)
	if out := w.steps(s, 9); out.Feed&1 != 0 {
		t.Errorf("it trips again: %b", out.Feed)
	}
}

func TestThePilotSheds(t *testing.T) {
	w, s := newWorld(config()), start(t, config(), nil)
	w.steps(s, 9)
	w.command(t, api.PilotShed, 1, 1)
	if out := w.steps(s, 1); out.Feed != 1 || out.Notes&api.NoteShed == 0 {
		t.Errorf("%+v", out)
	}
	w.command(t, api.PilotShed, 0, 2)
	if out := w.steps(s, 3); out.Feed != 7 {
		t.Errorf("%+v", out)
	}
	c := config()
	c.GenMax = 2000
	w, s = newWorld(c), start(t, c, nil)
	if out := w.steps(s, 9); out.Feed != 15 || out.Notes&api.NoteShed != 0 {
		t.Errorf("room for all: %+v", out)
	}
}

func TestDark(t *testing.T) {
	w, s := newWorld(config()), start(t, config(), nil)
	w.steps(s, 9)
	for v, dark := range map[int64]bool{17999: true, 18000: false, 0: true, 25000: false} {
		w.values[api.ChBus+2] = v
		if out := w.steps(s, 1); (out.Notes&api.NoteDark != 0) != dark {
			t.Errorf("%d: %+v", v, out)
		}
	}
	w.values[api.ChBus+2] = 0
	w.steps(s, 1)
	w.mute[api.ChBus+2] = true
	if out := w.steps(s, 3); out.Notes&api.NoteDark == 0 {
		t.Errorf("still fresh: %+v", out)
	}
	if out := w.steps(s, 1); out.Notes&api.NoteDark != 0 || out.Notes&api.NoteStale == 0 {
		t.Errorf("stale: %+v", out)
	}
	w.values[api.ChBus], w.values[api.ChBus+1] = 0, 0
	if out := w.steps(s, 1); out.Notes&api.NoteDark != 0 {
		t.Errorf("other buses: %+v", out)
	}
}

func TestChargesCountOnlyWhatCameInTheCycle(t *testing.T) {
	full := api.Span{Lo: 800000, Hi: 800000}
	for i, x := range []struct {
		mute []int
		q    api.Span
	}{
		// 800000 plus or minus 18000, then less 1000 plus or minus 10, or plus or minus Imax
		{nil, api.Span{Lo: 780990, Hi: 817010}},
		{[]int{api.ChAmp + 1}, api.Span{Lo: 780990, Hi: 817010}},
		{[]int{api.ChSecond}, api.Span{Lo: 780990, Hi: 817010}},
		{[]int{api.ChAmp + 1, api.ChSecond}, api.Span{Lo: 780000, Hi: 820000}},
	} {
		s := start(t, config(), kept(t, api.Record{Mode: api.Normal, Q1: full, Q2: full}))
		w := newWorld(config())
		w.amps[0] = 1000
		for _, ch := range x.mute {
			w.mute[ch] = true
		}
		w.mute[api.ChVolt+1] = true
		w.step(s)
		if got := s.Charge(0); got != x.q {
			t.Errorf("%d: %v, want %v", i, got, x.q)
		}
	}
	s := start(t, config(), nil)
	w := newWorld(config())
	w.step(s)
	known := s.Charge(1)
	for i := range int64(3) { // the amps stay fresh, but what came once isn't counted twice
		w.mute[api.ChAmp+2], w.mute[api.ChSecond+1], w.mute[api.ChVolt+2] = true, true, true
		w.step(s)
		if got, want := s.Charge(1), (api.Span{Lo: known.Lo - 2000*(i+1), Hi: known.Hi + 2000*(i+1)}); got != want {
			t.Errorf("%d: %v, want %v", i, got, want)
		}
	}
}

func TestTheJournal(t *testing.T) {
	for p := 1; p <= 5; p++ {
		c := config()
		c.P = p
		w, s := newWorld(c), start(t, c, nil)
		nv := make([]byte, api.NV)
		seq := uint32(0)
		for cycle := 1; cycle <= 25; cycle++ {
			out, writes := w.step(s)
			if (len(writes) > 0) != (cycle%p == 0) {
				t.Fatalf("P %d, cycle %d: %d writes", p, cycle, len(writes))
			}
			if len(writes) == 0 {
				continue
			}
			seq++
			nv = journal.Apply(nv, writes, len(writes))
			want := api.Record{Seq: seq, Mode: out.Mode, Q1: s.Charge(0), Q2: s.Charge(1)}
			if r, err := journal.Recover(nv); r != want || err != nil {
				t.Errorf("P %d, cycle %d: %v, %v, want %v", p, cycle, r, err, want)
			}
		}
	}
}

func TestTheJournalGoesOnBehindARecord(t *testing.T) {
	nv := kept(t, api.Record{Mode: api.Land, Locks: 1 << 16})
	w, s := newWorld(config()), start(t, config(), nv)
	for cycle := 1; cycle <= 6; cycle++ {
		if _, writes := w.step(s); len(writes) > 0 { // neither LAND nor the locks are new
			t.Errorf("cycle %d: %d writes", cycle, len(writes))
		}
	}
	_, writes := w.step(s)
	nv = journal.Apply(nv, writes, len(writes))
	if r, err := journal.Recover(nv); r.Seq != 2 || r.Mode != api.Land || r.Locks != 1<<16 || err != nil {
		t.Errorf("%v, %v", r, err)
	}
}

func TestNothingIsShared(t *testing.T) {
	c, nv := config(), make([]byte, api.NV)
	s := start(t, c, nv)
	same := start(t, config(), nil)
	for i := range nv {
		nv[i] = 0xa5
	}
	c.Ocv[1], c.Feeders[0] = api.Point{}, api.Feeder{}
	w := newWorld(config())
	for cycle := range 20 {
		w.follows()
		in := w.frames()
		bytesIn := append(slices.Clone(in), 7, 7, 7)
		out, writes := s.Step(bytesIn[:len(in)])
		if !bytes.Equal(bytesIn, append(slices.Clone(in), 7, 7, 7)) {
			t.Fatal("what was handed in was changed")
		}
		clear(bytesIn)
		wantOut, wantWrites := same.Step(in)
		w.told = append(w.told, out.Close)
		if out != wantOut || !slices.Equal(writes, wantWrites) || s.Charge(0) != same.Charge(0) {
			t.Fatalf("cycle %d: %+v, want %+v", cycle, out, wantOut)
		}
		clear(writes)
		clear(s.Act())
		if !bytes.Equal(s.Act(), same.Act()) {
			t.Fatal("Act hands out what it keeps")
		}
	}
}
