package super_test

import (
	"testing"

	"dynamo/api"
	"dynamo/frame"
	"dynamo/graph"
	"dynamo/journal"
	"dynamo/pilot"
	"dynamo/sensor"
	"dynamo/super"
	"dynamo/table"
)

const (
	gc = 1 << iota
	bc1
	bc2
	xc
	tie
	el
	er
)

func config() api.Config {
	return api.Config{
		D: 2, B: 2, S: 3, P: 7, H: 3,
		Cap: 1000000, Qmin: 50000, Imax: 2000, Trip: 300000, Vmin: 20000, Vdark: 18000,
		CellMin: 3000, CellMax: 4200, CellGap: 300, TempMax: 600, Coil: 10000,
		Ohm: 10, SagErr: 20, AmpErr: 10, Drift: 50,
		Ocv:    []api.Point{{X: 0, Y: 20000}, {X: 400000, Y: 24000}, {X: 1000000, Y: 26000}},
		GenMax: 1000, BatMax: 500, ExtMax: 2000, Eland: 100000, Margin: 50000,
		Feeders: []api.Feeder{{Bus: api.E, Load: 200}, {Bus: api.L, Load: 300, Prio: 1}, {Bus: api.R, Load: 300, Prio: 2}, {Bus: api.L, Load: 300, Prio: 3}},
	}
}

// world is an aircraft as it is; a change of it stays until it is taken back.
type world struct {
	c     api.Config
	cycle int
	seqs  [api.Channels]byte

	dead   [4]bool  // sources without volts
	short  [3]bool  // buses
	stuck  int      // contactors that stay as they are
	closed int      // contactors, as they are
	told   []int    // what was put out, by cycle
	delays [7]int   // in how many cycles each contactor follows, 1 to D
	q      [2]int64 // the batteries' charges, as they are
	amps   [2]int64 // out of them

	values map[int]int64 // of channels that show another value
	mute   map[int]bool  // channels that don't come
	extra  []byte        // what comes beside
	noise  func(ch int) int64
}

func newWorld(c api.Config) *world {
	return &world{
		c: c, q: [2]int64{800000, 700000}, dead: [4]bool{api.Ext: true},
		delays: [7]int{1, 1, 1, 1, 1, 1, 1}, values: map[int]int64{}, mute: map[int]bool{},
		noise: func(int) int64 { return 0 },
	}
}

// shows is what a channel shows.
func (w *world) shows(ch int) int64 {
	if v, ok := w.values[ch]; ok {
		return v
	}
	bus := func(node int) int64 {
		if by := graph.Feeds(w.closed, node); by >= 0 && !w.dead[by] && !w.short[node-api.L] {
			return 25000
		}
		return 0
	}
	switch {
	case ch >= api.ChVolt && ch < api.ChAmp:
		source := ch - api.ChVolt
		if w.dead[source] {
			return 0
		}
		if source == api.B1 || source == api.B2 {
			i := source - api.B1
			return table.At(w.c.Ocv, w.q[i]).Lo - w.amps[i]*w.c.Ohm/1000
		}
		return 28000
	case ch == api.ChAmp+api.B1, ch == api.ChAmp+api.B2:
		return w.amps[ch-api.ChAmp-api.B1] + w.noise(ch)
	case ch >= api.ChSecond:
		return w.amps[ch-api.ChSecond] + w.noise(ch)
	case ch >= api.ChBus && ch < api.ChLeak:
		return bus(api.L + ch - api.ChBus)
	case ch >= api.ChLeak && ch < api.ChCell1:
		if w.short[ch-api.ChLeak] {
			return 400000
		}
		return 0
	case ch >= api.ChCell1 && ch < api.ChTemp:
		return 3800
	case ch == api.ChCoil:
		return 12000
	case ch == api.ChCoil+3:
		return -12000
	case ch == api.ChBack:
		return int64(w.closed)
	}
	return 0
}

// follows moves the contactors on to what they were told so many cycles ago.
func (w *world) follows() {
	for i := range 7 {
		if w.stuck>>i&1 == 1 || len(w.told) == 0 {
			continue
		}
		at := len(w.told) - w.delays[i]
		if at < 0 {
			continue
		}
		w.closed = w.closed&^(1<<i) | w.told[at]&(1<<i)
	}
}

// frames is all that comes in a cycle.
func (w *world) frames() []byte {
	var in []byte
	for ch := 1; ch < api.Channels; ch++ {
		w.seqs[ch]++
		if w.mute[ch] {
			continue
		}
		f, err := sensor.Put(ch, w.seqs[ch], w.shows(ch))
		if err != nil {
			panic(err)
		}
		b, _ := frame.Bytes(f)
		in = append(in, b...)
	}
	in = append(in, w.extra...)
	w.extra = nil
	return in
}

// command is a pilot's, that comes in the next cycle.
func (w *world) command(t *testing.T, cmd, arg int, seq byte) {
	t.Helper()
	f, err := pilot.Put(cmd, arg, seq)
	if err != nil {
		t.Fatal(err)
	}
	b, _ := frame.Bytes(f)
	w.extra = append(w.extra, b...)
}

// step is a cycle of the supervisor in the world.
func (w *world) step(s *super.Super) (api.Out, []journal.Write) {
	w.follows()
	for i := range w.q {
		w.q[i] = min(max(w.q[i]-w.amps[i], 0), w.c.Cap)
	}
	out, writes := s.Step(w.frames())
	w.told = append(w.told, out.Close)
	w.cycle++
	return out, writes
}

// steps are n cycles; the last one's answer.
func (w *world) steps(s *super.Super, n int) api.Out {
	var out api.Out
	for range n {
		out, _ = w.step(s)
	}
	return out
}

func start(t *testing.T, c api.Config, nv []byte) *super.Super {
	t.Helper()
	if nv == nil {
		nv = make([]byte, api.NV)
	}
	s, err := super.New(c, nv)
	if err != nil {
		t.Fatal(err)
	}
	return s
}

// kept is a memory with a record.
func kept(t *testing.T, r api.Record) []byte {
	t.Helper()
	nv := make([]byte, api.NV)
	l, err := journal.Writes(nv, r)
	if err != nil {
		t.Fatal(err)
	}
	return journal.Apply(nv, l, len(l))
}

// way tells whether E can be fed by a source that isn't dead, as the world is.
func (w *world) way() bool {
	for mask := range 128 {
		if (mask^w.closed)&w.stuck != 0 || graph.Joined(mask) {
			continue
		}
		ok := true
		for bus := range 3 {
			if w.short[bus] && graph.Feeds(mask, api.L+bus) >= 0 {
				ok = false
			}
		}
		by := graph.Feeds(mask, api.E)
		if ok && by >= 0 && !w.dead[by] {
			return true
		}
	}
	return false
}

// fed tells whether E has volts.
func (w *world) fed() bool {
	return w.shows(api.ChBus+2) > 0
}
