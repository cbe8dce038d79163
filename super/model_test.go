package super_test

import (
	"bytes"
	"math/rand"
	"slices"
	"testing"

	"dynamo/act"
	"dynamo/api"
	"dynamo/cell"
	"dynamo/charge"
	"dynamo/choose"
	"dynamo/contact"
	"dynamo/frame"
	"dynamo/fresh"
	"dynamo/graph"
	"dynamo/health"
	"dynamo/journal"
	"dynamo/locate"
	"dynamo/mode"
	"dynamo/phasor"
	"dynamo/pilot"
	"dynamo/sensor"
	"dynamo/sequence"
	"dynamo/shed"
)

// model goes through the chapter's ten points one after the other, in one piece.
type model struct {
	c       api.Config
	nv      []byte
	bank    *fresh.Bank
	pilot   pilot.State
	last    int // the last command's seq; -1: none
	trips   [16]bool
	k       [7]*contact.Contact
	buses   *locate.Buses
	h       [4]*health.Source
	b       [2]*charge.Battery
	keeper  *shed.Keeper
	told    int
	mode    int
	def     bool
	written uint32
	done    int
	out     api.Out
}

func newModel(c api.Config, nv []byte) *model {
	m := &model{c: c, nv: bytes.Clone(nv), bank: fresh.New(c.S), last: -1, buses: locate.New(c), keeper: shed.New(c), mode: api.Normal}
	r, err := journal.Recover(nv)
	m.def = err != nil
	if !m.def {
		m.mode, m.written = r.Mode, r.Locks
	}
	for i := range m.k {
		m.k[i] = contact.New(c.D, c.B)
		m.k[i].Set(r.Locks&(1<<i) != 0, r.Locks&(1<<(7+i)) != 0)
	}
	for i := range 3 {
		if r.Locks&(1<<(14+i)) != 0 {
			m.buses.Lock([3]int{api.L, api.R, api.E}[i])
		}
	}
	for i := range m.h {
		m.h[i] = health.New(c)
		if r.Locks&(1<<(17+i)) != 0 {
			m.h[i].Fail()
		}
	}
	by := int64(c.P+c.B) * c.Imax
	m.b[0] = charge.New(c, api.Span{Lo: r.Q1.Lo - by, Hi: r.Q1.Hi + by}, !m.def)
	m.b[1] = charge.New(c, api.Span{Lo: r.Q2.Lo - by, Hi: r.Q2.Hi + by}, !m.def)
	return m
}

func (m *model) locks() uint32 {
	var l uint32
	for i := range 7 {
		open, closed := m.k[i].Jam()
		if open {
			l |= 1 << i
		}
		if closed {
			l |= 1 << (7 + i)
		}
	}
	for i, b := range m.buses.Locked() {
		if b {
			l |= 1 << (14 + i)
		}
	}
	for i, h := range m.h {
		if h.Failed() {
			l |= 1 << (17 + i)
		}
	}
	return l
}

func (m *model) maybe() int {
	l := 0
	for i := range 7 {
		if !m.k[i].Open() {
			l |= 1 << i
		}
	}
	return l
}

func (m *model) get(ch int) api.Sample {
	v, ok := m.bank.Get(ch)
	return api.Sample{V: v, Fresh: ok}
}

func (m *model) came(ch int) api.Sample {
	v, _ := m.bank.Get(ch)
	return api.Sample{V: v, Fresh: m.bank.Age(ch) == 0}
}

func (m *model) step(in []byte) (api.Out, []journal.Write) {
	c := m.c
	// 1
	m.bank.Tick()
	l, _ := frame.Split(in)
	for _, f := range l {
		ch, v, err := sensor.Read(f)
		if err == nil {
			m.bank.Put(ch, f.Seq, v)
		}
		cmd, arg, err := pilot.Read(f)
		if err == nil && (m.last < 0 || fresh.Newer(f.Seq, byte(m.last))) {
			m.last = int(f.Seq)
			m.pilot.Apply(cmd, arg)
			if cmd == 5 {
				m.trips = [16]bool{}
			}
		}
	}
	// 2
	for i := range 7 {
		back := m.came(29)
		m.k[i].Step(m.told&(1<<i) != 0, api.Sample{V: back.V / (1 << i) % 2, Fresh: back.Fresh})
	}
	// 3
	short := m.buses.Step([3]api.Sample{m.get(12), m.get(13), m.get(14)})
	// 4
	for i := range 16 {
		if t := m.get(30 + i); t.Fresh && t.V == 1 {
			m.trips[i] = true
		}
	}
	f1 := cell.Flags(c, [4]api.Sample{m.get(15), m.get(16), m.get(17), m.get(18)}, m.get(23))
	f2 := cell.Flags(c, [4]api.Sample{m.get(19), m.get(20), m.get(21), m.get(22)}, m.get(24))
	a, b, d, e := m.get(25), m.get(26), m.get(27), m.get(28)
	turns := a.Fresh && b.Fresh && d.Fresh && e.Fresh && phasor.Good(phasor.Coil(a.V, b.V), phasor.Coil(d.V, e.V), c.Coil)
	gen := m.h[0].Step(health.In{Volt: m.get(1), Amp: m.get(5), May: turns})
	b1 := m.h[1].Step(health.In{Volt: m.get(2), Amp: m.get(6), Flags: f1, May: true})
	b2 := m.h[2].Step(health.In{Volt: m.get(3), Amp: m.get(7), Flags: f2, May: true})
	ext := m.h[3].Step(health.In{Volt: m.get(4), Amp: m.get(8), May: m.pilot.Ext})
	// 5
	q1 := m.b[0].Step(m.came(2), m.came(6), m.came(46))
	q2 := m.b[1].Step(m.came(3), m.came(7), m.came(47))
	// 6
	facts := api.Facts{Live: [4]bool{gen, b1 && q1.Hi > c.Qmin, b2 && q2.Hi > c.Qmin, ext}, Rank: [4]int{4, 3, 3, 5}, Short: short, Now: m.told}
	for i := range 7 {
		open, closed := m.k[i].Jam()
		if !open {
			facts.Can += 1 << i
		}
		if closed {
			facts.Must += 1 << i
		}
	}
	best, found := choose.Best(facts)
	m.told = sequence.Next(best, m.told, m.maybe())
	by := graph.Feeds(best, api.E)
	way := found && by >= 0 && facts.Live[by]
	// 7
	trips := 0
	for i, t := range m.trips {
		if t {
			trips |= 1 << i
		}
	}
	on := m.keeper.Step(shed.Want(c, m.told, trips, m.pilot.Shed))
	chargers := shed.Chargers(c, m.told, [2]bool{b1, b2}, [2]int{f1, f2}, [2]api.Span{q1, q2})
	// 8
	was := m.mode
	reserve := mode.Reserve([2]bool{b1, b2}, [2]api.Span{q1, q2})
	m.mode = mode.Next(c, m.mode, mode.In{Pilot: m.pilot, Usable: [4]bool{gen, b1, b2, ext}, Locks: m.locks() != 0, Way: way, Boot: m.done < c.B+c.S, Reserve: reserve})
	// 9
	notes := 0
	for _, ch := range []int{1, 2, 3, 4, 5, 6, 7, 8, 9, 10, 11, 12, 13, 14, 29} {
		if !m.get(ch).Fresh {
			notes |= 1
		}
	}
	for i := range 7 {
		if open, closed := m.k[i].Jam(); open || closed {
			notes |= 2
		}
	}
	if short != [3]bool{} {
		notes |= 4
	}
	for _, h := range m.h {
		if h.Failed() {
			notes |= 8
		}
	}
	if v := m.get(11); v.Fresh && v.V < c.Vdark {
		notes |= 16
	}
	if reserve < 2*(c.Eland+c.Margin) {
		notes |= 32
	}
	if !way {
		notes |= 64
	}
	for i := range c.Feeders {
		if on&(1<<i) == 0 {
			notes |= 128
		}
	}
	if m.def {
		notes |= 256
	}
	// 10
	m.done++
	m.out = api.Out{Close: m.told, Feed: on, Charge: chargers, Mode: m.mode, Notes: notes}
	if m.mode == api.Land && was != api.Land || m.locks() != m.written || m.done%c.P == 0 {
		writes, err := journal.Writes(m.nv, api.Record{Mode: m.mode, Locks: m.locks(), Q1: q1, Q2: q2})
		if err != nil {
			panic(err)
		}
		m.nv, m.written = journal.Apply(m.nv, writes, len(writes)), m.locks()
		return m.out, writes
	}
	return m.out, nil
}

// disturb changes what comes, for some cycles or for good.
func disturb(t *testing.T, r *rand.Rand, w *world, seq *byte) {
	switch r.Intn(12) {
	case 0:
		harm(r, w)
	case 1:
		ch := 1 + r.Intn(api.Channels-1)
		span, _ := sensor.Range(ch)
		w.values[ch] = span.Lo + r.Int63n(span.Hi-span.Lo+1)
	case 2, 3, 4:
		clear(w.values)
		clear(w.mute)
	case 5:
		w.mute[1+r.Intn(api.Channels-1)] = true
	case 6:
		*seq += byte(r.Intn(3)) * 100 // now and then one that comes too late
		w.command(t, []int{1, 1, 2, 4, 5, 5}[r.Intn(6)], r.Intn(2), *seq)
	case 7:
		w.values[api.ChTrip+r.Intn(6)] = 1
	case 8:
		w.dead[api.Ext] = !w.dead[api.Ext]
	case 9:
		for i := range w.amps {
			w.amps[i] = r.Int63n(4*w.c.Imax) - 2*w.c.Imax
		}
	case 10:
		w.q[r.Intn(2)] = r.Int63n(w.c.Cap + 1)
	case 11:
		w.extra = append(w.extra, 0x7e, byte(r.Intn(100)), 5, 4, 0, 0, 0)
	}
}

func TestTheCycleIsAsTheChapterSays(t *testing.T) {
	seen := map[[2]int]int{} // how often each bit of a note, and each mode, was told
	for round := range 250 {
		r := rand.New(rand.NewSource(int64(round)))
		c := config()
		c.D, c.B, c.S, c.P, c.H = 1+r.Intn(3), 1+r.Intn(3), 1+r.Intn(3), 1+r.Intn(9), 1+r.Intn(4)
		w, nv, seq := newWorld(c), make([]byte, api.NV), byte(r.Intn(256))
		s, m := start(t, c, nv), newModel(c, nv)
		for cycle := range 120 {
			if r.Intn(4) == 0 {
				disturb(t, r, w, &seq)
			}
			if r.Intn(200) == 0 {
				seq++
				w.command(t, api.PilotLand, 0, seq)
			}
			w.follows()
			for i := range w.q {
				w.q[i] = min(max(w.q[i]-w.amps[i], 0), c.Cap)
			}
			in := w.frames()
			out, writes := s.Step(in)
			wantOut, wantWrites := m.step(in)
			w.told = append(w.told, out.Close)
			if out != wantOut || !slices.Equal(writes, wantWrites) {
				t.Fatalf("round %d, cycle %d: %v, %d writes, want %v, %d", round, cycle, out, len(writes), wantOut, len(wantWrites))
			}
			if s.Told() != m.told || s.Maybe() != m.maybe() || s.Locks() != m.locks() || s.Cycles() != m.done || s.Charge(0) != m.b[0].Q() || s.Charge(1) != m.b[1].Q() {
				t.Fatalf("round %d, cycle %d: Told %b, Maybe %b, Locks %b", round, cycle, s.Told(), s.Maybe(), s.Locks())
			}
			f, _ := act.Put(wantOut, byte(m.done-1))
			if b, _ := frame.Bytes(f); !bytes.Equal(s.Act(), b) {
				t.Fatalf("round %d, cycle %d: Act % x, want % x", round, cycle, s.Act(), b)
			}
			for bit := range 9 {
				seen[[2]int{bit, out.Notes >> bit & 1}]++
			}
			seen[[2]int{100, out.Mode}]++
			nv = journal.Apply(nv, writes, len(writes))
			if r.Intn(60) == 0 { // a reset
				s, m = start(t, c, nv), newModel(c, nv)
			}
		}
	}
	for bit := range 9 {
		if seen[[2]int{bit, 0}] < 100 || seen[[2]int{bit, 1}] < 100 {
			t.Errorf("note %d: %d times, not %d times", 1<<bit, seen[[2]int{bit, 1}], seen[[2]int{bit, 0}])
		}
	}
	for m := api.Normal; m <= api.Ground; m++ {
		if seen[[2]int{100, m}] < 100 {
			t.Errorf("mode %d: %d times", m, seen[[2]int{100, m}])
		}
	}
}
