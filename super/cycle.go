package super

import (
	"dynamo/api"
	"dynamo/cell"
	"dynamo/choose"
	"dynamo/config"
	"dynamo/fixed"
	"dynamo/frame"
	"dynamo/fresh"
	"dynamo/graph"
	"dynamo/health"
	"dynamo/journal"
	"dynamo/mode"
	"dynamo/phasor"
	"dynamo/pilot"
	"dynamo/sensor"
	"dynamo/sequence"
	"dynamo/shed"
)

// power is what a cycle knows of the sources.
type power struct {
	usable  [sources]bool
	flags   [2]int
	q       [2]api.Span
	reserve int64
	way     bool // there is a way to feed E
}

// batteries of all that are usable.
func (p power) batteries() [2]bool {
	return [2]bool{p.usable[api.B1], p.usable[api.B2]}
}

// Step is a cycle: what has come in, what is put out, and what has to be written ahead of that.
func (s *Super) Step(in []byte) (api.Out, []journal.Write) {
	s.hear(in)
	s.follow()
	s.buses.Step([3]api.Sample{s.last(api.ChLeak), s.last(api.ChLeak + 1), s.last(api.ChLeak + 2)})
	s.keepTrips()
	p := s.weigh()
	p.way = s.tell(p)
	want := shed.Want(s.config, s.told, s.trips, s.pilot.Shed)
	before := s.mode
	s.mode = s.nextMode(p)
	s.out = api.Out{
		Close:  s.told,
		Feed:   s.keeper.Step(want),
		Charge: shed.Chargers(s.config, s.told, p.batteries(), p.flags, p.q),
		Mode:   s.mode,
	}
	s.out.Notes = s.notes(p)
	s.cycles++
	return s.out, s.write(before)
}

// hear takes the frames that came.
func (s *Super) hear(in []byte) {
	s.bank.Tick()
	frames, _ := frame.Split(in)
	for _, f := range frames {
		if ch, v, err := sensor.Read(f); err == nil {
			s.bank.Put(ch, f.Seq, v)
		}
		if cmd, arg, err := pilot.Read(f); err == nil {
			s.obey(cmd, arg, f.Seq)
		}
	}
}

// obey does a pilot's command, if it didn't come twice, or too late.
func (s *Super) obey(cmd, arg int, seq byte) {
	if s.heard && !fresh.Newer(seq, s.seq) {
		return
	}
	s.heard, s.seq = true, seq
	s.pilot.Apply(cmd, arg)
	if cmd == api.PilotClear {
		s.trips = 0
	}
}

// last is a channel's last sample.
func (s *Super) last(ch int) api.Sample {
	v, ok := s.bank.Get(ch)
	return api.Sample{V: v, Fresh: ok}
}

// now is a channel's sample, fresh only if it came in this cycle.
func (s *Super) now(ch int) api.Sample {
	v, _ := s.bank.Get(ch)
	return api.Sample{V: v, Fresh: s.bank.Age(ch) == 0}
}

// follow looks whether the contactors do what they are told.
func (s *Super) follow() {
	back := s.now(api.ChBack)
	for i, k := range s.contacts {
		k.Step(s.told>>i&1 == 1, api.Sample{V: back.V >> i & 1, Fresh: back.Fresh})
	}
}

func (s *Super) keepTrips() {
	for i := range api.MaxFeeds {
		if trip := s.last(api.ChTrip + i); trip.Fresh && trip.V == 1 {
			s.trips |= 1 << i
		}
	}
}

// weigh looks which sources are usable, and what the batteries hold.
func (s *Super) weigh() power {
	var p power
	for i, first := range [2]int{api.ChCell1, api.ChCell2} {
		cells := [4]api.Sample{s.last(first), s.last(first + 1), s.last(first + 2), s.last(first + 3)}
		p.flags[i] = cell.Flags(s.config, cells, s.last(api.ChTemp+i))
	}
	flags := [sources]int{api.B1: p.flags[0], api.B2: p.flags[1]}
	may := [sources]bool{api.Gen: s.turns(), api.B1: true, api.B2: true, api.Ext: s.pilot.Ext}
	for i, source := range s.sources {
		p.usable[i] = source.Step(health.In{
			Volt:  s.last(api.ChVolt + i),
			Amp:   s.last(api.ChAmp + i),
			Flags: flags[i],
			May:   may[i],
		})
	}
	for i, b := range s.batteries {
		node := api.B1 + i
		p.q[i] = b.Step(s.now(api.ChVolt+node), s.now(api.ChAmp+node), s.now(api.ChSecond+i))
	}
	p.reserve = mode.Reserve(p.batteries(), p.q)
	return p
}

// turns tells whether the generator's coils are seen to turn forward.
func (s *Super) turns() bool {
	var coils [2]complex128
	for i := range coils {
		re, im := s.last(api.ChCoil+2*i), s.last(api.ChCoil+2*i+1)
		if !re.Fresh || !im.Fresh {
			return false
		}
		coils[i] = phasor.Coil(re.V, im.V)
	}
	return phasor.Good(coils[0], coils[1], s.config.Coil)
}

// tell chooses the contactors, goes a step towards them, and answers whether E is fed by that choice.
func (s *Super) tell(p power) bool {
	f := s.facts(p)
	best, found := choose.Best(f)
	s.told = sequence.Next(best, s.told, s.Maybe())
	source := graph.Feeds(best, api.E)
	return found && source >= 0 && f.Live[source]
}

func (s *Super) facts(p power) api.Facts {
	f := api.Facts{
		Live:  p.usable,
		Rank:  [sources]int{api.Gen: 4, api.B1: 3, api.B2: 3, api.Ext: 5},
		Short: s.buses.Locked(),
		Now:   s.told,
	}
	for i, q := range p.q {
		f.Live[api.B1+i] = f.Live[api.B1+i] && q.Hi > s.config.Qmin
	}
	for i, k := range s.contacts {
		open, closed := k.Jam()
		if !open {
			f.Can |= 1 << i
		}
		if closed {
			f.Must |= 1 << i
		}
	}
	return f
}

func (s *Super) nextMode(p power) int {
	return mode.Next(s.config, s.mode, mode.In{
		Pilot:   s.pilot,
		Usable:  p.usable,
		Locks:   s.Locks() != 0,
		Way:     p.way,
		Boot:    s.cycles < config.Boot(s.config),
		Reserve: p.reserve,
	})
}

// notes has the bits of what is announced; what is fed stands in s.out already.
func (s *Super) notes(p power) int {
	locks := s.Locks()
	dark := s.last(api.ChBus + api.E - api.L)
	low := fixed.Mul(2, fixed.Add(s.config.Eland, s.config.Margin))
	notes := 0
	for _, n := range [...]struct {
		bit int
		is  bool
	}{
		{api.NoteStale, s.stale()},
		{api.NoteJam, locks&(1<<lockBus-1) != 0},
		{api.NoteShort, locks>>lockBus&7 != 0},
		{api.NoteSource, locks>>lockSource != 0},
		{api.NoteDark, dark.Fresh && dark.V < s.config.Vdark},
		{api.NoteLow, p.reserve < low},
		{api.NoteNone, !p.way},
		{api.NoteShed, s.out.Feed != 1<<len(s.config.Feeders)-1},
		{api.NoteDefault, s.blank},
	} {
		if n.is {
			notes |= n.bit
		}
	}
	return notes
}

// stale tells whether a sample that is needed isn't fresh.
func (s *Super) stale() bool {
	// The volts, amps and leaks of all stand in a row.
	for ch := api.ChVolt; ch < api.ChCell1; ch++ {
		if !s.last(ch).Fresh {
			return true
		}
	}
	return !s.last(api.ChBack).Fresh
}

// write is what has to be written behind a cycle, if anything has; before is the mode ahead of it.
func (s *Super) write(before int) []journal.Write {
	locks := s.Locks()
	if s.mode == api.Land && before != api.Land {
		goto due
	}
	if locks == s.written && s.cycles%s.config.P != 0 {
		return nil
	}
due:
	l, err := journal.Writes(s.nv, api.Record{Mode: s.mode, Locks: locks, Q1: s.Charge(0), Q2: s.Charge(1)})
	if err != nil {
		return nil
	}
	s.nv = journal.Apply(s.nv, l, len(l))
	s.written = locks
	return l
}
