package fleet

import (
	"noonmark/agent"
	"noonmark/api"
	"noonmark/drift"
	"noonmark/frame"
	"noonmark/gate"
	"noonmark/label"
	"noonmark/ledger"
	"noonmark/wire"
)

// The kinds of entries.
const (
	KTime = iota
	KBoot
	KMeasure
	KStep
	KArrive
	KLose
	KDouble
	KForge
	KTick
	KSync
	KSink
	KCrash
)

// Entry is something that happens. The fields that its kind doesn't have are zero.
type Entry struct {
	Kind                                     int
	Agent, Now, Reading, Boot, Value, Number int64
	Keep                                     int
	Series                                   label.Series
	Bytes                                    []byte
}

// Do executes an entry.
func (f *Fleet) Do(e Entry) api.Errno {
	if !e.right() {
		return api.ErrForm
	}
	switch e.Kind {
	case KTime:
		return f.setTime(e.Now)
	case KBoot:
		return f.agents[e.Agent].Start(e.Boot)
	case KMeasure:
		return f.measure(e)
	case KStep:
		return f.step(e)
	case KArrive:
		return f.arrive(e)
	case KLose:
		_, err := f.wire.Take(e.Number)
		return err
	case KDouble:
		_, err := f.wire.Double(e.Number)
		return err
	case KForge:
		f.put(true, e.Agent, e.Bytes)
		f.forged[e.Agent] = true
		return api.OK
	case KTick:
		return f.tick()
	case KSync:
		f.out(f.gate.Sync())
		return api.OK
	case KSink:
		return f.gate.Sunk(int64(len(f.sink)))
	}
	f.disk.Crash(e.Keep)
	return f.open()
}

// Run executes entries, and returns what each comes to.
func (f *Fleet) Run(list ...Entry) []api.Errno {
	var errs []api.Errno
	for _, e := range list {
		errs = append(errs, f.Do(e))
	}
	return errs
}

// right tells whether there is such a kind, and no field is set that it doesn't have.
func (e Entry) right() bool {
	if !isAgent(e.Agent) {
		return false
	}
	rest := e
	rest.Kind = 0
	switch e.Kind {
	case KTime:
		rest.Now = 0
	case KBoot:
		rest.Agent, rest.Boot = 0, 0
	case KMeasure:
		rest.Agent, rest.Reading, rest.Value, rest.Series = 0, 0, 0, label.Series{}
	case KStep:
		rest.Agent, rest.Reading = 0, 0
	case KArrive:
		rest.Number, rest.Reading = 0, 0
	case KLose, KDouble:
		rest.Number = 0
	case KForge:
		rest.Agent, rest.Bytes = 0, nil
	case KTick, KSync, KSink:
	case KCrash:
		rest.Keep = 0
	default:
		return false
	}
	return rest.empty()
}

// empty tells whether all fields are zero.
func (e Entry) empty() bool {
	numbers := [7]int64{e.Agent, e.Now, e.Reading, e.Boot, e.Value, e.Number, int64(e.Keep)}
	return e.Kind == 0 && numbers == [7]int64{} &&
		e.Series.Name == "" && len(e.Series.Labels) == 0 && len(e.Bytes) == 0
}

func (f *Fleet) setTime(now int64) api.Errno {
	if !isTime(now) || now < f.now {
		return api.ErrRange
	}
	f.now = now
	return api.OK
}

func (f *Fleet) measure(e Entry) api.Errno {
	return f.observe(e.Agent, e.Reading, func(a *agent.Agent) api.Errno {
		n, err := a.Measure(e.Reading, e.Value, e.Series)
		if err != api.OK {
			return err
		}
		f.facts = append(f.facts, Fact{
			Id:    ledger.Id{Agent: e.Agent, Epoch: a.Epoch(), Seq: n},
			Boot:  a.Boot(),
			True:  f.now,
			Event: frame.Event{Stamp: a.Clock(), Value: e.Value, Series: copied(e.Series)},
		})
		return api.OK
	})
}

func (f *Fleet) step(e Entry) api.Errno {
	return f.observe(e.Agent, e.Reading, func(a *agent.Agent) api.Errno {
		frames, err := a.Step(e.Reading)
		for _, b := range frames {
			f.put(true, e.Agent, b)
		}
		return err
	})
}

func (f *Fleet) arrive(e Entry) api.Errno {
	p, err := f.wire.Take(e.Number)
	if err != api.OK {
		return err
	}
	if p.Up {
		return f.gate.Take(p.Agent, f.now, p.Bytes)
	}
	return f.observe(p.Agent, e.Reading, func(a *agent.Agent) api.Errno { return a.Take(e.Reading, p.Bytes) })
}

// observe makes a call in which an agent observes a reading, and records that if it did.
func (f *Fleet) observe(id, reading int64, call func(a *agent.Agent) api.Errno) api.Errno {
	a := f.agents[id]
	record := func() {
		k := life{id, a.Boot()}
		f.readings[k] = append(f.readings[k], drift.Point{True: f.now, Clock: a.Clock()})
	}
	err := call(a)
	// The same errors may have other causes behind a reading that was observed.
	if a.Boot() != 0 && isTime(reading) {
		record()
	}
	return err
}

func (f *Fleet) tick() api.Errno {
	outputs, err := f.gate.Step(f.now)
	if err != api.OK {
		return err
	}
	s := f.gate.State()
	for id := range f.lagged {
		if a, known := s.Agent(int64(id)); known && a.Out {
			f.lagged[id] = true
		}
	}
	f.out(outputs)
	return api.OK
}

// open opens the gate on the disk.
func (f *Fleet) open() api.Errno {
	g, outputs, err := gate.Open(f.disk, f.config.Options)
	if err != api.OK {
		return err
	}
	f.gate = g
	f.out(outputs)
	return api.OK
}

// out lets outputs of the gate go their ways.
func (f *Fleet) out(outputs []gate.Output) {
	for _, o := range outputs {
		switch o.Kind {
		case gate.OFrame:
			f.put(false, o.Agent, o.Bytes)
		case gate.OVerdict:
			if f.verdicts.Note(o.Id, o.Verdict) == api.OK {
				f.spans[o.Id] = o.Span
			}
		case gate.OEmit:
			if o.Number == int64(len(f.sink)) {
				f.sink = append(f.sink, o.Bytes)
			}
		}
	}
}

// put puts a packet on the wire; it is lost if there is no room.
func (f *Fleet) put(up bool, id int64, b []byte) {
	f.wire.Put(wire.Packet{Up: up, Agent: id, Sent: f.now, Bytes: b})
}
