package core

import (
	"slices"

	"noonmark/api"
	"noonmark/frame"
	"noonmark/gap"
	"noonmark/ledger"
	"noonmark/shelf"
)

// Apply applies a record, and returns what comes of it.
func (s *State) Apply(r Record) ([]Effect, api.Errno) {
	if !r.Right() {
		return nil, api.ErrForm
	}
	switch r.Kind {
	case RBoot:
		return nil, s.boot()
	case RGrant:
		return s.grant(r)
	case RSample:
		return nil, s.sample(r)
	case RBatch:
		return s.batch(r)
	case RBeat:
		return nil, s.beat(r)
	case RTick:
		return s.tick(r.Now)
	}
	return nil, s.sink(r.Next)
}

func (s *State) boot() api.Errno {
	if s.boots >= mostBoots {
		return api.ErrLong
	}
	s.boots++
	return api.OK
}

func (s *State) grant(r Record) ([]Effect, api.Errno) {
	if r.Now < s.now {
		return nil, api.ErrRange
	}
	old, known := s.roll.Of(r.Agent)
	entry, fresh, e := s.roll.Grant(r.Agent, r.Boot, r.Now)
	if e != api.OK {
		return nil, e
	}
	s.now = r.Now
	var effects []Effect
	if fresh && known {
		effects = s.leave(r.Agent, old.Epoch)
	}
	if fresh {
		// The configuration is valid, so that there is such a stream; and the agent isn't in the watermark.
		s.streams[r.Agent], _ = newStream(s.config, 0)
		s.mark.Join(r.Agent, r.Now)
	}
	return append(effects, Effect{Kind: EGrant, Agent: r.Agent, Boot: r.Boot, Epoch: entry.Epoch}), api.OK
}

// leave ends an agent's epoch: what waits in its buffer is stale.
func (s *State) leave(agent, epoch int64) []Effect {
	var effects []Effect
	for _, n := range s.streams[agent].buffer.Waiting() {
		effects = append(effects, Effect{
			Kind:    EVerdict,
			Id:      ledger.Id{Agent: agent, Epoch: epoch, Seq: n},
			Verdict: ledger.Verdict{Reason: ledger.VStale},
		})
	}
	s.mark.Leave(agent)
	return effects
}

func (s *State) sample(r Record) api.Errno {
	if !s.roll.Is(r.Agent, r.Epoch) {
		return api.ErrOld
	}
	if r.Sample.Came < s.now {
		return api.ErrRange
	}
	s.now = r.Sample.Came
	k := s.streams[r.Agent]
	k.Add(r.Sample)
	s.mark.Hold(r.Agent, k.Held())
	return api.OK
}

func (s *State) batch(r Record) ([]Effect, api.Errno) {
	if e := s.current(r); e != api.OK {
		return nil, e
	}
	k := s.streams[r.Agent]
	if len(k.Samples()) == 0 && !k.Held() {
		return nil, api.ErrNone
	}
	s.now = r.Now
	id := ledger.Id{Agent: r.Agent, Epoch: r.Epoch, Seq: k.buffer.Next()}
	ready, _ := k.buffer.Offer(r.Next, copied(r.Events)...)
	var effects []Effect
	for _, event := range ready {
		v, span := s.judge(r.Agent, event)
		effects = append(effects, Effect{Kind: EVerdict, Id: id, Verdict: v, Span: span})
		id.Seq++
	}
	return append(effects, Effect{Kind: EAck, Agent: r.Agent, Epoch: r.Epoch, Next: k.buffer.Next()}), api.OK
}

func (s *State) beat(r Record) api.Errno {
	if e := s.current(r); e != api.OK {
		return e
	}
	s.now = r.Now
	k := s.streams[r.Agent]
	if r.Next != k.buffer.Next() || r.Stamp < k.last || k.Held() {
		return api.OK
	}
	if span, e := s.At(r.Agent, r.Stamp); e == api.OK {
		k.last = r.Stamp
		s.mark.Raise(r.Agent, span.Lo)
	}
	return api.OK
}

func (s *State) tick(now int64) ([]Effect, api.Errno) {
	if now < s.now {
		return nil, api.ErrRange
	}
	s.now = now
	s.mark.Tick(now)
	var effects []Effect
	for _, out := range s.shelf.Close(s.grid.Window(s.mark.Value())) {
		effects = append(effects, Effect{Kind: EEmit, Number: s.next(), Out: out})
		s.kept = append(s.kept, out)
	}
	return effects, api.OK
}

func (s *State) sink(next int64) api.Errno {
	if next > s.next() {
		return api.ErrRange
	}
	if next > s.sunk {
		s.kept = slices.Clone(s.kept[next-s.sunk:])
		s.sunk = next
	}
	return api.OK
}

// next returns the number of the next emission.
func (s *State) next() int64 { return s.sunk + int64(len(s.kept)) }

// current tells whether a record comes of an agent's epoch, and not too late.
func (s *State) current(r Record) api.Errno {
	if !s.roll.Is(r.Agent, r.Epoch) {
		return api.ErrOld
	}
	if r.Now < s.now {
		return api.ErrRange
	}
	return api.OK
}

// judge returns the verdict on an event whose turn has come, and its trimmed interval if the verdict hangs on that.
func (s *State) judge(agent int64, event frame.Event) (ledger.Verdict, gap.Gap) {
	k := s.streams[agent]
	if event.Stamp < k.last {
		return ledger.Verdict{Reason: ledger.VForm}, gap.Gap{}
	}
	k.last = event.Stamp
	span, e := s.At(agent, event.Stamp)
	if k.Held() || e != api.OK {
		return ledger.Verdict{Reason: ledger.VHeld}, gap.Gap{}
	}
	s.mark.Raise(agent, span.Lo)
	return s.place(event, span), span
}

// place returns the verdict on an event with an interval.
func (s *State) place(event frame.Event, span gap.Gap) ledger.Verdict {
	if span.Lo < s.mark.Value() {
		return ledger.Verdict{Reason: ledger.VLate}
	}
	first, last, _ := s.grid.Meets(span)
	series := event.Series.Text()
	if s.shelf.Note(first, last, series) != api.OK {
		return ledger.Verdict{Reason: ledger.VFull}
	}
	window, e := s.grid.Pick(span)
	if e != api.OK {
		return ledger.Verdict{Reason: ledger.VWide}
	}
	if s.shelf.Count(shelf.Key{Window: window, Series: series}, event.Value) != api.OK {
		return ledger.Verdict{Reason: ledger.VFull}
	}
	return ledger.Verdict{Reason: ledger.VCounted, Window: window}
}

// copied returns events that share no memory with the given ones.
func copied(list []frame.Event) []frame.Event {
	events := slices.Clone(list)
	for i := range events {
		events[i].Series.Labels = slices.Clone(events[i].Series.Labels)
	}
	return events
}
