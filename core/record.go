package core

import (
	"noonmark/api"
	"noonmark/clock"
	"noonmark/code"
	"noonmark/frame"
	"noonmark/label"
)

// Right tells whether r is valid.
func (r Record) Right() bool {
	if r.Kind < RBoot || r.Kind > RSunk {
		return false
	}
	all := r.numbers()
	var own numbers
	for _, at := range fields(r.Kind) {
		if least, most := bounds(at); all[at] < least || all[at] > most {
			return false
		}
		own[at] = all[at]
	}
	return all == own && r.sampleRight() && r.eventsRight()
}

func (r Record) sampleRight() bool {
	if r.Kind != RSample {
		return r.Sample == clock.Sample{}
	}
	return r.Sample.Right()
}

// eventsRight tells whether the events are as in a frame that brings them.
func (r Record) eventsRight() bool {
	if r.Kind != RBatch {
		return len(r.Events) == 0
	}
	return frame.Frame{
		Head:   frame.Head{Kind: frame.FBatch, Agent: r.Agent, Epoch: r.Epoch},
		Next:   r.Next,
		Events: r.Events,
	}.Right()
}

// Bytes returns a valid record as bytes.
func (r Record) Bytes() []byte {
	if !r.Right() {
		return nil
	}
	b := code.Uints(uint64(r.Kind))
	all := r.numbers()
	for _, at := range fields(r.Kind) {
		b = append(b, code.Uints(uint64(all[at]))...)
	}
	switch r.Kind {
	case RSample:
		b = append(b, sampleBytes(r.Sample)...)
	case RBatch:
		b = append(b, code.Uints(uint64(len(r.Events)))...)
		for _, e := range r.Events {
			b = append(b, eventBytes(e)...)
		}
	}
	return b
}

// Read returns the record of bytes.
func Read(b []byte) (Record, api.Errno) {
	var record Record
	if e := attempt(func() { record = readRecord(code.New(b)) }); e != api.OK {
		return Record{}, e
	}
	return record, api.OK
}

// attempt returns the error by whose panic a function ended, or OK.
func attempt(do func()) (e api.Errno) {
	defer func() {
		switch x := recover().(type) {
		case nil:
		case api.Errno:
			e = x
		default:
			e = api.ErrForm
		}
	}()
	do()
	return api.OK
}

// must ends an attempt if there is an error.
func must(e api.Errno) {
	if e != api.OK {
		panic(e)
	}
}

// require ends an attempt if something isn't so.
func require(ok bool) {
	if !ok {
		panic(api.ErrForm)
	}
}

// readRecord reads a record and nothing else; it panics at the first error.
func readRecord(r *code.Reader) Record {
	kind := r.Uint()
	must(r.Err())
	if kind < RBoot || kind > RSunk {
		panic(api.ErrKind)
	}
	var all numbers
	for _, at := range fields(int(kind)) {
		all[at] = long(r)
	}
	record := all.record(int(kind))
	switch record.Kind {
	case RSample:
		record.Sample = readSample(r)
	case RBatch:
		for range r.Count(api.MaxBatch) {
			record.Events = append(record.Events, readEvent(r))
		}
	}
	must(r.End())
	require(record.Right())
	return record
}

// long reads an unsigned integer; one that an int64 doesn't hold becomes negative.
func long(r *code.Reader) int64 { return int64(r.Uint()) }

func sampleBytes(s clock.Sample) []byte {
	return code.Uints(uint64(s.Asked), uint64(s.Got), uint64(s.Sent), uint64(s.Came))
}

func readSample(r *code.Reader) clock.Sample {
	return clock.Sample{Asked: long(r), Got: long(r), Sent: long(r), Came: long(r)}
}

func eventBytes(e frame.Event) []byte {
	b := append(code.Uints(uint64(e.Stamp)), code.Ints(e.Value)...)
	return append(b, e.Series.Bytes()...)
}

func readEvent(r *code.Reader) frame.Event {
	stamp := long(r)
	value := r.Int()
	s, e := label.Read(r)
	must(e)
	return frame.Event{Stamp: stamp, Value: value, Series: s}
}

// The places of a record's numbers.
const (
	atAgent = iota
	atEpoch
	atBoot
	atNext
	atStamp
	atNow
	places
)

type numbers [places]int64

func (r Record) numbers() numbers {
	return numbers{r.Agent, r.Epoch, r.Boot, r.Next, r.Stamp, r.Now}
}

func (n numbers) record(kind int) Record {
	return Record{Kind: kind, Agent: n[atAgent], Epoch: n[atEpoch], Boot: n[atBoot], Next: n[atNext], Stamp: n[atStamp], Now: n[atNow]}
}

// fields returns the places of a kind's numbers, in the order of the encoding.
func fields(kind int) []int {
	switch kind {
	case RGrant:
		return []int{atAgent, atBoot, atNow}
	case RSample:
		return []int{atAgent, atEpoch}
	case RBatch:
		return []int{atAgent, atEpoch, atNext, atNow}
	case RBeat:
		return []int{atAgent, atEpoch, atNext, atStamp, atNow}
	case RTick:
		return []int{atNow}
	case RSunk:
		return []int{atNext}
	}
	return nil
}

// bounds returns the least and the greatest number that a place may hold.
func bounds(at int) (least, most int64) {
	switch at {
	case atAgent:
		return 0, api.MaxAgents - 1
	case atEpoch:
		return 1, mostEpoch
	case atBoot:
		return 1, mostBoots
	case atNext:
		return 0, mostNext
	}
	return 0, api.MaxTime
}
