package core

import (
	"bytes"

	"noonmark/api"
	"noonmark/cell"
	"noonmark/clock"
	"noonmark/code"
	"noonmark/label"
	"noonmark/mark"
	"noonmark/roll"
	"noonmark/shelf"
)

// The flags of an agent, of which the encoding has the sum.
const (
	flagOut = 1 << iota
	flagWas
	flagHeld
	flags
)

// Bytes returns the state as bytes.
func (s *State) Bytes() []byte {
	b := code.Uints(uint64(s.now), uint64(s.boots), uint64(s.sunk), uint64(s.mark.Now()))
	b = append(b, code.Ints(s.mark.Value())...)
	b = append(b, code.Uints(uint64(len(s.streams)))...)
	for agent, entry := range s.roll.All() {
		floor, _ := s.mark.Of(agent)
		b = append(b, code.Uints(uint64(agent), uint64(entry.Epoch), uint64(entry.Boot), uint64(entry.At))...)
		b = append(b, code.Uints(uint64(floor.At), flagsOf(floor))...)
		b = append(b, s.streams[agent].bytes()...)
	}
	b = append(b, code.Uints(uint64(s.shelf.Len()))...)
	for k, c := range s.shelf.All() {
		b = append(b, outBytes(shelf.Out{Key: k, Cell: c})...)
	}
	b = append(b, code.Uints(uint64(len(s.kept)))...)
	for _, out := range s.kept {
		b = append(b, outBytes(out)...)
	}
	return b
}

func (k *stream) bytes() []byte {
	b := code.Ints(k.last)
	held := uint64(0)
	if k.Held() {
		held = 1
	}
	samples := k.Samples()
	b = append(b, code.Uints(held, uint64(k.Streak()), uint64(len(samples)))...)
	for _, sample := range samples {
		b = append(b, sampleBytes(sample)...)
	}
	// Only what is drained can be looked at: a clone is.
	events := k.buffer.Clone().Drain()
	b = append(b, code.Uints(uint64(k.buffer.Next()), uint64(len(events)))...)
	for i, n := range k.buffer.Waiting() {
		b = append(b, code.Uints(uint64(n))...)
		b = append(b, eventBytes(events[i])...)
	}
	return b
}

func flagsOf(f mark.Floor) uint64 {
	sum := uint64(0)
	if f.Out {
		sum += flagOut
	}
	if f.Was {
		sum += flagWas
	}
	if f.Held {
		sum += flagHeld
	}
	return sum
}

func outBytes(o shelf.Out) []byte {
	return append(code.Ints(o.Window), code.Texts(o.Series, string(o.Cell.Bytes()))...)
}

// Parse returns the state of bytes.
func Parse(c Config, b []byte) (*State, api.Errno) {
	s, ok := initial(c)
	if !ok {
		return nil, api.ErrRange
	}
	if attempt(func() { s.read(code.New(b)) }) != api.OK {
		return nil, api.ErrForm
	}
	// What stands in another order than that of the encoding shows here.
	if !bytes.Equal(s.Bytes(), b) {
		return nil, api.ErrForm
	}
	return s, api.OK
}

// read makes an initial state the one that is read; it panics if there is none.
func (s *State) read(r *code.Reader) {
	s.now, s.boots, s.sunk = long(r), long(r), long(r)
	moment, value := long(r), r.Int()
	require(0 <= s.now && s.now <= api.MaxTime && moment <= s.now)
	require(0 <= s.boots && s.boots <= mostBoots && 0 <= s.sunk && s.sunk <= mostNext)
	floors := map[int64]mark.Floor{}
	for range r.Count(s.config.Agents) {
		agent := long(r)
		must(s.roll.Set(agent, roll.Entry{Epoch: long(r), Boot: long(r), At: long(r)}))
		floors[agent] = readFloor(r)
		s.streams[agent] = readStream(r, s.config)
	}
	must(s.mark.Set(moment, value, floors))
	for range r.Count(s.config.Cells) {
		out := readOut(r)
		must(s.shelf.Set(out.Key, out.Cell))
	}
	for range r.Count(r.Left()) {
		s.kept = append(s.kept, readOut(r))
	}
	must(r.End())
}

func readFloor(r *code.Reader) mark.Floor {
	at, sum := long(r), r.Uint()
	require(sum < flags)
	return mark.Floor{At: at, Out: sum&flagOut != 0, Was: sum&flagWas != 0, Held: sum&flagHeld != 0}
}

func readStream(r *code.Reader, c Config) *stream {
	last := r.Int()
	require(-1 <= last && last <= api.MaxTime)
	held, streak := r.Count(1), long(r)
	var samples []clock.Sample
	for range r.Count(api.MaxSamples) {
		samples = append(samples, readSample(r))
	}
	k, e := newStream(c, long(r))
	must(e)
	k.last = last
	must(k.Set(held == 1, int(streak), samples...))
	for range r.Count(c.Hold) {
		n, event := long(r), readEvent(r)
		require(event.Stamp >= 0 && event.Stamp <= api.MaxTime && n < mostNext)
		ready, refused := k.buffer.Offer(n, event)
		require(len(ready) == 0 && refused == 0)
	}
	return k
}

func readOut(r *code.Reader) shelf.Out {
	window, series := r.Int(), r.Text(r.Left())
	c, e := cell.Back([]byte(r.Text(r.Left())))
	must(e)
	_, ok := label.Parse(series)
	require(ok)
	return shelf.Out{Key: shelf.Key{Window: window, Series: series}, Cell: c}
}
