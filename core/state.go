package core

import (
	"maps"
	"slices"

	"noonmark/api"
	"noonmark/cell"
	"noonmark/gap"
	"noonmark/shelf"
)

// Now returns the moment.
func (s *State) Now() int64 { return s.now }

// Boots returns how often the aggregator has started.
func (s *State) Boots() int64 { return s.boots }

// Sunk returns the number of the first emission that is kept.
func (s *State) Sunk() int64 { return s.sunk }

// Value returns the watermark.
func (s *State) Value() int64 { return s.mark.Value() }

// Kept returns the emissions that are kept, in order.
func (s *State) Kept() []shelf.Out { return slices.Clone(s.kept) }

// Agent returns what the state has of a registered agent.
func (s *State) Agent(agent int64) (Agent, bool) {
	entry, known := s.roll.Of(agent)
	if !known {
		return Agent{}, false
	}
	floor, _ := s.mark.Of(agent)
	k := s.streams[agent]
	return Agent{entry, floor, k.last, k.buffer.Next(), len(k.buffer.Waiting()), len(k.Samples())}, true
}

// At returns the interval of an agent's stamp, trimmed.
func (s *State) At(agent, stamp int64) (gap.Gap, api.Errno) {
	k, known := s.streams[agent]
	if !known {
		return gap.Gap{}, api.ErrNone
	}
	x, e := k.At(stamp)
	if e != api.OK {
		return gap.Gap{}, e
	}
	floor, _ := s.mark.Of(agent)
	x, e = gap.Meet(x, gap.Gap{Lo: floor.At, Hi: s.now})
	if e != api.OK {
		return gap.Gap{}, api.ErrEmpty
	}
	return x, api.OK
}

// Cells returns an iterator over the cells of open windows.
func (s *State) Cells() func(yield func(shelf.Key, cell.Cell) bool) { return s.shelf.All() }

// Clone returns an independent state that is equal.
func (s *State) Clone() *State {
	c := *s
	c.roll, c.mark, c.shelf = s.roll.Clone(), s.mark.Clone(), s.shelf.Clone()
	// Emissions never change where they stand: both states may have the same ones, as long as neither appends there.
	c.kept = slices.Clip(s.kept)
	c.streams = maps.Clone(s.streams)
	for agent, k := range s.streams {
		c.streams[agent] = &stream{k.Clone(), k.buffer.Clone(), k.last}
	}
	return &c
}
