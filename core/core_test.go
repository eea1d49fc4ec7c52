package core

import (
	"bytes"
	"math"
	"math/rand"
	"reflect"
	"slices"
	"testing"

	"noonmark/api"
	"noonmark/cell"
	"noonmark/clock"
	"noonmark/code"
	"noonmark/frame"
	"noonmark/gap"
	"noonmark/ledger"
	"noonmark/mark"
	"noonmark/roll"
	"noonmark/shelf"
)

const (
	top  = api.MaxTime
	edge = 1 << 40
)

func config() Config {
	return Config{Width: 10, Policy: 0, Most: 1000, Lag: 100, Rho: 0, Trust: 2, Agents: 3, Cells: 8, Hold: 4}
}

func series(names ...string) frame.Event {
	e := frame.Event{}
	e.Series.Name = names[0]
	return e
}

// ev is an event of series m.
func ev(stamp, value int64) frame.Event {
	e := series("m")
	e.Stamp, e.Value = stamp, value
	return e
}

func grant(agent, boot, now int64) Record {
	return Record{Kind: RGrant, Agent: agent, Boot: boot, Now: now}
}

func sample(agent, epoch int64, s clock.Sample) Record {
	return Record{Kind: RSample, Agent: agent, Epoch: epoch, Sample: s}
}

func batch(agent, epoch, next, now int64, events ...frame.Event) Record {
	return Record{Kind: RBatch, Agent: agent, Epoch: epoch, Next: next, Now: now, Events: events}
}

func beat(agent, epoch, next, stamp, now int64) Record {
	return Record{Kind: RBeat, Agent: agent, Epoch: epoch, Next: next, Stamp: stamp, Now: now}
}

func tick(now int64) Record { return Record{Kind: RTick, Now: now} }

func start(t *testing.T, c Config) *State {
	t.Helper()
	s, e := New(c)
	if e != api.OK {
		t.Fatal(e)
	}
	return s
}

// do applies a record that must return an error, and must then change nothing.
func do(t *testing.T, s *State, r Record, want api.Errno) []Effect {
	t.Helper()
	before := s.Bytes()
	effects, e := s.Apply(r)
	if e != want || e != api.OK && (len(effects) != 0 || !bytes.Equal(before, s.Bytes())) {
		t.Error(r, e, want, effects)
	}
	return effects
}

// trusted is a state in which agent 3 has epoch 1 and a clock that shows true time from 2 on.
func trusted(t *testing.T, c Config) *State {
	t.Helper()
	s := start(t, c)
	do(t, s, grant(3, 1, 0), api.OK)
	do(t, s, sample(3, 1, clock.Sample{Asked: 0, Got: 0, Sent: 0, Came: 2}), api.OK)
	return s
}

// verdicts are the reasons and windows of effects.
func verdicts(effects []Effect) []int64 {
	var list []int64
	for _, e := range effects {
		if e.Kind == EVerdict {
			list = append(list, e.Id.Seq, int64(e.Verdict.Reason), e.Verdict.Window)
		}
	}
	return list
}

func TestP24_1Kinds(t *testing.T) {
	if RBoot != 1 || RGrant != 2 || RSample != 3 || RBatch != 4 || RBeat != 5 || RTick != 6 || RSunk != 7 || EGrant != 1 || EAck != 2 || EVerdict != 3 || EEmit != 4 {
		t.Error("kinds")
	}
}

func TestP24_1Config(t *testing.T) {
	for i, change := range []func(c *Config){
		func(c *Config) {}, func(c *Config) { c.Width, c.Policy, c.Most = edge, 3, top }, func(c *Config) { c.Lag, c.Rho, c.Trust = edge, 100000, 100 },
		func(c *Config) { c.Agents, c.Cells, c.Hold = 64, 1024, 256 }, func(c *Config) { c.Width, c.Most, c.Lag, c.Trust, c.Agents, c.Cells, c.Hold = 1, 0, 1, 0, 1, 1, 1 },
	} {
		c := config()
		change(&c)
		if s, e := New(c); !c.Right() || e != api.OK || s == nil {
			t.Error(i, e)
		}
	}
	for i, change := range []func(c *Config){
		func(c *Config) { c.Width = 0 }, func(c *Config) { c.Width = edge + 1 }, func(c *Config) { c.Policy = -1 }, func(c *Config) { c.Policy = 4 }, func(c *Config) { c.Most = -1 }, func(c *Config) { c.Most = top + 1 },
		func(c *Config) { c.Lag = 0 }, func(c *Config) { c.Lag = edge + 1 }, func(c *Config) { c.Rho = -1 }, func(c *Config) { c.Rho = 100001 }, func(c *Config) { c.Trust = -1 }, func(c *Config) { c.Trust = 101 },
		func(c *Config) { c.Agents = 0 }, func(c *Config) { c.Agents = 65 }, func(c *Config) { c.Cells = 0 }, func(c *Config) { c.Cells = 1025 }, func(c *Config) { c.Hold = 0 }, func(c *Config) { c.Hold = 257 },
		func(c *Config) { *c = Config{} },
	} {
		c := config()
		change(&c)
		s, e := New(c)
		p, f := Parse(c, start(t, config()).Bytes())
		if c.Right() || s != nil || e != api.ErrRange || p != nil || f != api.ErrRange {
			t.Error(i, e, f)
		}
	}
}

// records are valid ones, with fields at their bounds.
func records() []Record {
	return []Record{
		{Kind: RBoot}, grant(0, 1, 0), grant(63, edge, top), sample(63, edge, clock.Sample{Asked: 0, Got: top, Sent: top, Came: top}), sample(3, 1, clock.Sample{}),
		batch(3, 1, 5, 9, ev(4, -5), ev(3, math.MinInt64)), batch(63, edge, edge-1, top, ev(top, math.MaxInt64)), beat(3, 1, edge, top, top), beat(0, 1, 0, 0, 0),
		tick(0), tick(top), {Kind: RSunk}, {Kind: RSunk, Next: edge},
	}
}

func wrongRecords() []Record {
	many := make([]frame.Event, 65)
	for i := range many {
		many[i] = ev(1, 1)
	}
	list := []Record{
		{}, {Kind: 8}, {Kind: -1}, {Kind: math.MaxInt}, grant(-1, 1, 0), grant(64, 1, 0), grant(3, 0, 0), grant(3, edge+1, 0), grant(3, 1, -1), grant(3, 1, top+1),
		sample(3, 0, clock.Sample{}), sample(3, edge+1, clock.Sample{}), sample(3, 1, clock.Sample{Asked: 2, Came: 1}), sample(3, 1, clock.Sample{Got: -1}), sample(64, 1, clock.Sample{}),
		batch(3, 1, 0, 0), batch(3, 1, 0, 0, many...), batch(3, 0, 0, 0, ev(1, 1)), batch(3, 1, -1, 0, ev(1, 1)), batch(3, 1, edge, 0, ev(1, 1)), batch(3, 1, 0, top+1, ev(1, 1)),
		batch(3, 1, 0, 0, ev(-1, 1)), batch(3, 1, 0, 0, ev(top+1, 1)), batch(3, 1, 0, 0, frame.Event{}), beat(3, 1, edge+1, 0, 0), beat(3, 1, -1, 0, 0), beat(3, 1, 0, -1, 0), beat(3, 1, 0, top+1, 0), beat(3, 1, 0, 0, -1),
		tick(-1), tick(top + 1), {Kind: RSunk, Next: -1}, {Kind: RSunk, Next: edge + 1},
	}
	places := map[int][]int{RGrant: {0, 2, 5}, RSample: {0, 1}, RBatch: {0, 1, 3, 5}, RBeat: {0, 1, 3, 4, 5}, RTick: {5}, RSunk: {3}}
	for _, r := range []Record{{Kind: RBoot}, grant(3, 1, 5), sample(3, 1, clock.Sample{}), batch(3, 1, 0, 5, ev(1, 1)), beat(3, 1, 0, 5, 5), tick(5), {Kind: RSunk, Next: 5}} {
		for at, v := range []*int64{&r.Agent, &r.Epoch, &r.Boot, &r.Next, &r.Stamp, &r.Now} {
			if !slices.Contains(places[r.Kind], at) {
				*v = 1
				list = append(list, r)
				*v = 0
			}
		}
		if r.Kind != RSample {
			r.Sample.Came = 1
			list = append(list, r)
			r.Sample.Came = 0
		}
		if r.Kind != RBatch {
			r.Events = []frame.Event{ev(1, 1)}
			list = append(list, r)
		}
	}
	return list
}

func same(a, b Record) bool {
	x, y := frame.Frame{Events: a.Events}, frame.Frame{Events: b.Events}
	a.Events, b.Events = nil, nil
	return reflect.DeepEqual(a, b) && frame.Same(x, y)
}

func TestP24_1Records(t *testing.T) {
	for i, r := range records() {
		b := r.Bytes()
		if !r.Right() || len(b) == 0 {
			t.Error(i, "right")
		}
		if got, e := Read(b); e != api.OK || !same(got, r) {
			t.Error(i, got, e)
		}
		for n := range b {
			if got, e := Read(b[:n]); e != api.ErrEnd || !same(got, Record{}) {
				t.Error(i, n, got, e)
			}
		}
		if got, e := Read(append(b, 0)); e != api.ErrForm || !same(got, Record{}) {
			t.Error(i, got, e)
		}
	}
	for i, r := range wrongRecords() {
		if r.Right() || len(r.Bytes()) != 0 {
			t.Error(i, r)
		}
		do(t, start(t, config()), r, api.ErrForm)
	}
}

func TestP24_1Encoding(t *testing.T) {
	for i, c := range []struct {
		r    Record
		want []byte
	}{
		{Record{Kind: RBoot}, []byte{1}}, {grant(3, 4, 5), []byte{2, 3, 4, 5}}, {sample(3, 4, clock.Sample{Asked: 5, Got: 6, Sent: 7, Came: 8}), []byte{3, 3, 4, 5, 6, 7, 8}},
		{batch(3, 4, 5, 6, ev(7, -1), ev(8, 1)), []byte{4, 3, 4, 5, 6, 2, 7, 1, 1, 'm', 0, 8, 2, 1, 'm', 0}}, {beat(3, 4, 5, 6, 7), []byte{5, 3, 4, 5, 6, 7}}, {tick(9), []byte{6, 9}}, {Record{Kind: RSunk, Next: 9}, []byte{7, 9}},
	} {
		if !bytes.Equal(c.r.Bytes(), c.want) {
			t.Error(i, c.r.Bytes())
		}
	}
	for i, c := range []struct {
		b   []byte
		err api.Errno
	}{
		{nil, api.ErrEnd}, {[]byte{0}, api.ErrKind}, {[]byte{8}, api.ErrKind}, {[]byte{8, 0x80}, api.ErrKind}, {code.Uints(math.MaxUint64), api.ErrKind}, {[]byte{0x80, 0}, api.ErrForm}, {[]byte{2, 64, 1}, api.ErrEnd}, {[]byte{2, 64, 1, 1}, api.ErrForm},
		{[]byte{2, 3, 0, 1}, api.ErrForm}, {code.Uints(2, 3, 1, 1<<63), api.ErrForm}, {[]byte{4, 3, 4, 5, 6, 65}, api.ErrLong}, {[]byte{4, 3, 4, 5, 6, 0}, api.ErrForm}, {[]byte{4, 3, 4, 5, 6, 2, 7, 1, 1, 'M', 0}, api.ErrForm},
		{[]byte{4, 3, 4, 5, 6, 1, 7, 1, 1, 'm', 9}, api.ErrLong}, {[]byte{4, 3, 4, 5, 6, 1, 7, 1, 65}, api.ErrLong}, {[]byte{3, 3, 4, 9, 6, 7, 8}, api.ErrForm}, {[]byte{1, 1}, api.ErrForm},
	} {
		if r, e := Read(c.b); e != c.err || !same(r, Record{}) {
			t.Error(i, r, e)
		}
	}
}

func TestP24_2Boot(t *testing.T) {
	s := start(t, config())
	if s.Now() != 0 || s.Boots() != 0 || s.Sunk() != 0 || s.Value() != -100 || len(s.Kept()) != 0 {
		t.Error("initial")
	}
	do(t, s, Record{Kind: RBoot}, api.OK)
	do(t, s, Record{Kind: RBoot}, api.OK)
	if s.Boots() != 2 {
		t.Error(s.Boots())
	}
	s, e := Parse(config(), slices.Concat(code.Uints(0, edge-1, 0, 0), code.Ints(-100), []byte{0, 0, 0}))
	if e != api.OK {
		t.Fatal(e)
	}
	do(t, s, Record{Kind: RBoot}, api.OK)
	do(t, s, Record{Kind: RBoot}, api.ErrLong)
}

func TestP24_2Grant(t *testing.T) {
	s := start(t, config())
	if list := do(t, s, grant(3, 1, 10), api.OK); len(list) != 1 || list[0] != (Effect{Kind: EGrant, Agent: 3, Boot: 1, Epoch: 1}) {
		t.Error(list)
	}
	if a, ok := s.Agent(3); !ok || a != (Agent{roll.Entry{Epoch: 1, Boot: 1, At: 10}, mark.Floor{At: 10}, -1, 0, 0, 0}) || s.Now() != 10 {
		t.Error(a, ok)
	}
	do(t, s, grant(3, 1, 9), api.ErrRange)
	if list := do(t, s, grant(3, 1, 20), api.OK); len(list) != 1 || list[0] != (Effect{Kind: EGrant, Agent: 3, Boot: 1, Epoch: 1}) || s.Now() != 20 {
		t.Error(list)
	}
	if a, _ := s.Agent(3); a.Floor.At != 10 || a.Entry.At != 10 {
		t.Error("the same boot changes only Now", a)
	}
	do(t, s, grant(2, 5, 20), api.OK)
	do(t, s, grant(2, 4, 20), api.ErrOld)
	do(t, s, grant(2, 4, 19), api.ErrRange)
	do(t, s, grant(1, 4, 20), api.OK)
	do(t, s, grant(0, 4, 20), api.ErrFull)
}

func TestP24_2GrantAgain(t *testing.T) {
	s := trusted(t, config())
	do(t, s, batch(3, 1, 0, 9, ev(5, 1)), api.OK)
	do(t, s, batch(3, 1, 2, 9, ev(6, 1), ev(7, 1)), api.OK)
	if a, _ := s.Agent(3); a.Next != 1 || a.Waiting != 2 || a.Samples != 1 || a.Last != 5 || a.Floor.At != 4 {
		t.Error(a)
	}
	want := []Effect{
		{Kind: EVerdict, Id: ledger.Id{Agent: 3, Epoch: 1, Seq: 2}, Verdict: ledger.Verdict{Reason: ledger.VStale}},
		{Kind: EVerdict, Id: ledger.Id{Agent: 3, Epoch: 1, Seq: 3}, Verdict: ledger.Verdict{Reason: ledger.VStale}},
		{Kind: EGrant, Agent: 3, Boot: 7, Epoch: 2},
	}
	if list := do(t, s, grant(3, 7, 30), api.OK); !slices.Equal(list, want) {
		t.Error(list)
	}
	if a, _ := s.Agent(3); a != (Agent{roll.Entry{Epoch: 2, Boot: 7, At: 30}, mark.Floor{At: 30}, -1, 0, 0, 0}) {
		t.Error(a)
	}
	do(t, s, batch(3, 1, 1, 30, ev(6, 1)), api.ErrOld)
	do(t, s, batch(3, 2, 0, 30, ev(6, 1)), api.ErrNone)
}

func TestP24_2Sample(t *testing.T) {
	s := start(t, config())
	do(t, s, sample(3, 1, clock.Sample{Came: 5}), api.ErrOld)
	do(t, s, grant(3, 1, 10), api.OK)
	do(t, s, sample(3, 2, clock.Sample{Came: 50}), api.ErrOld)
	do(t, s, sample(3, 1, clock.Sample{Came: 9}), api.ErrRange)
	if list := do(t, s, sample(3, 1, clock.Sample{Asked: 5, Got: 5, Sent: 5, Came: 12}), api.OK); len(list) != 0 || s.Now() != 12 {
		t.Error(list, s.Now())
	}
	// One that doesn't agree holds the clock, and the agent; two more that agree set both free.
	for i, held := range []bool{true, true, false} {
		at := 20 + int64(i)
		do(t, s, sample(3, 1, clock.Sample{Asked: at, Got: at + 50, Sent: at + 50, Came: at}), api.OK)
		if a, _ := s.Agent(3); a.Held != held || a.Samples != i+1 {
			t.Error(i, a)
		}
	}
}

func TestP24_2BatchErrors(t *testing.T) {
	s := start(t, config())
	do(t, s, batch(3, 1, 0, 5, ev(1, 1)), api.ErrOld)
	do(t, s, grant(3, 1, 10), api.OK)
	do(t, s, batch(3, 2, 0, 5, ev(1, 1)), api.ErrOld)
	do(t, s, batch(3, 1, 0, 9, ev(1, 1)), api.ErrRange)
	do(t, s, batch(3, 1, 0, 10, ev(1, 1)), api.ErrNone)
	do(t, s, beat(3, 2, 0, 5, 9), api.ErrOld)
	do(t, s, beat(3, 1, 0, 5, 9), api.ErrRange)
	// A clock that is held and has no samples: the events are judged.
	do(t, s, sample(3, 1, clock.Sample{Asked: 10, Got: 5, Sent: 500, Came: 12}), api.OK)
	if list := do(t, s, batch(3, 1, 0, 20, ev(1, 1)), api.OK); !slices.Equal(verdicts(list), []int64{0, ledger.VHeld, 0}) || s.Now() != 20 {
		t.Error(list)
	}
}

func TestP24_2Batch(t *testing.T) {
	s := trusted(t, config())
	want := []Effect{
		{Kind: EVerdict, Id: ledger.Id{Agent: 3, Epoch: 1, Seq: 0}, Verdict: ledger.Verdict{Reason: ledger.VCounted, Window: 0}, Span: gap.Gap{Lo: 4, Hi: 8}},
		{Kind: EAck, Agent: 3, Epoch: 1, Next: 1},
	}
	if list := do(t, s, batch(3, 1, 0, 9, ev(5, 70)), api.OK); !slices.Equal(list, want) {
		t.Error(list)
	}
	if list := do(t, s, batch(3, 1, 0, 9, ev(5, 70)), api.OK); !slices.Equal(list, want[1:]) {
		t.Error("twice", list)
	}
	// What comes too early waits; what is too far off is refused.
	if list := do(t, s, batch(3, 1, 2, 20, ev(12, 1), ev(13, 2), ev(14, 3), ev(15, 4)), api.OK); !slices.Equal(list, want[1:]) {
		t.Error(list)
	}
	list := do(t, s, batch(3, 1, 1, 21, ev(10, 9)), api.OK)
	if !slices.Equal(verdicts(list), []int64{1, 0, 0, 2, 0, 1, 3, 0, 1, 4, 0, 1}) || list[4].Next != 5 {
		t.Error(list)
	}
	if list[0].Span != (gap.Gap{Lo: 9, Hi: 13}) || list[1].Span != (gap.Gap{Lo: 11, Hi: 15}) {
		t.Error(list)
	}
	cells := map[shelf.Key]cell.Cell{}
	for k, c := range s.Cells() {
		cells[k] = c
	}
	zero, one := cell.Fold(70, 9), cell.Fold(1, 2, 3)
	zero.Certain, zero.Possible, one.Certain, one.Possible = 1, 1, 3, 1
	if len(cells) != 2 || cells[shelf.Key{Window: 0, Series: "m"}] != zero || cells[shelf.Key{Window: 1, Series: "m"}] != one {
		t.Error(cells)
	}
}

func TestP24_2Judge(t *testing.T) {
	c := config()
	c.Cells, c.Most = 2, 5
	s := trusted(t, c)
	for i, k := range []struct {
		now    int64
		event  frame.Event
		reason int64
		window int64
		span   gap.Gap
	}{
		{19, ev(10, 1), ledger.VCounted, 0, gap.Gap{Lo: 9, Hi: 13}},
		{19, ev(9, 1), ledger.VForm, 0, gap.Gap{}},
		{19, ev(10, 1), ledger.VCounted, 0, gap.Gap{Lo: 9, Hi: 13}},
		{19, ev(15, 1), ledger.VCounted, 1, gap.Gap{Lo: 14, Hi: 18}},
		{19, ev(16, 1), ledger.VFull, 0, gap.Gap{Lo: 15, Hi: 19}}, // of series n
		{20, ev(18, 1), ledger.VFull, 0, gap.Gap{Lo: 17, Hi: 20}}, // of a third window
		{20, ev(30, 1), ledger.VHeld, 0, gap.Gap{}},               // it would be later than now
		{20, ev(29, 1), ledger.VForm, 0, gap.Gap{}},
		{29, ev(30, 1), ledger.VFull, 0, gap.Gap{Lo: 29, Hi: 29}},
	} {
		if i == 4 {
			k.event.Series.Name = "n"
		}
		list := do(t, s, batch(3, 1, int64(i), k.now, k.event), api.OK)
		if len(list) != 2 || list[0] != (Effect{Kind: EVerdict, Id: ledger.Id{Agent: 3, Epoch: 1, Seq: int64(i)}, Verdict: ledger.Verdict{Reason: int(k.reason), Window: k.window}, Span: k.span}) {
			t.Error(i, list)
		}
	}
}

func TestP24_2JudgeWideLate(t *testing.T) {
	c := config()
	c.Most = 3
	s := trusted(t, c)
	list := do(t, s, batch(3, 1, 0, 50, ev(10, 1), ev(21, 5), ev(47, 3), ev(48, 3)), api.OK)
	if !slices.Equal(verdicts(list), []int64{0, ledger.VWide, 0, 1, ledger.VWide, 0, 2, ledger.VWide, 0, 3, ledger.VCounted, 4}) || list[0].Span != (gap.Gap{Lo: 9, Hi: 13}) {
		t.Error(list)
	}
	n := 0
	for k, c := range s.Cells() {
		n++
		if k.Window == 0 && c != (cell.Cell{Possible: 1}) {
			t.Error("a wide event remains noted", k, c)
		}
	}
	if n != 5 {
		t.Error(n)
	}
	// Another agent that joins below the watermark is late.
	c.Most = 1000
	s = trusted(t, c)
	do(t, s, batch(3, 1, 0, 50, ev(48, 1)), api.OK)
	do(t, s, grant(2, 1, 50), api.OK)
	do(t, s, tick(50), api.OK)
	if s.Value() != 47 {
		t.Error(s.Value())
	}
	s = trusted(t, c)
	do(t, s, tick(200), api.OK)
	if s.Value() != 100 {
		t.Error(s.Value())
	}
	list = do(t, s, batch(3, 1, 0, 200, ev(50, 1), ev(99, 1), ev(101, 1)), api.OK)
	if !slices.Equal(verdicts(list), []int64{0, ledger.VLate, 0, 1, ledger.VLate, 0, 2, 0, 10}) || list[0].Span != (gap.Gap{Lo: 49, Hi: 53}) {
		t.Error(list)
	}
	if a, _ := s.Agent(3); a.Floor.At != 100 || !a.Out || !a.Was || a.Last != 101 {
		t.Error(a)
	}
}

func TestP24_2Policies(t *testing.T) {
	for policy, want := range [][]int64{{0, 0, 0}, {0, 0, 1}, {0, 0, 1}, {0, ledger.VWide, 0}} {
		c := config()
		c.Policy = policy
		s := trusted(t, c)
		if list := do(t, s, batch(3, 1, 0, 50, ev(10, 1)), api.OK); !slices.Equal(verdicts(list), want) {
			t.Error(policy, list)
		}
	}
}

func TestP24_2Beat(t *testing.T) {
	s := trusted(t, config())
	at := func(next, stamp, now, last, floor int64) {
		t.Helper()
		if list := do(t, s, beat(3, 1, next, stamp, now), api.OK); len(list) != 0 {
			t.Error(list)
		}
		if a, _ := s.Agent(3); a.Last != last || a.Floor.At != floor || s.Now() != now {
			t.Error(a, s.Now())
		}
	}
	at(0, 10, 20, 10, 9)
	at(1, 15, 21, 10, 9)
	at(0, 9, 22, 10, 9)
	at(0, 10, 23, 10, 9)
	at(0, 60, 24, 10, 9)
	// The greatest stamp so far may be that of an event that was too early, and a beat may have it too.
	do(t, s, batch(3, 1, 0, 24, ev(25, 1)), api.OK)
	if a, _ := s.Agent(3); a.Last != 25 || a.Floor.At != 24 {
		t.Error(a)
	}
	s = trusted(t, config())
	do(t, s, batch(3, 1, 0, 20, ev(30, 1)), api.OK)
	at(1, 30, 40, 30, 29)
	s = trusted(t, config())
	at(0, 25, 25, 25, 24)
	do(t, s, sample(3, 1, clock.Sample{Asked: 26, Got: 90, Sent: 90, Came: 26}), api.OK)
	at(0, 91, 27, 25, 24)
}

func TestP24_2TickSunk(t *testing.T) {
	s := trusted(t, config())
	do(t, s, batch(3, 1, 0, 40, ev(5, 1), ev(15, 2), ev(25, 3), ev(35, 4)), api.OK)
	do(t, s, tick(39), api.ErrRange)
	do(t, s, Record{Kind: RSunk, Next: 1}, api.ErrRange)
	list := do(t, s, tick(50), api.OK)
	if s.Value() != 34 || len(list) != 3 || s.Now() != 50 {
		t.Error(s.Value(), list)
	}
	for i, e := range list {
		c := cell.Fold(int64(i) + 1)
		c.Certain = 1
		if e != (Effect{Kind: EEmit, Number: int64(i), Out: shelf.Out{Key: shelf.Key{Window: int64(i), Series: "m"}, Cell: c}}) {
			t.Error(i, e)
		}
	}
	if list := do(t, s, tick(50), api.OK); len(list) != 0 || len(s.Kept()) != 3 {
		t.Error(list)
	}
	do(t, s, Record{Kind: RSunk, Next: 2}, api.OK)
	if k := s.Kept(); len(k) != 1 || k[0].Window != 2 || s.Sunk() != 2 {
		t.Error(k)
	}
	do(t, s, Record{Kind: RSunk, Next: 1}, api.OK)
	do(t, s, Record{Kind: RSunk, Next: 4}, api.ErrRange)
	do(t, s, Record{Kind: RSunk, Next: 3}, api.OK)
	if s.Sunk() != 3 || len(s.Kept()) != 0 {
		t.Error(s.Sunk())
	}
	if list := do(t, s, tick(200), api.OK); len(list) != 1 || list[0].Number != 3 || list[0].Out.Window != 3 || s.Value() != 100 {
		t.Error(list)
	}
}

func TestP24_3At(t *testing.T) {
	s := start(t, config())
	look := func(agent, stamp int64, want gap.Gap, err api.Errno) {
		t.Helper()
		if g, e := s.At(agent, stamp); g != want || e != err {
			t.Error(agent, stamp, g, e)
		}
	}
	for _, agent := range []int64{3, -1, 64, math.MinInt64} {
		if a, ok := s.Agent(agent); ok || a != (Agent{}) {
			t.Error(a, ok)
		}
		look(agent, 5, gap.Gap{}, api.ErrNone)
	}
	do(t, s, grant(3, 1, 0), api.OK)
	look(3, 5, gap.Gap{}, api.ErrNone)
	s = trusted(t, config())
	do(t, s, batch(3, 1, 0, 20, ev(10, 1)), api.OK)
	look(3, -1, gap.Gap{}, api.ErrRange)
	look(3, top+1, gap.Gap{}, api.ErrRange)
	look(3, 15, gap.Gap{Lo: 14, Hi: 18}, api.OK)
	look(3, 19, gap.Gap{Lo: 18, Hi: 20}, api.OK)
	look(3, 7, gap.Gap{Lo: 9, Hi: 10}, api.OK)
	look(3, 5, gap.Gap{}, api.ErrEmpty)
	look(3, 30, gap.Gap{}, api.ErrEmpty)
	look(2, 15, gap.Gap{}, api.ErrNone)
}

func TestP24_4Encoding(t *testing.T) {
	s := trusted(t, config())
	do(t, s, Record{Kind: RBoot}, api.OK)
	do(t, s, batch(3, 1, 0, 40, ev(5, 1), ev(35, 4)), api.OK)
	do(t, s, batch(3, 1, 3, 40, ev(36, -1)), api.OK)
	do(t, s, tick(50), api.OK)
	do(t, s, grant(1, 9, 51), api.OK)
	first, second := cell.Fold(1), cell.Fold(4)
	first.Certain, second.Certain = 1, 1
	want := slices.Concat(
		code.Uints(51, 1, 0, 50), code.Ints(34), code.Uints(2),
		code.Uints(1, 1, 9, 51, 51, 0), code.Ints(-1), code.Uints(0, 0, 0, 0, 0),
		code.Uints(3, 1, 1, 0, 34, 0), code.Ints(35), code.Uints(0, 1, 1, 0, 0, 0, 2, 2, 1, 3, 36), code.Ints(-1), code.Texts("m"), code.Uints(0),
		code.Uints(1), code.Ints(3), code.Texts("m", string(second.Bytes())),
		code.Uints(1), code.Ints(0), code.Texts("m", string(first.Bytes())),
	)
	if !bytes.Equal(s.Bytes(), want) {
		t.Error(s.Bytes(), want)
	}
	p, e := Parse(config(), want)
	if e != api.OK || !bytes.Equal(p.Bytes(), want) {
		t.Fatal(e)
	}
	a, _ := p.Agent(3)
	b, _ := s.Agent(3)
	if a != b || p.Value() != 34 || p.Boots() != 1 || !slices.Equal(p.Kept(), s.Kept()) {
		t.Error(a, b)
	}
}

func TestP24_4ParseWrong(t *testing.T) {
	s := trusted(t, config())
	do(t, s, batch(3, 1, 0, 40, ev(5, 1), ev(35, 4)), api.OK)
	do(t, s, batch(3, 1, 3, 40, ev(36, -1)), api.OK)
	do(t, s, tick(50), api.OK)
	good := s.Bytes()
	for n := range good {
		if p, e := Parse(config(), good[:n]); p != nil || e != api.ErrForm {
			t.Error(n, e)
		}
	}
	if p, e := Parse(config(), append(slices.Clone(good), 0)); p != nil || e != api.ErrForm {
		t.Error(e)
	}
	c := string(cell.Cell{Certain: 1}.Bytes())
	none := code.Uints(0, 0, 0, 0, 0) // of a clock and a buffer
	agent := func(n, epoch, boot, at, floor, sum uint64, last int64, rest []byte) []byte {
		return slices.Concat(code.Uints(n, epoch, boot, at, floor, sum), code.Ints(last), rest)
	}
	fine := agent(3, 1, 1, 5, 5, 0, -1, none)
	state := func(now, boots, sunk, moment uint64, value int64, agents []byte, rest ...[]byte) []byte {
		return slices.Concat(code.Uints(now, boots, sunk, moment), code.Ints(value), agents, slices.Concat(rest...))
	}
	zero := code.Uints(0)
	with := func(agents ...[]byte) []byte {
		return state(9, 0, 0, 5, 5, slices.Concat(code.Uints(uint64(len(agents))), slices.Concat(agents...)), zero, zero)
	}
	cells := func(list ...[]byte) []byte {
		return state(9, 0, 0, 5, 5, zero, code.Uints(uint64(len(list))), slices.Concat(list...), zero)
	}
	one := slices.Concat(code.Ints(1), code.Texts("m", c))
	for i, b := range [][]byte{with(), with(fine), with(agent(0, 1, 1, 0, 0, 7, top, none), fine), cells(one), state(9, edge, edge, 9, -91, zero, zero, zero), state(9, 0, 5, 9, 9, zero, zero, code.Uints(1), one)} {
		if p, e := Parse(config(), b); e != api.OK || !bytes.Equal(p.Bytes(), b) {
			t.Error(i, e)
		}
	}
	clocks := func(list ...uint64) []byte { return agent(3, 1, 1, 5, 5, 0, -1, code.Uints(list...)) }
	waits := func(next uint64, numbers ...uint64) []byte {
		b := code.Uints(0, 0, 0, next, uint64(len(numbers)))
		for _, n := range numbers {
			b = append(b, code.Uints(n, 5)...)
			b = append(b, code.Ints(1)...)
			b = append(b, code.Texts("m")...)
			b = append(b, 0)
		}
		return agent(3, 1, 1, 5, 5, 0, -1, b)
	}
	if _, e := Parse(config(), with(waits(5, 6, 8))); e != api.OK {
		t.Error(e)
	}
	for stamp, want := range map[uint64]api.Errno{0: 0, top: 0, top + 1: api.ErrForm, 1 << 63: api.ErrForm} {
		b := slices.Concat(code.Uints(0, 0, 0, 0, 1, 1, stamp), code.Ints(1), code.Texts("m"), []byte{0})
		if _, e := Parse(config(), with(agent(3, 1, 1, 5, 5, 0, -1, b))); e != want {
			t.Error(stamp, e)
		}
	}
	for _, b := range [][]byte{state(top, 0, 0, top, top, zero, zero, zero), state(top, 0, 0, 0, 0, zero, zero, zero)} {
		if _, e := Parse(config(), b); e != api.OK {
			t.Error(e)
		}
	}
	for i, b := range [][]byte{
		state(1<<62, 0, 0, 0, 0, zero, zero, zero), state(1<<63, 0, 0, 0, 0, zero, zero, zero), state(9, edge+1, 0, 5, 5, zero, zero, zero), state(9, 0, edge+1, 5, 5, zero, zero, zero), state(9, 0, 1<<63, 5, 5, zero, zero, zero),
		state(9, 0, 0, 10, 5, zero, zero, zero), state(9, 0, 0, 5, 6, zero, zero, zero), state(9, 0, 0, 5, -96, zero, zero, zero), state(9, 0, 0, 1<<63, 5, zero, zero, zero),
		with(fine, fine), with(fine, agent(0, 1, 1, 0, 0, 0, -1, none)), with(agent(64, 1, 1, 5, 5, 0, -1, none)), with(agent(3, 0, 1, 5, 5, 0, -1, none)), with(agent(3, 1, 0, 5, 5, 0, -1, none)), with(agent(3, 1, 1, 1<<62, 5, 0, -1, none)),
		with(agent(3, 1, 1, 5, 1<<62, 0, -1, none)), with(agent(3, 1, 1, 5, 5, 8, -1, none)), with(agent(3, 1, 1, 5, 5, 0, -2, none)), with(agent(3, 1, 1, 5, 5, 0, 1<<62, none)),
		with(clocks(2, 0, 0, 0, 0)), with(clocks(0, 1<<63, 0, 0, 0)), with(clocks(0, 0, 1, 5, 0, 0, 4, 0, 0)), with(clocks(0, 0, 9)), with(clocks(0, 0, 0, edge+1, 0)), with(clocks(0, 0, 0, 0, 5)),
		with(waits(5, 5)), with(waits(5, 9)), with(waits(5, 4)), with(waits(5, 6, 6)), with(waits(5, 7, 6)), with(waits(edge-1, edge)), with(waits(0, 1<<63)),
		with(agent(0, 1, 1, 0, 0, 0, -1, none), agent(1, 1, 1, 0, 0, 0, -1, none), agent(2, 1, 1, 0, 0, 0, -1, none), fine),
		cells(one, one), cells(slices.Concat(code.Ints(2), code.Texts("m", c)), one), cells(slices.Concat(code.Ints(1), code.Texts("", c))), cells(slices.Concat(code.Ints(1), code.Texts("M", c))), cells(slices.Concat(code.Ints(1), code.Texts("m", ""))),
		cells(slices.Concat(code.Ints(1), code.Texts("m", c+"x"))), state(9, 0, 0, 5, 5, zero, zero, code.Uints(math.MaxUint64)), state(9, 0, 0, 5, 5, zero, code.Uints(9)),
	} {
		if p, e := Parse(config(), b); p != nil || e != api.ErrForm {
			t.Error(i, e)
		}
	}
	r := rand.New(rand.NewSource(1))
	for range 20000 {
		b := slices.Clone(good)
		b[r.Intn(len(b))] = byte(r.Intn(256))
		if p, e := Parse(config(), b); e == api.OK && !bytes.Equal(p.Bytes(), b) || e != api.OK && (p != nil || e != api.ErrForm) {
			t.Fatal(b, e)
		}
	}
}

func TestP24_4Memory(t *testing.T) {
	s := trusted(t, config())
	event := ev(6, 1)
	event.Series.Labels = append(event.Series.Labels, struct{ Name, Value string }{"a", "1"})
	r := batch(3, 1, 1, 9, event)
	do(t, s, r, api.OK)
	before := s.Bytes()
	event.Series.Labels[0].Name = "b"
	r.Events[0].Stamp = 0
	c := s.Clone()
	if !bytes.Equal(before, s.Bytes()) || !bytes.Equal(before, c.Bytes()) {
		t.Error("shared")
	}
	list := do(t, c, batch(3, 1, 0, 9, ev(5, 1)), api.OK)
	do(t, c, Record{Kind: RBoot}, api.OK)
	do(t, c, tick(5000), api.OK)
	do(t, c, grant(3, 8, 5000), api.OK)
	do(t, c, Record{Kind: RSunk, Next: 1}, api.OK)
	if len(verdicts(list)) != 6 || !bytes.Equal(before, s.Bytes()) {
		t.Error("clone", list)
	}
	s = trusted(t, config())
	do(t, s, batch(3, 1, 0, 40, ev(5, 1), ev(15, 2), ev(25, 3), ev(35, 4)), api.OK)
	do(t, s, tick(50), api.OK)
	before = s.Bytes()
	do(t, s.Clone(), Record{Kind: RSunk, Next: 1}, api.OK)
	s.Kept()[0].Window = 99
	if !bytes.Equal(before, s.Bytes()) || len(s.Kept()) != 3 {
		t.Error("emissions")
	}
	// Both go on with other emissions.
	c = s.Clone()
	do(t, c, batch(3, 1, 4, 70, ev(60, 5)), api.OK)
	do(t, c, tick(400), api.OK)
	do(t, s, batch(3, 1, 4, 70, ev(61, 6)), api.OK)
	do(t, s, tick(400), api.OK)
	if k, l := c.Kept(), s.Kept(); len(k) != 6 || len(l) != 5 || k[4].Max != 5 || l[4].Max != 6 {
		t.Error(k, l)
	}
}
