package fleet

import (
	"bytes"
	"math"
	"reflect"
	"slices"
	"testing"

	"noonmark/api"
	"noonmark/core"
	"noonmark/drift"
	"noonmark/frame"
	"noonmark/gap"
	"noonmark/gate"
	"noonmark/label"
	"noonmark/ledger"
)

var m = label.Series{Name: "m"}

func config() Config {
	c := core.Config{Width: 10, Policy: 0, Most: 1000, Lag: 100, Rho: 0, Trust: 2, Agents: 3, Cells: 16, Hold: 8}
	return Config{gate.Options{Config: c, Period: 20, Probes: 4, Segment: 4096, Save: 1000}, 20, 50}
}

func start(t *testing.T, c Config) *Fleet {
	t.Helper()
	f, e := New(c)
	if e != api.OK {
		t.Fatal(e)
	}
	return f
}

func at(now int64) Entry              { return Entry{Kind: KTime, Now: now} }
func boot(agent, b int64) Entry       { return Entry{Kind: KBoot, Agent: agent, Boot: b} }
func step(agent, reading int64) Entry { return Entry{Kind: KStep, Agent: agent, Reading: reading} }
func arrive(n, reading int64) Entry   { return Entry{Kind: KArrive, Number: n, Reading: reading} }
func forge(agent int64, b []byte) Entry {
	return Entry{Kind: KForge, Agent: agent, Bytes: b}
}
func measure(agent, reading, value int64) Entry {
	return Entry{Kind: KMeasure, Agent: agent, Reading: reading, Value: value, Series: m}
}

var (
	tick = Entry{Kind: KTick}
	sync = Entry{Kind: KSync}
	sink = Entry{Kind: KSink}
)

// run executes entries that must all return OK.
func run(t *testing.T, f *Fleet, list ...Entry) {
	t.Helper()
	for i, e := range f.Run(list...) {
		if e != api.OK {
			t.Fatal(i, list[i], e)
		}
	}
}

// granted lets agent 3 have epoch 1, at the time 0: its packets 0 and 1.
func granted(t *testing.T, c Config) *Fleet {
	t.Helper()
	f := start(t, c)
	run(t, f, boot(3, 1), step(3, 0), arrive(0, 0), sync, arrive(1, 0))
	return f
}

// trusted lets agent 3 be probed too: its packets 2 to 4.
func trusted(t *testing.T, c Config) *Fleet {
	t.Helper()
	f := granted(t, c)
	run(t, f, tick, arrive(2, 0), step(3, 0), at(2), arrive(3, 0), arrive(4, 0), sync)
	return f
}

func TestP27_1Kinds(t *testing.T) {
	kinds := []int{KTime, KBoot, KMeasure, KStep, KArrive, KLose, KDouble, KForge, KTick, KSync, KSink, KCrash}
	for i, kind := range kinds {
		if kind != i {
			t.Error(i, kind)
		}
	}
}

func TestP27_1Right(t *testing.T) {
	for i, c := range []struct {
		change func(c *Config)
		want   bool
	}{
		{func(c *Config) {}, true}, {func(c *Config) { c.Buffer, c.Packets = 1, 1 }, true}, {func(c *Config) { c.Buffer, c.Packets = 1024, 4096 }, true},
		{func(c *Config) { c.Buffer = 0 }, false}, {func(c *Config) { c.Buffer = 1025 }, false}, {func(c *Config) { c.Packets = 0 }, false}, {func(c *Config) { c.Packets = 4097 }, false},
		{func(c *Config) { c.Save = 0 }, false}, {func(c *Config) { c.Width = 0 }, false}, {func(c *Config) { *c = Config{} }, false}, {func(c *Config) { c.Buffer = math.MinInt }, false},
	} {
		k := config()
		c.change(&k)
		f, e := New(k)
		if k.Right() != c.want || (f != nil) != c.want || (e == api.OK) != c.want || !c.want && e != api.ErrRange {
			t.Error(i, k.Right(), e)
		}
	}
	f := start(t, config())
	if f.Now() != 0 || f.State().Boots() != 1 || f.Pending() != 0 || len(f.Sink()) != 0 || len(f.Facts()) != 0 || f.Wire().Next() != 0 {
		t.Error("initial")
	}
	for id := range int64(64) {
		if a := f.Agent(id); a.Id() != id || a.Boot() != 0 || f.Forged(id) || f.Lagged(id) || len(f.Boots(id)) != 0 {
			t.Error(id)
		}
	}
}

func TestP27_1Wrong(t *testing.T) {
	f := trusted(t, config())
	list := []Entry{{Kind: -1}, {Kind: 12}, {Kind: math.MaxInt}, boot(-1, 5), boot(64, 5), step(64, 1), measure(-1, 1, 1), forge(64, nil), {Kind: KTime, Agent: 64}}
	for _, c := range []struct {
		e      Entry
		fields string
	}{
		{at(5), "n"}, {boot(3, 5), "ab"}, {measure(3, 5, 1), "arvs"}, {step(3, 5), "ar"}, {arrive(9, 5), "#r"}, {Entry{Kind: KLose, Number: 5}, "#"}, {Entry{Kind: KDouble, Number: 5}, "#"},
		{forge(3, []byte{1}), "ax"}, {tick, ""}, {sync, ""}, {sink, ""}, {Entry{Kind: KCrash, Keep: 5}, "k"},
	} {
		for name, set := range map[byte]func(e *Entry){
			'a': func(e *Entry) { e.Agent = 1 }, 'n': func(e *Entry) { e.Now = 1 }, 'r': func(e *Entry) { e.Reading = 1 }, 'b': func(e *Entry) { e.Boot = 1 }, 'v': func(e *Entry) { e.Value = 1 },
			'#': func(e *Entry) { e.Number = 1 }, 'k': func(e *Entry) { e.Keep = 1 }, 's': func(e *Entry) { e.Series = m }, 'x': func(e *Entry) { e.Bytes = []byte{1} },
		} {
			if !bytes.Contains([]byte(c.fields), []byte{name}) {
				e := c.e
				set(&e)
				list = append(list, e)
			}
		}
		if c.e.Kind != KMeasure {
			e := c.e
			e.Series.Labels = []label.Label{{}}
			list = append(list, e)
		}
	}
	before := f.State().Bytes()
	for i, e := range list {
		if err := f.Do(e); err != api.ErrForm {
			t.Error(i, e, err)
		}
	}
	if !bytes.Equal(before, f.State().Bytes()) || f.Wire().Next() != 5 || f.Agent(1).Boot() != 0 || f.Now() != 2 || f.Forged(3) || f.Forged(1) {
		t.Error("changed")
	}
}

func TestP27_1Time(t *testing.T) {
	f := start(t, config())
	want := []api.Errno{api.OK, api.OK, api.ErrRange, api.ErrRange, api.ErrRange, api.OK, api.OK}
	got := f.Run(at(5), at(5), at(4), at(-1), at(api.MaxTime+1), at(6), at(api.MaxTime))
	if !slices.Equal(got, want) || f.Now() != api.MaxTime || len(f.Run()) != 0 {
		t.Error(got, f.Now())
	}
}

func TestP27_1Example(t *testing.T) {
	f := granted(t, config())
	if a := f.Agent(3); a.Epoch() != 1 || a.Boot() != 1 {
		t.Error(a)
	}
	got := f.Run(boot(3, 1), boot(3, 0), boot(3, 2), arrive(0, 0), arrive(-1, 0), Entry{Kind: KLose, Number: 9}, Entry{Kind: KDouble, Number: 9}, step(4, 0), step(3, -1), measure(3, 0, 1), measure(4, 0, 1))
	want := []api.Errno{api.ErrOld, api.ErrRange, api.OK, api.ErrNone, api.ErrNone, api.ErrNone, api.ErrNone, api.ErrState, api.ErrRange, api.ErrState, api.ErrState}
	if !slices.Equal(got, want) {
		t.Error(got)
	}
}

func TestP27_1Packets(t *testing.T) {
	c := config()
	c.Packets = 2
	f := start(t, c)
	run(t, f, at(7), boot(3, 1), step(3, 5), Entry{Kind: KDouble, Number: 0})
	if e := f.Do(Entry{Kind: KDouble, Number: 0}); e != api.ErrFull {
		t.Error(e)
	}
	// What finds no room is lost.
	run(t, f, step(3, 6), forge(5, []byte("x")))
	if w := f.Wire(); !slices.Equal(w.Flying(), []int64{0, 1}) || w.Next() != 2 || !f.Forged(5) {
		t.Error(w.Flying())
	}
	if p, _ := f.Wire().Of(1); !p.Up || p.Agent != 3 || p.Sent != 7 {
		t.Error(p)
	}
	run(t, f, Entry{Kind: KLose, Number: 0}, arrive(1, 0), sync, forge(5, []byte("x")))
	p, _ := f.Wire().Of(2)
	if g, e := frame.Decode(p.Bytes); e != api.OK || g.Kind != frame.FGrant || p.Up || p.Agent != 3 || p.Sent != 7 {
		t.Error(p, e)
	}
	if p, _ := f.Wire().Of(3); !p.Up || p.Agent != 5 || string(p.Bytes) != "x" {
		t.Error(p)
	}
	if e := f.Do(arrive(3, 0)); e != api.ErrEnd {
		t.Error("the gate's error", e)
	}
	if e := f.Do(arrive(2, -1)); e != api.ErrRange || len(f.Wire().Flying()) != 0 {
		t.Error("the agent's error", e)
	}
}

func TestP27_1Counted(t *testing.T) {
	f := trusted(t, config())
	run(t, f, at(5), measure(3, 5, 70), at(9), step(3, 9))
	id := ledger.Id{Agent: 3, Epoch: 1, Seq: 0}
	if said, ok := f.Of(id); ok || said != (Said{}) {
		t.Error(said, ok)
	}
	run(t, f, arrive(5, 0), arrive(6, 0))
	if _, ok := f.Of(id); ok || f.Pending() == 0 {
		t.Error("ahead of the sync")
	}
	run(t, f, sync)
	want := Said{ledger.Verdict{Reason: ledger.VCounted}, gap.Gap{Lo: 4, Hi: 8}}
	if said, ok := f.Of(id); !ok || said != want || f.Pending() != 0 {
		t.Error(said, ok)
	}
	for k, said := range f.Verdicts() {
		if k != id || said != want {
			t.Error(k, said)
		}
	}
	if facts := f.Facts(); len(facts) != 1 || !reflect.DeepEqual(facts[0], Fact{id, 1, 5, frame.Event{Stamp: 5, Value: 70, Series: m}}) {
		t.Error(facts)
	}
	// The window closes; the emission goes to the sink once, and is then sunk.
	run(t, f, at(40), step(3, 40), arrive(8, 0), arrive(9, 0), tick, sync)
	if s := f.Sink(); len(s) != 1 || f.State().Value() != 39 {
		t.Error(s, f.State().Value())
	}
	before := f.Sink()
	run(t, f, Entry{Kind: KCrash, Keep: 0})
	if !reflect.DeepEqual(f.Sink(), before) || f.State().Boots() != 2 {
		t.Error("after a crash", f.Sink())
	}
	run(t, f, sink, sync)
	if f.State().Sunk() != 1 || len(f.State().Kept()) != 0 {
		t.Error(f.State().Sunk())
	}
	g, e := frame.Decode(before[0])
	if e != api.OK || g.Kind != frame.FEmit || g.Window != 0 || g.Series.Text() != "m" {
		t.Error(g, e)
	}
}

func TestP27_1Crash(t *testing.T) {
	f := trusted(t, config())
	run(t, f, at(5), measure(3, 5, 70), at(9), step(3, 9), arrive(5, 0), arrive(6, 0))
	whole := f.State()
	pending := f.Pending()
	for _, c := range []struct {
		keep int
		next int64
	}{{-1, 0}, {0, 0}, {pending - 1, 1}, {pending, 1}, {math.MaxInt, 1}, {math.MinInt, 0}} {
		f := trusted(t, config())
		run(t, f, at(5), measure(3, 5, 70), at(9), step(3, 9), arrive(5, 0), arrive(6, 0), Entry{Kind: KCrash, Keep: c.keep})
		a, _ := f.State().Agent(3)
		if a.Next != c.next || f.Pending() != 0 || f.State().Boots() != 2 {
			t.Error(c, a)
		}
		// What was kept leaves the gate when it is opened.
		if _, ok := f.Of(ledger.Id{Agent: 3, Epoch: 1}); ok != (c.next == 1) {
			t.Error(c, ok)
		}
	}
	if a, _ := whole.Agent(3); a.Next != 1 {
		t.Error(a)
	}
}

func TestP27_2Readings(t *testing.T) {
	f := trusted(t, config())
	base := []drift.Point{{True: 0, Clock: 0}, {True: 0, Clock: 0}, {True: 0, Clock: 0}, {True: 0, Clock: 0}}
	if r := f.Readings(3, 1); !slices.Equal(r, base) {
		t.Error(r)
	}
	bad := label.Series{}
	f.Run(at(10), measure(3, 8, 1), measure(3, 6, 1), measure(3, -1, 1), Entry{Kind: KMeasure, Agent: 3, Reading: 9, Series: bad}, step(3, api.MaxTime+1), step(3, 10))
	// Errors of the frame itself don't matter: here it acknowledges what was forged, and never measured.
	b, _ := frame.Encode(frame.Frame{Head: frame.Head{Kind: frame.FBatch, Agent: 3, Epoch: 1}, Events: []frame.Event{{Series: m}, {Series: m}, {Series: m}}})
	run(t, f, forge(3, b), arrive(f.Wire().Next(), 0), sync)
	last := f.Wire().Next() - 1
	if e := f.Do(arrive(last, 12)); e != api.ErrRange {
		t.Error(e)
	}
	want := append(base, []drift.Point{{True: 10, Clock: 8}, {True: 10, Clock: 8}, {True: 10, Clock: 9}, {True: 10, Clock: 10}, {True: 10, Clock: 12}}...)
	if r := f.Readings(3, 1); !slices.Equal(r, want) {
		t.Error(r)
	}
	run(t, f, boot(3, 7))
	if e := f.Do(measure(3, 4, 1)); e != api.ErrState {
		t.Error(e)
	}
	f.Do(step(4, 5))
	if r := f.Readings(3, 7); !slices.Equal(r, []drift.Point{{True: 10, Clock: 4}}) || !slices.Equal(f.Boots(3), []int64{1, 7}) {
		t.Error(r, f.Boots(3))
	}
	if len(f.Boots(4)) != 0 || len(f.Readings(4, 0)) != 0 || len(f.Readings(3, 2)) != 0 || len(f.Readings(99, 1)) != 0 {
		t.Error("none")
	}
	f.Readings(3, 1)[0].Clock = 99
	if f.Readings(3, 1)[0].Clock != 0 {
		t.Error("shared")
	}
}

func TestP27_2Boots(t *testing.T) {
	f := start(t, config())
	var want []int64
	for b := int64(5); b < 90; b += 7 {
		run(t, f, boot(3, b), step(3, b), boot(4, b))
		want = append(want, b)
	}
	if !slices.Equal(f.Boots(3), want) || len(f.Boots(4)) != 0 {
		t.Error(f.Boots(3))
	}
}

func TestP27_2Lagged(t *testing.T) {
	f := trusted(t, config())
	run(t, f, at(100), tick)
	if f.Lagged(3) {
		t.Error("not yet")
	}
	run(t, f, at(101), tick)
	if !f.Lagged(3) || f.Lagged(4) {
		t.Error("lagged")
	}
	run(t, f, Entry{Kind: KCrash, Keep: 0}, boot(3, 9))
	if !f.Lagged(3) {
		t.Error("for good")
	}
	for _, id := range []int64{-1, 64, math.MinInt64, math.MaxInt64} {
		if f.Lagged(id) || f.Forged(id) || f.Agent(id) != nil || len(f.Boots(id)) != 0 || len(f.Readings(id, 1)) != 0 {
			t.Error(id)
		}
	}
}

func TestP27_2Memory(t *testing.T) {
	f := trusted(t, config())
	s, _ := label.Make("m", label.Label{Name: "a", Value: "1"})
	e := measure(3, 5, 70)
	e.Series = s
	run(t, f, at(5), e, step(3, 9), at(9), arrive(5, 0), arrive(6, 0), at(40), step(3, 40), arrive(7, 0), arrive(8, 0), tick, sync)
	s.Labels[0].Value = "2"
	f.Facts()[0].Event.Series.Labels[0].Value = "3"
	if f.Facts()[0].Event.Series.Text() != "m{a=1}" {
		t.Error(f.Facts())
	}
	f.Sink()[0][0]++
	if f.Sink()[0][0] != frame.FEmit {
		t.Error(f.Sink())
	}
	a := f.Agent(3)
	a.Start(99)
	w := f.Wire()
	w.Put()
	w.Take(w.Flying()[0])
	st := f.State()
	st.Apply(core.Record{Kind: core.RBoot})
	if f.Agent(3).Boot() != 1 || len(f.Wire().Flying()) == len(w.Flying()) || f.State().Boots() != 1 {
		t.Error("shared")
	}
	b := []byte("abc")
	run(t, f, forge(1, b))
	b[0] = 'x'
	if p, _ := f.Wire().Of(f.Wire().Next() - 1); string(p.Bytes) != "abc" {
		t.Error(p)
	}
}

func TestP27_2Verdicts(t *testing.T) {
	f := trusted(t, config())
	run(t, f, at(5), measure(3, 5, 70), measure(3, 6, 70), at(9), step(3, 9), arrive(5, 0), arrive(6, 0), sync)
	all := f.Verdicts()
	for _, want := range []int{2, 3} {
		n := 0
		for id, said := range all {
			if n == 0 && want == 2 {
				run(t, f, at(12), measure(3, 12, 1), step(3, 12))
				for _, k := range f.Wire().For(true, 3) {
					run(t, f, arrive(k, 0))
				}
				run(t, f, sync)
			}
			if id.Seq != int64(n) || said.Span == (gap.Gap{}) {
				t.Error(id, said)
			}
			n++
		}
		if n != want {
			t.Error(n, want)
		}
	}
	for id := range all {
		if id.Seq != 0 {
			t.Error(id)
		}
		break
	}
}

func TestP27_3Forged(t *testing.T) {
	f := trusted(t, config())
	b, _ := frame.Encode(frame.Frame{Head: frame.Head{Kind: frame.FBatch, Agent: 3, Epoch: 1}, Events: []frame.Event{{Stamp: 5, Value: 9, Series: m}}})
	// Bytes in the name of another agent than the link's are no frame of that agent.
	run(t, f, at(9), forge(4, b))
	n := f.Wire().Next() - 1
	if e := f.Do(arrive(n, 0)); e != api.ErrForm || f.Forged(3) || !f.Forged(4) {
		t.Error(e)
	}
	run(t, f, forge(3, b), arrive(n+1, 0), sync)
	if _, ok := f.Of(ledger.Id{Agent: 3, Epoch: 1}); !ok || len(f.Facts()) != 0 || !f.Forged(3) {
		t.Error("a verdict on what was never measured")
	}
	// The true event with this number has the verdict of the forged one.
	run(t, f, measure(3, 9, 1), step(3, 9))
	for _, k := range f.Wire().For(true, 3) {
		f.Do(arrive(k, 0))
	}
	run(t, f, sync)
	if said, _ := f.Of(ledger.Id{Agent: 3, Epoch: 1}); said.Span != (gap.Gap{Lo: 4, Hi: 8}) {
		t.Error(said)
	}
}
