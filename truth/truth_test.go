package truth

import (
	"math"
	"testing"

	"noonmark/api"
	"noonmark/cell"
	"noonmark/core"
	"noonmark/fleet"
	"noonmark/frame"
	"noonmark/gate"
	"noonmark/label"
	"noonmark/ledger"
)

const edge = 1 << 40

func config() fleet.Config {
	c := core.Config{Width: 10, Policy: 0, Most: 1000, Lag: 100, Rho: 0, Trust: 2, Agents: 3, Cells: 16, Hold: 8}
	return fleet.Config{Options: gate.Options{Config: c, Period: 1000, Probes: 4, Segment: 4096, Save: 1000}, Buffer: 20, Packets: 50}
}

func start(t *testing.T, c fleet.Config) *fleet.Fleet {
	t.Helper()
	f, e := fleet.New(c)
	if e != api.OK {
		t.Fatal(e)
	}
	return f
}

func at(now int64) fleet.Entry { return fleet.Entry{Kind: fleet.KTime, Now: now} }

func measure(agent, reading, value int64, series string) fleet.Entry {
	s, _ := label.Parse(series)
	return fleet.Entry{Kind: fleet.KMeasure, Agent: agent, Reading: reading, Value: value, Series: s}
}

// run executes entries; all frames arrive.
func run(t *testing.T, f *fleet.Fleet, list ...fleet.Entry) {
	t.Helper()
	for i, e := range f.Run(list...) {
		if e != api.OK {
			t.Fatal(i, list[i], e)
		}
	}
}

// step lets an agent send at a reading, and all frames arrive there and back.
func step(t *testing.T, f *fleet.Fleet, agent, reading int64) {
	t.Helper()
	run(t, f, fleet.Entry{Kind: fleet.KStep, Agent: agent, Reading: reading})
	for range 2 {
		for _, n := range f.Wire().Flying() {
			f.Do(fleet.Entry{Kind: fleet.KArrive, Number: n, Reading: reading})
		}
		run(t, f, fleet.Entry{Kind: fleet.KSync})
	}
}

// joined lets an agent have an epoch and a clock with a sample.
func joined(t *testing.T, f *fleet.Fleet, agent, reading int64) {
	t.Helper()
	run(t, f, fleet.Entry{Kind: fleet.KBoot, Agent: agent, Boot: 1})
	step(t, f, agent, reading)
	run(t, f, fleet.Entry{Kind: fleet.KTick})
	step(t, f, agent, reading)
	step(t, f, agent, reading)
}

func look(t *testing.T, f *fleet.Fleet, rho int64, want Look) {
	t.Helper()
	if l := Of(f, rho); l != want {
		t.Errorf("%+v %+v", l, want)
	}
}

func TestP28_1Empty(t *testing.T) {
	f := start(t, config())
	for _, rho := range []int64{0, 100000, -1, 100001, math.MinInt64} {
		look(t, f, rho, Look{})
		right := rho >= 0 && rho <= 100000
		if !Clean(f, rho) || Honest(f, rho, 3, 1) != right || Honest(f, rho, -5, 0) != right || Honest(f, rho, 99, math.MaxInt64) != right {
			t.Error(rho)
		}
	}
	if Window(f, 10, 0, "m") != (Count{}) {
		t.Error("window")
	}
	if c, ok := Emitted(f, 0, "m"); ok || c != (cell.Cell{}) {
		t.Error(c, ok)
	}
}

func TestP28_1Of(t *testing.T) {
	c := config()
	c.Rho = 10000
	f := start(t, c)
	joined(t, f, 3, 1000)
	run(t, f, at(5), measure(3, 1005, 7, "m"), measure(3, 1005, 8, "m"), at(9))
	look(t, f, 10000, Look{Facts: 2, Honest: 2})
	step(t, f, 3, 1009)
	want := Look{Facts: 2, Told: 2, Honest: 2, Spanned: 2}
	look(t, f, 10000, want)
	// For another rate, or none, the facts may not be honest.
	look(t, f, 0, want)
	look(t, f, -1, Look{Facts: 2, Told: 2})
	look(t, f, 100001, Look{Facts: 2, Told: 2})
	// The clock goes much too fast: the whole boot isn't honest.
	run(t, f, at(20), measure(3, 1100, 1, "m"))
	look(t, f, 10000, Look{Facts: 3, Told: 2})
	if Honest(f, 10000, 3, 1) || !Honest(f, 10000, 3, 2) || Clean(f, 10000) {
		t.Error("honest")
	}
}

func TestP28_1Lies(t *testing.T) {
	// Events of a clock that jumps: by the rate of 100,000 they would be honest if it were the fleet's own.
	c := config()
	c.Rho = 0
	f := start(t, c)
	joined(t, f, 3, 0)
	run(t, f, at(60), measure(3, 65, 1, "m"), measure(3, 65, 2, "m"))
	step(t, f, 3, 65)
	look(t, f, 100000, Look{Facts: 2, Told: 2, Honest: 2, Lost: 2})
	look(t, f, 0, Look{Facts: 2, Told: 2})
	f = start(t, c)
	joined(t, f, 3, 0)
	run(t, f, at(60), measure(3, 55, 1, "m"))
	step(t, f, 3, 55)
	look(t, f, 100000, Look{Facts: 1, Told: 1, Honest: 1, Spanned: 1, Outside: 1})
}

func TestP28_1Late(t *testing.T) {
	f := start(t, config())
	joined(t, f, 3, 0)
	run(t, f, at(50), measure(3, 50, 1, "m"), at(200), fleet.Entry{Kind: fleet.KTick})
	step(t, f, 3, 200)
	said, _ := f.Of(f.Facts()[0].Id)
	if said.Verdict.Reason != ledger.VLate || !f.Lagged(3) {
		t.Error(said)
	}
	look(t, f, 0, Look{Facts: 1, Told: 1, Honest: 1, Spanned: 1})
	if Clean(f, 0) {
		t.Error("an agent with a fact lagged")
	}
}

func TestP28_1LateThoughNotBehind(t *testing.T) {
	// Agent 3's clock jumps by less than a rate of 100,000 allows, and more than the fleet's. While it is held, the watermark goes on without it.
	c := config()
	c.Trust, c.Lag, c.Period = 3, 1000, 20
	f := start(t, c)
	joined(t, f, 3, 0)
	joined(t, f, 1, 0)
	run(t, f, at(100), measure(3, 105, 1, "m"), fleet.Entry{Kind: fleet.KTick})
	lose := func() {
		for _, n := range f.Wire().Flying() {
			p, _ := f.Wire().Of(n)
			if x, _ := frame.Decode(p.Bytes); p.Agent == 3 && x.Kind == frame.FBatch {
				run(t, f, fleet.Entry{Kind: fleet.KLose, Number: n})
			}
		}
	}
	for now := int64(100); now <= 180; now += 20 {
		run(t, f, at(now), fleet.Entry{Kind: fleet.KTick})
		for _, id := range []int64{1, 3} {
			reading := now + 5*(id/3)
			for _, n := range f.Wire().For(false, id) {
				f.Do(fleet.Entry{Kind: fleet.KArrive, Number: n, Reading: reading})
			}
			run(t, f, fleet.Entry{Kind: fleet.KStep, Agent: id, Reading: reading})
			lose()
			for _, n := range f.Wire().For(true, id) {
				f.Do(fleet.Entry{Kind: fleet.KArrive, Number: n})
			}
		}
		run(t, f, fleet.Entry{Kind: fleet.KTick})
	}
	step(t, f, 3, 185)
	said, ok := f.Of(f.Facts()[0].Id)
	if !ok || said.Verdict.Reason != ledger.VLate || f.Lagged(3) {
		t.Fatal(said, ok, f.Lagged(3))
	}
	look(t, f, 100000, Look{Facts: 1, Told: 1, Honest: 1, Spanned: 1, Late: 1})
	look(t, f, 0, Look{Facts: 1, Told: 1})
}

func TestP28_1Forged(t *testing.T) {
	f := start(t, config())
	joined(t, f, 3, 0)
	run(t, f, at(5), measure(3, 5, 1, "m"))
	step(t, f, 3, 5)
	if !Clean(f, 0) || !Honest(f, 0, 3, 1) {
		t.Error("clean")
	}
	run(t, f, fleet.Entry{Kind: fleet.KForge, Agent: 4, Bytes: []byte("x")})
	look(t, f, 0, Look{Facts: 1, Told: 1, Honest: 1, Spanned: 1})
	if Clean(f, 0) || Honest(f, 0, 4, 1) || !Honest(f, 0, 3, 1) {
		t.Error("an agent was forged")
	}
	run(t, f, fleet.Entry{Kind: fleet.KForge, Agent: 3})
	look(t, f, 0, Look{Facts: 1, Told: 1})
}

func TestP28_2Clean(t *testing.T) {
	c := config()
	c.Cells = 1
	f := start(t, c)
	joined(t, f, 3, 0)
	joined(t, f, 1, 0)
	run(t, f, at(300), fleet.Entry{Kind: fleet.KTick})
	if !f.Lagged(1) || !Clean(f, 0) {
		t.Error("an agent without a fact may lag")
	}
	f = start(t, c)
	joined(t, f, 3, 0)
	run(t, f, at(5), measure(3, 5, 1, "m"), measure(3, 5, 1, "n"))
	step(t, f, 3, 5)
	if said, _ := f.Of(f.Facts()[1].Id); said.Verdict.Reason != ledger.VFull || Clean(f, 0) {
		t.Error("a verdict is VFull")
	}
	c.Cells = 16
	f = start(t, c)
	joined(t, f, 3, 0)
	run(t, f, at(5), measure(3, 5, 1, "m"), measure(3, 5, 2, "m"))
	run(t, f, fleet.Entry{Kind: fleet.KStep, Agent: 3, Reading: 5})
	for _, n := range f.Wire().Flying() {
		run(t, f, fleet.Entry{Kind: fleet.KLose, Number: n})
	}
	look(t, f, 0, Look{Facts: 2, Honest: 2})
	if !Clean(f, 0) {
		t.Error("what wasn't told is clean")
	}
}

func TestP28_2Stale(t *testing.T) {
	f := start(t, config())
	joined(t, f, 3, 0)
	b, _ := frame.Encode(frame.Frame{Head: frame.Head{Kind: frame.FBatch, Agent: 3, Epoch: 1}, Next: 1, Events: []frame.Event{{Stamp: 5, Series: label.Series{Name: "m"}}}})
	run(t, f, at(5), measure(3, 5, 1, "m"), measure(3, 5, 2, "m"))
	run(t, f, fleet.Entry{Kind: fleet.KForge, Agent: 3, Bytes: b})
	n := f.Wire().Next() - 1
	run(t, f, fleet.Entry{Kind: fleet.KArrive, Number: n}, fleet.Entry{Kind: fleet.KBoot, Agent: 3, Boot: 2})
	step(t, f, 3, 5)
	if said, ok := f.Of(f.Facts()[1].Id); !ok || said.Verdict.Reason != ledger.VStale || Clean(f, 0) {
		t.Error(said, ok)
	}
	look(t, f, 0, Look{Facts: 2, Told: 1})
}

func TestP28_2Window(t *testing.T) {
	f := start(t, config())
	joined(t, f, 3, 0)
	run(t, f, at(5), measure(3, 5, 1, "m"), at(12), measure(3, 12, 2, "m"), measure(3, 12, 3, "m{a=1}"), at(19), measure(3, 19, 4, "m"), at(25))
	for i, want := range []Count{{1, 0, 0}, {2, 0, 0}, {}, {}} {
		if n := Window(f, 10, int64(i), "m"); n != want {
			t.Error(i, n)
		}
	}
	step(t, f, 3, 25)
	for i, c := range []struct {
		width, window int64
		series        string
		want          Count
	}{
		{10, 0, "m", Count{1, 1, 1}}, {10, 1, "m", Count{2, 2, 2}}, {10, 1, "m{a=1}", Count{1, 1, 1}}, {10, 2, "m", Count{}}, {10, 1, "n", Count{}}, {10, 1, "", Count{}},
		{20, 0, "m", Count{3, 3, 1}}, {edge, 0, "m", Count{3, 3, 1}}, {1, 12, "m", Count{1, 1, 0}}, {0, 0, "m", Count{}}, {-1, 0, "m", Count{}}, {edge + 1, 0, "m", Count{}}, {10, -1, "m", Count{}},
	} {
		if n := Window(f, c.width, c.window, c.series); n != c.want {
			t.Error(i, n)
		}
	}
}

func TestP28_2Emitted(t *testing.T) {
	f := start(t, config())
	joined(t, f, 3, 0)
	run(t, f, at(5), measure(3, 5, 1, "m"), at(12), measure(3, 12, 2, "m"), measure(3, 14, 3, "m{a=1}"), at(40))
	step(t, f, 3, 40)
	if _, ok := Emitted(f, 0, "m"); ok {
		t.Error("open")
	}
	run(t, f, fleet.Entry{Kind: fleet.KTick})
	step(t, f, 3, 40)
	for i, c := range []struct {
		window int64
		series string
		count  int64
		ok     bool
	}{{0, "m", 1, true}, {1, "m", 1, true}, {1, "m{a=1}", 1, true}, {2, "m", 0, false}, {0, "m{a=1}", 0, false}, {0, "", 0, false}, {math.MinInt64, "m", 0, false}} {
		got, ok := Emitted(f, c.window, c.series)
		if ok != c.ok || got.Count != c.count || !ok && got != (cell.Cell{}) {
			t.Error(i, got, ok)
		}
	}
	if c, _ := Emitted(f, 1, "m"); c.Sum.Lo != 2 {
		t.Error(c)
	}
}
