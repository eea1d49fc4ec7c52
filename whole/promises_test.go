package whole

import (
	"fmt"
	"slices"
	"testing"

	"noonmark/api"
	"noonmark/cell"
	"noonmark/clock"
	"noonmark/code"
	"noonmark/drift"
	"noonmark/fleet"
	"noonmark/frame"
	"noonmark/grid"
	"noonmark/label"
	"noonmark/ledger"
	"noonmark/shelf"
	"noonmark/tale"
	"noonmark/truth"
	"noonmark/wide"
)

// trusted checks that no clock of an honest boot is held.
func (w *world) trusted() {
	s := w.f.State()
	for id := range int64(len(w.watches)) {
		if a, known := s.Agent(id); known && a.Held && truth.Honest(w.f, w.c.Rho, id, a.Boot) {
			w.t.Fatal("held", id, a)
		}
	}
}

// acknowledged checks that what an agent no longer keeps has a verdict, and that what is counted is so by the policy.
func (w *world) acknowledged() {
	for id := range int64(len(w.watches)) {
		a := w.f.Agent(id)
		for n := range a.First() {
			if _, ok := w.f.Of(ledger.Id{Agent: id, Epoch: a.Epoch(), Seq: n}); !ok {
				w.t.Fatal("no verdict", id, n)
			}
		}
	}
	g, _ := grid.New(w.c.Width, w.c.Policy, w.c.Most)
	for id, said := range w.f.Verdicts() {
		if v := said.Verdict; v.Reason == ledger.VCounted {
			if window, e := g.Pick(said.Span); e != api.OK || window != v.Window {
				w.t.Fatal("another window", id, said)
			}
		}
	}
}

// folds checks that each cell that was emitted is the fold of what was counted in it; nothing may be forged.
func (w *world) folds() {
	values := map[shelf.Key][]int64{}
	for _, x := range w.f.Facts() {
		if said, ok := w.f.Of(x.Id); ok && said.Verdict.Reason == ledger.VCounted {
			k := shelf.Key{Window: said.Verdict.Window, Series: x.Event.Series.Text()}
			values[k] = append(values[k], x.Event.Value)
		}
	}
	seen := map[shelf.Key]int{}
	for _, b := range w.f.Sink() {
		f, _ := frame.Decode(b)
		k := shelf.Key{Window: f.Window, Series: f.Series.Text()}
		c, e := cell.Back(f.Data)
		want := cell.Fold(values[k]...)
		want.Certain, want.Possible = c.Certain, c.Possible
		if seen[k]++; e != api.OK || seen[k] > 1 || c != want {
			w.t.Fatal(k, c, want)
		}
	}
}

func TestP2P3P4Chaos(t *testing.T) {
	for seed := range int64(40) {
		w := newWorld(t, 200+seed, config([]int64{0, 50, 10000, 100000}[seed%4], int(seed/4)%4), 3)
		var forged []int64
		if seed%2 == 1 {
			forged = []int64{1}
		}
		for i := range 1500 {
			w.chaos(60, 30, forged)
			if i%100 == 0 {
				w.trusted()
				w.acknowledged()
			}
		}
		w.noLies()
		w.trusted()
		w.acknowledged()
		if len(forged) == 0 {
			w.folds()
		}
	}
}

// samples returns the samples of each agent's clock, out of the state's encoding.
func (w *world) samples() map[int64][]clock.Sample {
	r := code.New(w.f.State().Bytes())
	long := func() int64 { return int64(r.Uint()) }
	skip := func(n int) {
		for range n {
			r.Uint()
		}
	}
	list := map[int64][]clock.Sample{}
	skip(5)
	for range r.Count(api.MaxAgents) {
		agent := long()
		skip(8)
		for range r.Count(api.MaxSamples) {
			list[agent] = append(list[agent], clock.Sample{Asked: long(), Got: long(), Sent: long(), Came: long()})
		}
		skip(1)
		for range r.Count(api.MaxHold) {
			skip(3)
			label.Read(r)
		}
	}
	if r.Err() != api.OK {
		w.t.Fatal("encoding", r.Err())
	}
	return list
}

// narrow checks the width of the interval of an agent's clock by each of its samples, and tells whether there are some.
func (w *world) narrow() bool {
	seen := false
	for agent, list := range w.samples() {
		stamp := w.f.Agent(agent).Clock()
		x, e := w.f.State().At(agent, stamp)
		if e != api.OK {
			continue
		}
		for _, s := range list {
			far := max(stamp-s.Got, s.Got-stamp, stamp-s.Sent, s.Sent-stamp)
			slack, _ := drift.Slack(far, w.c.Rho)
			if int64(x.Width()) > s.Trip()+2*slack+4 {
				w.t.Fatal("wide", agent, stamp, x, s)
			}
			seen = true
		}
	}
	return seen
}

func TestP2Width(t *testing.T) {
	seen := 0
	for seed := range int64(12) {
		w := newWorld(t, 800+seed, config([]int64{0, 100, 10000, 100000}[seed%4], 0), 3)
		for range 800 {
			w.chaos(30, 10, nil)
			if w.narrow() {
				seen++
			}
		}
	}
	if seen < 3000 {
		t.Error(seen)
	}
}

func TestP5SaveDoesNotMatter(t *testing.T) {
	for seed := range int64(12) {
		c := config(10000, int(seed%4))
		c.Lag = 60
		w := newWorld(t, 300+seed, c, 3)
		for range 1200 {
			w.chaos(60, 0, []int64{2})
		}
		text, ok := tale.Show(w.script...)
		if !ok {
			t.Fatal("no script")
		}
		want := tale.Report(w.f)
		for _, save := range []int{1, 7, 1 << 20} {
			c.Save = save
			if report, _, e := tale.Play(c, text); report != want || e != api.OK || want == "" {
				t.Fatal(seed, save, e)
			}
		}
	}
}

func TestP5Crashes(t *testing.T) {
	for seed := range int64(20) {
		c := config(10000, int(seed%4))
		c.Save = 1 + int(seed)*5
		w := newWorld(t, 400+seed, c, 3)
		for range 60 {
			for range 25 {
				w.chaos(60, 0, nil)
			}
			verdicts := map[ledger.Id]fleet.Said{}
			for id, said := range w.f.Verdicts() {
				verdicts[id] = said
			}
			sunk := w.f.Sink()
			w.crash()
			for id, said := range verdicts {
				if now, ok := w.f.Of(id); !ok || now != said {
					t.Fatal("a verdict", id, now, said)
				}
			}
			if now := w.f.Sink(); !slices.EqualFunc(sunk, now[:len(sunk)], slices.Equal) {
				t.Fatal("an emission")
			}
		}
		w.noLies()
		w.folds()
	}
}

// inTime checks that each fact whose window has closed has its verdict.
func (w *world) inTime() {
	g, _ := grid.New(w.c.Width, w.c.Policy, w.c.Most)
	open := g.Window(w.f.State().Value())
	for _, x := range w.f.Facts() {
		if _, ok := w.f.Of(x.Id); !ok && g.Window(x.True) < open {
			w.t.Fatal("closed without a verdict", x)
		}
	}
	for _, b := range w.f.Sink() {
		f, _ := frame.Decode(b)
		c, _ := cell.Back(f.Data)
		n := int64(truth.Window(w.f, w.c.Width, f.Window, f.Series.Text()).True)
		if n < c.Certain || n > c.Certain+c.Possible {
			w.t.Fatal("tallies", f.Window, n, c)
		}
	}
}

func TestP6NothingIsLost(t *testing.T) {
	emitted := 0
	for seed := range int64(30) {
		w := newWorld(t, 500+seed, config([]int64{0, 10000, 100000}[seed%3], int(seed%4)), 1+int(seed%4))
		for i := range 1500 {
			w.chaos(60, 0, nil)
			w.arrive(w.r.Intn(3))
			if i%10 == 0 && seed%2 == 0 && w.r.Intn(5) == 0 {
				w.crash()
			}
			if i%50 == 0 {
				w.sync()
				w.inTime()
			}
		}
		for id := range int64(len(w.watches)) {
			if w.f.Lagged(id) {
				t.Fatal("the frames don't get through", seed, id)
			}
		}
		emitted += len(w.f.Sink())
	}
	if emitted < 300 {
		t.Error(emitted)
	}
}

// round is one in which time goes on, all agents step, what is due arrives, and the gate steps and syncs.
func (w *world) round(due map[int64]int64, forged int64) {
	w.time(w.r.Int63n(11))
	for range w.r.Intn(4) {
		w.measure(int64(w.r.Intn(len(w.watches))))
	}
	if forged >= 0 {
		w.forge(forged)
	}
	for id := range int64(len(w.watches)) {
		w.step(id)
	}
	wire := w.f.Wire()
	for _, n := range wire.Flying() {
		p, _ := wire.Of(n)
		if _, there := due[n]; !there {
			due[n] = p.Sent + w.r.Int63n(21)
		}
		if due[n] <= w.f.Now() {
			w.land(n, p.Up, p.Agent)
		}
	}
	w.tick()
	w.sync()
}

// prompt checks that what is to have happened by now has.
func (w *world) prompt(forged int64) {
	now := w.f.Now()
	for id := range int64(len(w.watches)) {
		if id != forged && w.f.Lagged(id) {
			w.t.Fatal("lagged", id)
		}
	}
	emitted := map[shelf.Key]int{}
	for _, b := range w.f.Sink() {
		f, _ := frame.Decode(b)
		emitted[shelf.Key{Window: f.Window, Series: f.Series.Text()}]++
	}
	for _, x := range w.f.Facts() {
		if x.Id.Agent == forged {
			continue
		}
		said, ok := w.f.Of(x.Id)
		if !ok && now-x.True > 250 {
			w.t.Fatal("no verdict in time", x, now)
		}
		k := shelf.Key{Window: said.Verdict.Window, Series: x.Event.Series.Text()}
		if ok && said.Verdict.Reason == ledger.VCounted && now-(k.Window*10+9) > 550 && emitted[k] == 0 {
			w.t.Fatal("no emission in time", x, said, now)
		}
	}
}

func TestP7Liveness(t *testing.T) {
	counted := 0
	for seed := range int64(24) {
		w := newWorld(t, 600+seed, config([]int64{0, 100, 10000}[seed%3], int(seed%4)), 2+int(seed%3))
		forged := int64(-1)
		if seed%2 == 1 {
			forged = int64(w.r.Intn(len(w.watches)))
		}
		due := map[int64]int64{}
		for range 400 {
			w.round(due, forged)
			w.prompt(forged)
		}
		w.noLies()
		counted += len(w.f.Sink())
	}
	if counted < 1000 {
		t.Error(counted)
	}
}

func TestP8AsText(t *testing.T) {
	for seed := range int64(20) {
		c := config(10000, int(seed%4))
		c.Lag, c.Cells, c.Hold = 60, 8, 8
		w := newWorld(t, 700+seed, c, 3)
		for range 1200 {
			w.chaos(60, 40, []int64{2})
		}
		text, ok := tale.Show(w.script...)
		list, line, e := tale.Parse(text)
		again, _ := tale.Show(list...)
		if !ok || line != 0 || e != api.OK || len(list) != len(w.script) || again != text {
			t.Fatal(seed, line, e)
		}
		f, _ := fleet.New(c)
		if !slices.Equal(f.Run(list...), w.errs) {
			t.Fatal("another run", seed)
		}
		report, _, e := tale.Play(c, text)
		if want := tale.Report(w.f); report != want || want == "" || e != api.OK {
			t.Fatal(seed, report, want)
		}
	}
}

func TestP29_3Report(t *testing.T) {
	words := []string{"counted", "late", "held", "wide", "full", "stale", "form"}
	var tally ledger.Tally
	for seed := range int64(60) {
		c := config(10000, int(seed%4))
		c.Lag, c.Most, c.Cells, c.Hold = 60, 20, 6, 8
		w := newWorld(t, 100+seed, c, 3)
		for range 1200 {
			w.chaos(60, 30, []int64{2})
			if w.r.Intn(15) == 0 {
				w.forge(2)
			}
		}
		want := ""
		for id, said := range w.f.Verdicts() {
			tally[said.Verdict.Reason]++
			want += fmt.Sprintln(id.Agent, id.Epoch, id.Seq, words[said.Verdict.Reason], said.Verdict.Window, said.Span.Lo, said.Span.Hi)
		}
		for i, b := range w.f.Sink() {
			f, _ := frame.Decode(b)
			x, _ := cell.Back(f.Data)
			want += fmt.Sprintln("emit", i, f.Window, f.Series.Text(), x.Count, wide.Text(x.Sum), x.Min, x.Max, x.Certain, x.Possible)
		}
		if report := tale.Report(w.f); report != want {
			t.Fatal(report, want)
		}
	}
	for reason, n := range tally {
		if n == 0 {
			t.Error("never seen", reason, tally)
		}
	}
}
