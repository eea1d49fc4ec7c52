package whole

import (
	"testing"

	"noonmark/frame"
	"noonmark/label"
	"noonmark/ledger"
	"noonmark/probe"
	"noonmark/truth"
)

// invented returns a frame in an agent's name that it may never have sent.
func (w *world) invented(id int64) []byte {
	a := w.f.Agent(id)
	f := frame.Frame{Head: frame.Head{Agent: id, Epoch: a.Epoch()}}
	switch w.r.Intn(4) {
	case 0:
		f.Kind, f.Epoch, f.Boot = frame.FHello, 0, a.Boot()+w.r.Int63n(3)
	case 1:
		n := probe.Nonce{Boot: w.f.State().Boots(), Count: w.r.Int63n(200)}
		f.Kind, f.Boot, f.Count, f.Got = frame.FReply, n.Boot, n.Count, w.r.Int63n(1000)
		f.Sent = f.Got + w.r.Int63n(100)
	case 2:
		f.Kind, f.Next = frame.FBatch, a.First()+w.r.Int63n(5)
		f.Events = []frame.Event{{Stamp: max(0, a.Clock()+w.r.Int63n(50)-25), Value: 1, Series: label.Series{Name: "m"}}}
	case 3:
		f.Kind, f.Next, f.Stamp = frame.FBeat, a.Seq()+w.r.Int63n(2), a.Clock()+w.r.Int63n(40)
	}
	b, _ := frame.Encode(f)
	return b
}

// noLies checks that nothing that is honest was told wrongly.
func (w *world) noLies() {
	w.t.Helper()
	if l := truth.Of(w.f, w.c.Rho); l.Outside != 0 || l.Late != 0 || l.Lost != 0 {
		w.t.Fatalf("%+v", l)
	}
}

// cells checks that the cells of all emissions hold as many facts as they say, if the fleet is clean.
func (w *world) cells() int {
	w.t.Helper()
	if !truth.Clean(w.f, w.c.Rho) {
		return 0
	}
	sunk := w.f.Sink()
	for _, b := range sunk {
		f, _ := frame.Decode(b)
		series := f.Series.Text()
		c, ok := truth.Emitted(w.f, f.Window, series)
		n := truth.Window(w.f, w.c.Width, f.Window, series)
		if told := int64(n.Told); !ok || told < c.Certain || told > c.Certain+c.Possible || int64(n.In) != c.Count {
			w.t.Fatal(f.Window, series, c, n)
		}
	}
	return len(sunk)
}

func TestP28_3Random(t *testing.T) {
	emitted, spanned := 0, 0
	for seed := range int64(60) {
		rho := []int64{0, 100, 10000, 100000}[seed%4]
		w := newWorld(t, seed, config(rho, int(seed/4)%4), 1+int(seed%4))
		var forged []int64
		if seed%3 == 2 {
			forged = []int64{int64(len(w.watches) - 1)}
		}
		for i := range 2000 {
			w.chaos(50*int(seed%2), 20*int(seed%3), forged)
			if i%250 == 0 {
				w.noLies()
			}
		}
		w.noLies()
		emitted += w.cells()
		spanned += truth.Of(w.f, rho).Spanned
	}
	if emitted < 500 || spanned < 2000 {
		t.Error(emitted, spanned)
	}
}

func TestP28_3Small(t *testing.T) {
	// Little room, and a short lag: verdicts of all reasons, and yet no honest fact is told wrongly.
	var tally ledger.Tally
	for seed := range int64(60) {
		c := config(10000, int(seed%4))
		c.Lag, c.Most, c.Cells, c.Hold, c.Save = 60, 20, 6, 8, 10
		c.Buffer, c.Packets, c.Probes = 10, 30, 4
		w := newWorld(t, 100+seed, c, 3)
		for range 1500 {
			w.chaos(60, 30, []int64{2})
			if w.r.Intn(15) == 0 {
				w.forge(2)
			}
		}
		w.noLies()
		w.cells()
		for _, said := range w.f.Verdicts() {
			tally[said.Verdict.Reason]++
		}
	}
	for reason, n := range tally {
		if n == 0 {
			t.Error("never seen", reason, tally)
		}
	}
}
