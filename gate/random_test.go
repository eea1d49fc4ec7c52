package gate

import (
	"bytes"
	"math/rand"
	"testing"

	"noonmark/agent"
	"noonmark/api"
	"noonmark/core"
	"noonmark/disk"
	"noonmark/frame"
	"noonmark/ledger"
	"noonmark/probe"
)

// world is a gate and agents that show true time, with frames that are lost, doubled and late.
type world struct {
	t        *testing.T
	r        *rand.Rand
	o        Options
	d        *disk.Disk
	g        *Gate
	agents   []*agent.Agent
	now      int64
	up       []Output
	verdicts map[ledger.Id]ledger.Verdict
	emitted  map[int64][]byte
	states   [][]byte // after each record since the last start
	synced   int      // how many of them are synced
	asked    []probe.Nonce
}

func newWorld(t *testing.T, seed int64) *world {
	w := &world{t: t, r: rand.New(rand.NewSource(seed)), o: options(), d: disk.New(), verdicts: map[ledger.Id]ledger.Verdict{}, emitted: map[int64][]byte{}}
	w.o.Segment, w.o.Save, w.o.Policy = 64<<(seed%4), 1+int(seed%7)*5, int(seed%4)
	for id := range int64(3) {
		a, _ := agent.New(id, 20)
		a.Start(1)
		w.agents = append(w.agents, a)
	}
	w.open()
	return w
}

func (w *world) open() {
	g, outputs, e := Open(w.d, w.o)
	if e != api.OK {
		w.t.Fatal(e)
	}
	w.g = g
	w.states, w.synced = [][]byte{g.State().Bytes()}, 1
	w.out(outputs)
}

// record notes the state if a call made a record.
func (w *world) record(e api.Errno) {
	if e == api.OK {
		w.states = append(w.states, w.g.State().Bytes())
	}
}

// out holds outputs against all that left before.
func (w *world) out(outputs []Output) {
	for _, o := range outputs {
		switch o.Kind {
		case OVerdict:
			if v, there := w.verdicts[o.Id]; there && v != o.Verdict {
				w.t.Fatal("another verdict", o, v)
			}
			w.verdicts[o.Id] = o.Verdict
		case OEmit:
			if b, there := w.emitted[o.Number]; there && !bytes.Equal(b, o.Bytes) {
				w.t.Fatal("another emission", o)
			}
			w.emitted[o.Number] = o.Bytes
		case OFrame:
			f, e := frame.Decode(o.Bytes)
			if e != api.OK || f.Agent != o.Agent {
				w.t.Fatal(o, e)
			}
			for n := range f.Next {
				if _, there := w.verdicts[ledger.Id{Agent: f.Agent, Epoch: f.Epoch, Seq: n}]; !there {
					w.t.Fatal("acknowledged without a verdict", f, n)
				}
			}
			if w.r.Intn(5) > 0 {
				w.agents[o.Agent].Take(w.now, o.Bytes)
			}
		}
	}
}

func (w *world) crash() {
	var kept []byte
	before := w.g.Out()
	w.d.Crash(w.r.Intn(w.d.Pending() + 1))
	states, synced := w.states, w.synced
	w.open()
	found := false
	for i := synced - 1; i < len(states); i++ {
		s, e := core.Parse(w.o.Config, states[i])
		if e != api.OK {
			w.t.Fatal(e)
		}
		s.Apply(core.Record{Kind: core.RBoot})
		kept = s.Bytes()
		found = found || bytes.Equal(kept, w.g.State().Bytes())
	}
	if !found {
		w.t.Fatal("no prefix of the records")
	}
	w.asked = append(w.asked, before...)
	for _, n := range w.asked {
		if e := w.g.Take(0, w.now, reply(w.t, 0, 1, n, w.now)); e != api.ErrOld {
			w.t.Fatal("a reply from before", n, e)
		}
	}
}

func (w *world) step() {
	w.now += w.r.Int63n(4)
	a := w.agents[w.r.Intn(3)]
	switch w.r.Intn(16) {
	default:
		a.Measure(w.now, w.r.Int63n(9), m)
	case 0, 1, 2, 3:
		frames, _ := a.Step(w.now)
		for _, b := range frames {
			w.up = append(w.up, Output{Agent: a.Id(), Bytes: b})
		}
	case 4, 5, 6:
		for range min(len(w.up), 1+w.r.Intn(4)) {
			i := w.r.Intn(len(w.up))
			p := w.up[i]
			if w.r.Intn(4) > 0 {
				w.up = append(w.up[:i], w.up[i+1:]...)
			}
			w.record(w.g.Take(p.Agent, w.now, p.Bytes))
		}
	case 7:
		outputs, e := w.g.Step(w.now)
		w.record(e)
		w.out(outputs)
	case 8, 9:
		w.out(w.g.Sync())
		w.synced = len(w.states)
	case 10:
		w.record(w.g.Sunk(int64(len(w.emitted))))
	case 11:
		if w.r.Intn(10) == 0 {
			w.crash()
		} else if w.r.Intn(20) == 0 {
			a.Start(a.Boot() + 1)
		}
	}
}

func TestP25_5Random(t *testing.T) {
	verdicts, emissions := 0, 0
	for seed := range int64(40) {
		w := newWorld(t, seed)
		for range 1500 {
			w.step()
		}
		verdicts += len(w.verdicts)
		emissions += len(w.emitted)
	}
	if verdicts < 1000 || emissions < 200 {
		t.Error(verdicts, emissions)
	}
}
