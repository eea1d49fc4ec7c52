package core

import (
	"bytes"
	"math/rand"
	"reflect"
	"testing"

	"noonmark/api"
	"noonmark/cell"
	"noonmark/clock"
	"noonmark/frame"
	"noonmark/ledger"
	"noonmark/shelf"
)

// watch is what is known of the effects of a run.
type watch struct {
	verdicts map[ledger.Id]ledger.Verdict
	values   map[ledger.Id]int64
	emitted  map[shelf.Key]cell.Cell
	tallies  map[shelf.Key]cell.Cell
	counted  map[shelf.Key][]int64
	names    map[ledger.Id]string
	number   int64
}

func newWatch() *watch {
	return &watch{map[ledger.Id]ledger.Verdict{}, map[ledger.Id]int64{}, map[shelf.Key]cell.Cell{}, map[shelf.Key]cell.Cell{}, map[shelf.Key][]int64{}, map[ledger.Id]string{}, 0}
}

// see holds effects against all effects before.
func (w *watch) see(t *testing.T, effects []Effect) {
	t.Helper()
	for _, e := range effects {
		switch e.Kind {
		case EVerdict:
			if _, there := w.verdicts[e.Id]; there {
				t.Fatal("a second verdict", e)
			}
			w.verdicts[e.Id] = e.Verdict
			if e.Verdict.Reason == ledger.VCounted {
				k := shelf.Key{Window: e.Verdict.Window, Series: w.names[e.Id]}
				if _, there := w.emitted[k]; there {
					t.Fatal("counted after the emission", e)
				}
				w.counted[k] = append(w.counted[k], w.values[e.Id])
			}
		case EAck:
			for n := range e.Next {
				if _, there := w.verdicts[ledger.Id{Agent: e.Agent, Epoch: e.Epoch, Seq: n}]; !there {
					t.Fatal("no verdict", n, e)
				}
			}
		case EEmit:
			if _, there := w.emitted[e.Out.Key]; there || e.Number != w.number {
				t.Fatal("a second emission", e)
			}
			w.number++
			want := cell.Fold(w.counted[e.Out.Key]...)
			want.Certain, want.Possible = e.Out.Certain, e.Out.Possible
			if e.Out.Cell != want {
				t.Fatal("no fold", e)
			}
			w.emitted[e.Out.Key] = e.Out.Cell
		}
	}
}

// source is an agent whose clock jumps now and then.
type source struct {
	id, epoch, boot, ahead int64
	events                 []frame.Event
}

func (o *source) event(r *rand.Rand, now int64) {
	e := ev(max(0, now+o.ahead), r.Int63n(100)-50)
	e.Series.Name = []string{"m", "n"}[r.Intn(2)]
	if r.Intn(20) == 0 {
		e.Stamp = max(0, e.Stamp-30)
	}
	o.events = append(o.events, e)
}

// record is something that a source makes happen.
func (o *source) record(r *rand.Rand, now int64, w *watch) Record {
	epoch := o.epoch
	if r.Intn(15) == 0 {
		epoch = 1 + r.Int63n(3)
	}
	if r.Intn(40) == 0 {
		o.ahead += r.Int63n(80) - 20
	}
	switch n := r.Intn(8); {
	case n < 2:
		back := r.Int63n(5)
		at := max(0, now-back+o.ahead)
		return sample(o.id, max(1, epoch), clock.Sample{Asked: max(0, now-back-2), Got: at, Sent: at, Came: now})
	case n == 2:
		return beat(o.id, max(1, epoch), int64(len(o.events)), max(0, now+o.ahead), now)
	case n == 3 && r.Intn(6) == 0:
		return grant(o.id, max(1, o.boot+r.Int63n(3)-1), now)
	}
	for range r.Intn(3) {
		o.event(r, now)
	}
	first := len(o.events) - r.Intn(8)
	if first < 0 || first >= len(o.events) {
		return tick(now)
	}
	last := min(len(o.events), first+1+r.Intn(4))
	for i := first; i < last; i++ {
		id := ledger.Id{Agent: o.id, Epoch: epoch, Seq: int64(i)}
		if epoch == o.epoch {
			w.values[id], w.names[id] = o.events[i].Value, o.events[i].Series.Name
		}
	}
	if epoch != o.epoch {
		epoch = 1 << 40 // an epoch that there never is: no two events share an id
	}
	return batch(o.id, max(1, epoch), int64(first), now, o.events[first:last]...)
}

func TestP24_5Random(t *testing.T) {
	reasons := ledger.Tally{}
	for seed := range int64(60) {
		r := rand.New(rand.NewSource(seed))
		c := Config{Width: 7, Policy: int(seed % 4), Most: 12, Lag: 60, Rho: 1000 * (seed % 3), Trust: 2, Agents: 3, Cells: 12, Hold: 6}
		s, w, now := start(t, c), newWatch(), int64(0)
		other := s.Clone()
		sources := []*source{{id: 0}, {id: 5, ahead: 40}, {id: 63, ahead: 1000}}
		for i := range 700 {
			now += r.Int63n(4)
			o := sources[r.Intn(len(sources))]
			record := tick(now)
			if r.Intn(5) > 0 {
				record = o.record(r, now, w)
			}
			if o.boot == 0 {
				record = grant(o.id, 1, now)
			}
			effects, e := s.Apply(record)
			twins, f := other.Apply(record)
			if e != f || !reflect.DeepEqual(effects, twins) {
				t.Fatal("a parsed state behaves otherwise", record, e, f)
			}
			w.see(t, effects)
			for _, x := range effects {
				if x.Kind == EGrant && x.Epoch != o.epoch {
					o.epoch, o.boot, o.events = x.Epoch, x.Boot, nil
				}
			}
			if i%20 == 0 {
				p, e := Parse(c, s.Bytes())
				if e != api.OK || !bytes.Equal(p.Bytes(), s.Bytes()) {
					t.Fatal("parse", e)
				}
				other = p
			}
		}
		for _, v := range w.verdicts {
			reasons[v.Reason]++
		}
	}
	for reason, n := range reasons {
		if n == 0 {
			t.Error("never seen", reason, reasons)
		}
	}
}
