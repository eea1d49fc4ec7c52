package whole

import (
	"math/rand"
	"slices"
	"testing"

	"noonmark/api"
	"noonmark/core"
	"noonmark/fleet"
	"noonmark/gate"
	"noonmark/label"
)

// config is one in which no capacity is ever exceeded.
func config(rho int64, policy int) fleet.Config {
	c := core.Config{Width: 10, Policy: policy, Most: 1000, Lag: 500, Rho: rho, Trust: 3, Agents: 64, Cells: 1024, Hold: 256}
	return fleet.Config{Options: gate.Options{Config: c, Period: 20, Probes: 1024, Segment: 4096, Save: 50}, Buffer: 1024, Packets: 4096}
}

// watch is a clock that drifts by a rate that changes now and then, and never by more than rho.
type watch struct {
	rho, rate, now, micro int64
}

// read returns the reading at a true time that isn't below the one before.
func (w *watch) read(r *rand.Rand, now int64) int64 {
	w.micro += (now - w.now) * (api.Million + w.rate)
	w.now = now
	if w.rho > 0 && r.Intn(10) == 0 {
		w.rate = r.Int63n(2*w.rho+1) - w.rho
	}
	return w.micro / api.Million
}

// world is a fleet whose agents' clocks are honest, and the entries that made it.
type world struct {
	t       *testing.T
	r       *rand.Rand
	f       *fleet.Fleet
	c       fleet.Config
	watches []*watch
	script  []fleet.Entry
	errs    []api.Errno
}

func newWorld(t *testing.T, seed int64, c fleet.Config, agents int) *world {
	f, e := fleet.New(c)
	if e != api.OK {
		t.Fatal(e)
	}
	w := &world{t: t, r: rand.New(rand.NewSource(seed)), f: f, c: c}
	for id := range int64(agents) {
		w.watches = append(w.watches, nil)
		w.boot(id)
	}
	return w
}

func (w *world) do(e fleet.Entry) api.Errno {
	err := w.f.Do(e)
	w.script, w.errs = append(w.script, e), append(w.errs, err)
	return err
}

// boot starts an agent, whose clock then shows another time.
func (w *world) boot(id int64) {
	w.watches[id] = &watch{rho: w.c.Rho, now: w.f.Now(), micro: w.r.Int63n(1<<40) * int64(w.r.Intn(2))}
	w.do(fleet.Entry{Kind: fleet.KBoot, Agent: id, Boot: w.f.Agent(id).Boot() + 1})
}

func (w *world) reading(id int64) int64 { return w.watches[id].read(w.r, w.f.Now()) }

func (w *world) time(by int64) { w.do(fleet.Entry{Kind: fleet.KTime, Now: w.f.Now() + by}) }

func (w *world) step(id int64) {
	w.do(fleet.Entry{Kind: fleet.KStep, Agent: id, Reading: w.reading(id)})
}

func (w *world) measure(id int64) {
	s := label.Series{Name: []string{"m", "n"}[w.r.Intn(2)]}
	w.do(fleet.Entry{Kind: fleet.KMeasure, Agent: id, Reading: w.reading(id), Value: w.r.Int63n(2000) - 1000, Series: s})
}

// arrive lets some packets arrive, in any order; early ones more often.
func (w *world) arrive(n int) {
	wire := w.f.Wire()
	flying := wire.Flying()
	for range min(n, len(flying)) {
		i := w.r.Intn(min(len(flying), 1+w.r.Intn(8)))
		p, _ := wire.Of(flying[i])
		w.land(flying[i], p.Up, p.Agent)
		flying = slices.Delete(flying, i, i+1)
	}
}

// land lets a packet arrive.
func (w *world) land(n int64, up bool, agent int64) {
	e := fleet.Entry{Kind: fleet.KArrive, Number: n}
	if !up && agent < int64(len(w.watches)) {
		e.Reading = w.reading(agent)
	}
	w.do(e)
}

func (w *world) tick()  { w.do(fleet.Entry{Kind: fleet.KTick}) }
func (w *world) sync()  { w.do(fleet.Entry{Kind: fleet.KSync}) }
func (w *world) sink()  { w.do(fleet.Entry{Kind: fleet.KSink}) }
func (w *world) crash() { w.do(fleet.Entry{Kind: fleet.KCrash, Keep: w.r.Intn(w.f.Pending() + 1)}) }

// forge sends bytes in an agent's name: noise, or what is or was on the wire, or a frame that is made up.
func (w *world) forge(id int64) {
	b := make([]byte, w.r.Intn(20))
	w.r.Read(b)
	if flying := w.f.Wire().Flying(); w.r.Intn(3) > 0 && len(flying) > 0 {
		p, _ := w.f.Wire().Of(flying[w.r.Intn(len(flying))])
		b = p.Bytes
	} else if w.r.Intn(4) > 0 {
		b = w.invented(id)
	}
	w.do(fleet.Entry{Kind: fleet.KForge, Agent: id, Bytes: b})
}

// some returns one of the packets on the wire, early ones more often.
func (w *world) some() int64 {
	flying := w.f.Wire().Flying()
	if len(flying) == 0 {
		return -1
	}
	return flying[w.r.Intn(min(len(flying), 1+w.r.Intn(8)))]
}

// chaos is one step of a run in which frames are lost, doubled and late, and all may crash.
func (w *world) chaos(losses, crashes int, forged []int64) {
	id := int64(w.r.Intn(len(w.watches)))
	switch n := w.r.Intn(24); {
	case n < 3:
		w.time(w.r.Int63n(7))
	case n < 6:
		w.measure(id)
	case n < 9:
		w.step(id)
	case n < 16:
		w.arrive(1 + w.r.Intn(4))
	case n < 19:
		w.tick()
	case n < 22:
		w.sync()
	case n == 22:
		w.sink()
	default:
		w.trouble(id, losses, crashes, forged)
	}
}

// trouble is what doesn't happen to all runs, so many times of a hundred.
func (w *world) trouble(id int64, losses, crashes int, forged []int64) {
	often := w.r.Intn(100)
	switch w.r.Intn(5) {
	case 0:
		if len(forged) > 0 {
			w.forge(forged[w.r.Intn(len(forged))])
		}
	case 1:
		if often < losses {
			w.do(fleet.Entry{Kind: fleet.KLose, Number: w.some()})
		}
	case 2:
		if often < losses {
			w.do(fleet.Entry{Kind: fleet.KDouble, Number: w.some()})
		}
	case 3:
		if often < crashes {
			w.crash()
		}
	case 4:
		if often < crashes {
			w.boot(id)
		}
	}
}
