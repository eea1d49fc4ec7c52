package fleet

import (
	"bytes"
	"math/rand"
	"testing"

	"noonmark/api"
	"noonmark/ledger"
)

// entry is something that may happen to three agents, of which the third is forged now and then.
func entry(r *rand.Rand, f *Fleet) Entry {
	agent := r.Int63n(3)
	reading := max(0, f.Now()+agent*500+r.Int63n(2))
	flying := f.Wire().Flying()
	packet := int64(-1)
	if len(flying) > 0 {
		packet = flying[r.Intn(min(len(flying), 4))]
	}
	switch n := r.Intn(40); {
	case n < 4:
		return at(f.Now() + r.Int63n(6))
	case n < 8:
		return measure(agent, reading, r.Int63n(9))
	case n < 14:
		return step(agent, reading)
	case n < 28:
		return arrive(packet, reading)
	case n == 28:
		return Entry{Kind: KLose, Number: packet}
	case n == 29:
		return Entry{Kind: KDouble, Number: packet}
	case n == 30:
		p, _ := f.Wire().Of(packet)
		return forge(2, p.Bytes)
	case n < 34:
		return tick
	case n < 38:
		return sync
	case n == 38:
		return sink
	case r.Intn(3) == 0:
		return Entry{Kind: KCrash, Keep: r.Intn(f.Pending() + 2)}
	}
	return boot(agent, f.Agent(agent).Boot()+int64(r.Intn(2)))
}

func TestP27_3Random(t *testing.T) {
	said, sunk := 0, 0
	for seed := range int64(30) {
		r := rand.New(rand.NewSource(seed))
		c := config()
		c.Save, c.Segment, c.Rho, c.Policy = 1+r.Intn(30), 64<<r.Intn(4), 10000, int(seed%4)
		f := start(t, c)
		verdicts := map[ledger.Id]Said{}
		var emitted [][]byte
		for range 1500 {
			f.Do(entry(r, f))
			for id, s := range f.Verdicts() {
				if old, there := verdicts[id]; there && old != s {
					t.Fatal("a verdict changed", id, old, s)
				}
				verdicts[id] = s
			}
			now := f.Sink()
			for i, b := range emitted {
				if i >= len(now) || !bytes.Equal(b, now[i]) {
					t.Fatal("an emission changed", i)
				}
			}
			emitted = now
		}
		facts := map[ledger.Id]bool{}
		for _, fact := range f.Facts() {
			facts[fact.Id] = true
		}
		for id, s := range verdicts {
			if now, ok := f.Of(id); !ok || now != s {
				t.Fatal("a verdict is gone", id)
			}
			if !f.Forged(id.Agent) && !facts[id] {
				t.Fatal("no fact", id)
			}
		}
		said, sunk = said+len(verdicts), sunk+len(emitted)
	}
	if said < 1000 || sunk < 200 {
		t.Error(said, sunk, api.OK)
	}
}
