package mark

import (
	"math"
	"math/rand"
	"reflect"
	"slices"
	"testing"

	"noonmark/api"
)

const (
	top  = api.MaxTime
	edge = 1 << 40
)

func start(t *testing.T, lag int64) *Mark {
	t.Helper()
	m, e := New(lag)
	if e != api.OK {
		t.Fatal(e)
	}
	return m
}

// try makes a call that must return an error, and change something only without one.
func try(t *testing.T, m *Mark, want api.Errno, call func() api.Errno) {
	t.Helper()
	before := m.Clone()
	if e := call(); e != want || e != api.OK && !reflect.DeepEqual(before, m) {
		t.Error(e, want)
	}
}

// agents is how many are registered.
func agents(m *Mark) int {
	n := 0
	for range m.All() {
		n++
	}
	return n
}

func TestP20_1New(t *testing.T) {
	for _, lag := range []int64{0, -1, edge + 1, math.MinInt64, math.MaxInt64} {
		if m, e := New(lag); m != nil || e != api.ErrRange {
			t.Error(lag, e)
		}
	}
	for _, lag := range []int64{1, edge} {
		if m := start(t, lag); m.Now() != 0 || m.Value() != -lag {
			t.Error(lag, m.Value())
		}
	}
}

func TestP20_1Agents(t *testing.T) {
	m := start(t, 100)
	for _, c := range []struct {
		agent, floor int64
		want         api.Errno
	}{
		{-1, 0, api.ErrRange}, {64, 0, api.ErrRange}, {3, -1, api.ErrRange}, {3, top + 1, api.ErrRange}, {math.MinInt64, math.MaxInt64, api.ErrRange},
		{0, 0, 0}, {63, top, 0}, {3, 50, 0}, {3, 50, api.ErrThere}, {3, -1, api.ErrRange}, {0, 7, api.ErrThere},
	} {
		try(t, m, c.want, func() api.Errno { return m.Join(c.agent, c.floor) })
	}
	for _, c := range []struct {
		agent, floor int64
		want         api.Errno
		at           int64
	}{
		{4, 0, api.ErrNone, 0}, {4, -1, api.ErrNone, 0}, {-1, 5, api.ErrNone, 0}, {3, -1, api.ErrRange, 50}, {3, top + 1, api.ErrRange, 50},
		{3, 60, 0, 60}, {3, 55, 0, 60}, {3, 60, 0, 60}, {3, 0, 0, 60}, {3, top, 0, top},
	} {
		try(t, m, c.want, func() api.Errno { return m.Raise(c.agent, c.floor) })
		if f, _ := m.Of(c.agent); f.At != c.at {
			t.Error(c, f)
		}
	}
	try(t, m, api.ErrNone, func() api.Errno { return m.Hold(4, true) })
	try(t, m, api.ErrNone, func() api.Errno { return m.Leave(4) })
	try(t, m, api.OK, func() api.Errno { return m.Hold(3, true) })
	if f, ok := m.Of(3); f != (Floor{top, false, false, true}) || !ok {
		t.Error(f, ok)
	}
	m.Hold(3, false)
	if f, ok := m.Of(3); f != (Floor{At: top}) || !ok {
		t.Error(f, ok)
	}
	try(t, m, api.OK, func() api.Errno { return m.Leave(3) })
	if f, ok := m.Of(3); f != (Floor{}) || ok {
		t.Error(f, ok)
	}
	try(t, m, api.ErrNone, func() api.Errno { return m.Raise(3, 5) })
	try(t, m, api.OK, func() api.Errno { return m.Join(3, 1) })
}

func TestP20_2Tick(t *testing.T) {
	m := start(t, 100)
	m.Join(3, 50)
	for i, c := range []struct {
		now  int64
		want api.Errno
		at   int64
		mark int64
		f    Floor
	}{
		{-1, api.ErrRange, 0, -100, Floor{At: 50}}, {top + 1, api.ErrRange, 0, -100, Floor{At: 50}}, {120, 0, 120, 50, Floor{At: 50}}, {119, api.ErrRange, 120, 50, Floor{At: 50}},
		{120, 0, 120, 50, Floor{At: 50}}, {150, 0, 150, 50, Floor{At: 50}}, {151, 0, 151, 51, Floor{50, true, true, false}}, {200, 0, 200, 100, Floor{50, true, true, false}},
	} {
		try(t, m, c.want, func() api.Errno { return m.Tick(c.now) })
		if f, _ := m.Of(3); m.Now() != c.at || m.Value() != c.mark || f != c.f {
			t.Error(i, m.Now(), m.Value(), f)
		}
	}
	m.Raise(3, 150)
	if f, _ := m.Of(3); !f.Out || m.Value() != 100 {
		t.Error("only Tick changes", f)
	}
	m.Tick(201)
	if f, _ := m.Of(3); f != (Floor{150, false, true, false}) || m.Value() != 150 {
		t.Error(f, m.Value())
	}
	m.Tick(top)
	if m.Now() != top || m.Value() != top-100 {
		t.Error(m.Now(), m.Value())
	}
}

func TestP20_2TickOfMany(t *testing.T) {
	m := start(t, 100)
	m.Join(1, 40)
	m.Join(2, 20)
	m.Join(3, 10)
	m.Hold(3, true)
	m.Tick(100)
	if m.Value() != 20 {
		t.Error("held agents don't count", m.Value())
	}
	m.Hold(3, false)
	m.Tick(100)
	if m.Value() != 20 {
		t.Error("it never decreases", m.Value())
	}
	m.Raise(3, 500)
	m.Leave(2)
	m.Tick(100)
	if m.Value() != 40 {
		t.Error(m.Value())
	}
	m.Hold(1, true)
	m.Hold(3, true)
	m.Tick(110)
	if m.Value() != 40 {
		t.Error("none counts", m.Value())
	}
	m.Tick(300)
	if f, _ := m.Of(1); m.Value() != 200 || f != (Floor{40, true, true, true}) {
		t.Error(m.Value(), f)
	}
	m.Hold(3, false)
	m.Tick(300)
	if m.Value() != 500 {
		t.Error("a floor may be above the moment", m.Value())
	}
}

func TestP20_2All(t *testing.T) {
	m := start(t, 100)
	for _, agent := range []int64{9, 3, 60, 0} {
		m.Join(agent, agent)
	}
	all := m.All()
	m.Raise(3, 4)
	var list []int64
	for agent, f := range all {
		list = append(list, agent, f.At)
		m.Raise(60, 70)
		m.Leave(9)
		m.Join(61, 1)
	}
	if !slices.Equal(list, []int64{0, 0, 3, 4, 9, 9, 60, 60}) {
		t.Error(list)
	}
	list = nil
	for agent, f := range all {
		list = append(list, agent, f.At)
		if agent == 60 {
			break
		}
	}
	if !slices.Equal(list, []int64{0, 0, 3, 4, 60, 70}) {
		t.Error(list)
	}
}

func TestP20_2Set(t *testing.T) {
	m := start(t, 100)
	m.Join(5, 5)
	for _, c := range []struct {
		now, value int64
		agents     map[int64]Floor
		want       api.Errno
	}{
		{-1, -1, nil, api.ErrRange}, {top + 1, top, nil, api.ErrRange}, {50, -51, nil, api.ErrRange}, {50, 51, nil, api.ErrRange}, {0, math.MinInt64, nil, api.ErrRange},
		{50, 0, map[int64]Floor{-1: {}}, api.ErrRange}, {50, 0, map[int64]Floor{64: {}}, api.ErrRange}, {50, 0, map[int64]Floor{3: {At: -1}}, api.ErrRange}, {50, 0, map[int64]Floor{3: {At: top + 1}}, api.ErrRange},
		{50, -50, nil, 0}, {50, 50, map[int64]Floor{}, 0}, {top, top, map[int64]Floor{3: {top, true, false, true}, 0: {0, false, true, false}}, 0},
	} {
		try(t, m, c.want, func() api.Errno { return m.Set(c.now, c.value, c.agents) })
		if c.want == api.OK && (m.Now() != c.now || m.Value() != c.value || agents(m) != len(c.agents)) {
			t.Error(c, m)
		}
		m.Join(7, 7)
		delete(c.agents, 7)
		m.Leave(7)
	}
	if f, _ := m.Of(3); f != (Floor{top, true, false, true}) {
		t.Error(f)
	}
	agents := map[int64]Floor{3: {At: 9}}
	m.Set(50, 0, agents)
	agents[4] = Floor{}
	m.Raise(3, 10)
	if _, ok := m.Of(4); ok || agents[3].At != 9 {
		t.Error("shared")
	}
	c := m.Clone()
	m.Tick(60)
	m.Raise(3, 99)
	if f, _ := c.Of(3); c.Now() != 50 || f.At != 10 {
		t.Error("clone")
	}
	m.Set(0, 0, nil)
	if m.Join(1, 1) != api.OK {
		t.Error("nil map")
	}
}

func TestP20_3Watermark(t *testing.T) {
	r := rand.New(rand.NewSource(1))
	for range 300 {
		m := start(t, 50)
		good := map[int64]Floor{} // agents that joined above the watermark, and were neither out nor held
		for range 100 {
			agent := int64(r.Intn(5))
			before := m.Value()
			switch r.Intn(6) {
			case 0:
				if floor := m.Now() - r.Int63n(40) + 20; m.Join(agent, floor) == api.OK && floor >= m.Value() {
					good[agent] = Floor{}
				}
			case 1, 2:
				m.Raise(agent, m.Now()-r.Int63n(30))
			case 3:
				if m.Hold(agent, r.Intn(4) == 0); r.Intn(2) == 0 {
					m.Leave(agent)
					delete(good, agent)
				}
			default:
				if m.Tick(m.Now()+r.Int63n(20)) == api.OK && m.Value() < m.Now()-50 {
					t.Fatal("too low", m)
				}
			}
			if m.Value() < before {
				t.Fatal("decreased", m)
			}
			for agent := range good {
				f, _ := m.Of(agent)
				if f.Was || f.Held {
					delete(good, agent)
				} else if f.At < m.Value() {
					t.Fatal("below", agent, m)
				}
			}
		}
	}
}
