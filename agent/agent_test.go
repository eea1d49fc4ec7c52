package agent

import (
	"math"
	"reflect"
	"strings"
	"testing"

	"noonmark/api"
	"noonmark/frame"
	"noonmark/label"
)

const (
	top  = api.MaxTime
	edge = 1 << 40
)

var m = label.Series{Name: "m"}

func encoded(t *testing.T, f frame.Frame) []byte {
	t.Helper()
	b, e := frame.Encode(f)
	if e != api.OK {
		t.Fatal(e, f)
	}
	return b
}

func head(kind int, agent, epoch int64) frame.Head {
	return frame.Head{Kind: kind, Agent: agent, Epoch: epoch}
}

func grant(t *testing.T, agent, boot, epoch int64) []byte {
	return encoded(t, frame.Frame{Head: head(frame.FGrant, agent, epoch), Boot: boot})
}

func probed(t *testing.T, agent, boot, count int64) []byte {
	return encoded(t, frame.Frame{Head: head(frame.FProbe, agent, 0), Boot: boot, Count: count})
}

func ack(t *testing.T, agent, epoch, next int64) []byte {
	return encoded(t, frame.Frame{Head: head(frame.FAck, agent, epoch), Next: next})
}

// running is agent 3 with boot 1 and epoch 7.
func running(t *testing.T, most int) *Agent {
	t.Helper()
	a, e := New(3, most)
	if e != api.OK || a.Start(1) != api.OK || a.Take(0, grant(t, 3, 1, 7)) != api.OK {
		t.Fatal(e)
	}
	return a
}

// sent is the frames of a step.
func sent(t *testing.T, a *Agent, reading int64) []frame.Frame {
	t.Helper()
	list, e := a.Step(reading)
	if e != api.OK {
		t.Fatal(e)
	}
	var frames []frame.Frame
	for _, b := range list {
		f, e := frame.Decode(b)
		if e != api.OK {
			t.Fatal(e)
		}
		frames = append(frames, f)
	}
	return frames
}

func kinds(frames []frame.Frame) []int {
	var list []int
	for _, f := range frames {
		list = append(list, f.Kind)
	}
	return list
}

func TestP14_1NewStart(t *testing.T) {
	for _, c := range []struct {
		id   int64
		most int
		err  api.Errno
	}{{0, 1, 0}, {63, 1024, 0}, {-1, 1, api.ErrRange}, {64, 1, api.ErrRange}, {0, 0, api.ErrRange}, {0, 1025, api.ErrRange}, {math.MinInt64, math.MaxInt, api.ErrRange}} {
		a, e := New(c.id, c.most)
		if e != c.err || (a == nil) != (e != api.OK) {
			t.Error(c, e)
		}
		if a != nil && (a.Id() != c.id || a.Boot() != 0 || a.Epoch() != 0 || a.Clock() != 0 || a.Seq() != 0) {
			t.Error(c, "not new")
		}
	}
	a, _ := New(3, 2)
	for i, c := range []struct {
		boot int64
		err  api.Errno
		now  int64
	}{{0, api.ErrRange, 0}, {-1, api.ErrRange, 0}, {edge + 1, api.ErrRange, 0}, {5, 0, 5}, {5, api.ErrOld, 5}, {4, api.ErrOld, 5}, {0, api.ErrRange, 5}, {edge, 0, edge}, {edge, api.ErrOld, edge}} {
		if e := a.Start(c.boot); e != c.err || a.Boot() != c.now {
			t.Error(i, e, a.Boot())
		}
	}
}

func TestP14_1StartForgets(t *testing.T) {
	a := running(t, 2)
	a.Take(5, probed(t, 3, 1, 1))
	for range 3 {
		a.Measure(9, 1, m)
	}
	if a.Dropped() != 1 || a.Probes() != 1 || len(a.Kept()) != 2 {
		t.Error(a.Dropped(), a.Probes())
	}
	a.Start(2)
	fresh, _ := New(3, 2)
	fresh.Start(2)
	if !reflect.DeepEqual(a, fresh) {
		t.Error(a)
	}
	if a.Clock() != 0 || a.Epoch() != 0 || a.Seq() != 0 || a.First() != 0 || a.Dropped() != 0 || a.Probes() != 0 || len(a.Kept()) != 0 {
		t.Error("kept")
	}
}

func TestP14_2Readings(t *testing.T) {
	a, _ := New(3, 2)
	for _, reading := range []int64{5, -1} {
		if n, e := a.Measure(reading, 1, m); n != -1 || e != api.ErrState {
			t.Error(n, e)
		}
		if e := a.Take(reading, nil); e != api.ErrState {
			t.Error(e)
		}
		if list, e := a.Step(reading); list != nil || e != api.ErrState {
			t.Error(list, e)
		}
	}
	a.Start(1)
	for _, reading := range []int64{-1, top + 1, math.MinInt64, math.MaxInt64} {
		if n, e := a.Measure(reading, 1, m); n != -1 || e != api.ErrRange {
			t.Error(n, e)
		}
		if e := a.Take(reading, nil); e != api.ErrRange {
			t.Error(e)
		}
		if list, e := a.Step(reading); list != nil || e != api.ErrRange {
			t.Error(list, e)
		}
	}
	if a.Clock() != 0 {
		t.Error(a.Clock())
	}
	// Whatever a call returns, the reading is observed; the clock never goes back.
	a.Measure(4, 1, m)
	if a.Clock() != 4 {
		t.Error(a.Clock())
	}
	a.Take(6, nil)
	if a.Clock() != 6 {
		t.Error(a.Clock())
	}
	a.Take(5, grant(t, 3, 1, 7))
	a.Measure(2, 1, m)
	if a.Clock() != 6 || a.Kept()[0].Stamp != 6 {
		t.Error(a.Clock(), a.Kept())
	}
	if a.Step(top); a.Clock() != top {
		t.Error(a.Clock())
	}
}

func TestP14_2Measure(t *testing.T) {
	a, _ := New(3, 2)
	a.Start(1)
	if n, e := a.Measure(1, 1, label.Series{}); n != -1 || e != api.ErrState {
		t.Error(n, e)
	}
	a = running(t, 2)
	if n, e := a.Measure(1, 1, label.Series{}); n != -1 || e != api.ErrForm || a.Seq() != 0 {
		t.Error(n, e)
	}
	s, _ := label.Make("m", label.Label{Name: "a", Value: "1"})
	for i := range int64(2) {
		if n, e := a.Measure(9+i, -i, s); n != i || e != api.OK || a.Seq() != i+1 {
			t.Error(n, e)
		}
	}
	s.Labels[0].Value = "2"
	if n, e := a.Measure(20, 1, label.Series{}); n != -1 || e != api.ErrForm || a.Dropped() != 0 {
		t.Error(n, e)
	}
	if n, e := a.Measure(20, 1, m); n != -1 || e != api.ErrFull || a.Dropped() != 1 || a.Seq() != 2 {
		t.Error(n, e, a.Dropped())
	}
	for i, e := range a.Kept() {
		if e.Stamp != 9+int64(i) || e.Value != -int64(i) || e.Series.Text() != "m{a=1}" {
			t.Error(i, e)
		}
	}
}

func TestP14_3Grant(t *testing.T) {
	a, _ := New(3, 2)
	a.Start(4)
	for i, c := range []struct {
		b     []byte
		err   api.Errno
		epoch int64
	}{
		{nil, api.ErrEnd, 0}, {[]byte{1, 2, 3, 4, 5}, api.ErrSum, 0}, {make([]byte, api.MaxFrame+1), api.ErrLong, 0},
		{encoded(t, frame.Frame{Head: head(frame.FHello, 3, 0), Boot: 4}), api.ErrKind, 0},
		{encoded(t, frame.Frame{Head: head(frame.FBeat, 5, 0)}), api.ErrKind, 0},
		{encoded(t, frame.Frame{Head: head(frame.FEmit, 0, 0), Series: m}), api.ErrKind, 0},
		{grant(t, 5, 4, 7), api.ErrForm, 0}, {grant(t, 3, 3, 7), api.ErrOld, 0}, {grant(t, 3, 5, 7), api.ErrOld, 0}, {grant(t, 3, 4, 0), api.ErrForm, 0},
		{grant(t, 3, 3, 0), api.ErrOld, 0},
		{grant(t, 3, 4, edge), api.OK, edge}, {grant(t, 3, 4, 7), api.ErrThere, edge}, {grant(t, 3, 4, 0), api.ErrThere, edge}, {grant(t, 3, 5, 0), api.ErrOld, edge},
	} {
		if e := a.Take(1, c.b); e != c.err || a.Epoch() != c.epoch {
			t.Error(i, e, a.Epoch())
		}
	}
}

func TestP14_3Probe(t *testing.T) {
	a, _ := New(3, 2)
	a.Start(1)
	if e := a.Take(5, probed(t, 3, 1, 1)); e != api.ErrState || a.Probes() != 0 {
		t.Error(e)
	}
	a = running(t, 2)
	if e := a.Take(5, probed(t, 4, 1, 1)); e != api.ErrForm || a.Probes() != 0 {
		t.Error(e)
	}
	for i := range 8 {
		if e := a.Take(int64(10+i), probed(t, 3, 2, int64(i))); e != api.OK || a.Probes() != i+1 {
			t.Error(i, e)
		}
	}
	if e := a.Take(99, probed(t, 3, 2, 9)); e != api.ErrFull || a.Probes() != 8 || a.Clock() != 99 {
		t.Error(e)
	}
	list := sent(t, a, 100)
	if len(list) != 9 || a.Probes() != 0 {
		t.Fatal(kinds(list))
	}
	for i, f := range list[:8] {
		if !frame.Same(f, frame.Frame{Head: head(frame.FReply, 3, 7), Boot: 2, Count: int64(i), Got: int64(10 + i), Sent: 100}) {
			t.Error(i, f)
		}
	}
	if list := sent(t, a, 101); len(list) != 1 {
		t.Error(kinds(list))
	}
}

func TestP14_3Ack(t *testing.T) {
	a, _ := New(3, 8)
	a.Start(1)
	if e := a.Take(5, ack(t, 3, 0, 0)); e != api.ErrOld {
		t.Error(e)
	}
	a = running(t, 8)
	for i := range int64(5) {
		a.Measure(i, i, m)
	}
	for i, c := range []struct {
		b     []byte
		err   api.Errno
		first int64
	}{
		{ack(t, 4, 7, 2), api.ErrForm, 0}, {ack(t, 3, 6, 2), api.ErrOld, 0}, {ack(t, 3, 8, 9), api.ErrOld, 0}, {ack(t, 3, 0, 2), api.ErrOld, 0}, {ack(t, 3, 7, 6), api.ErrRange, 0},
		{ack(t, 3, 7, 0), api.OK, 0}, {ack(t, 3, 7, 2), api.OK, 2}, {ack(t, 3, 7, 1), api.OK, 2}, {ack(t, 3, 7, 2), api.OK, 2}, {ack(t, 3, 7, 5), api.OK, 5}, {ack(t, 3, 7, 5), api.OK, 5},
	} {
		if e := a.Take(9, c.b); e != c.err || a.First() != c.first || int64(len(a.Kept())) != 5-c.first || a.Seq() != 5 {
			t.Error(i, e, a.First(), len(a.Kept()))
		}
		for j, e := range a.Kept() {
			if e.Value != a.First()+int64(j) {
				t.Error(i, j, e)
			}
		}
	}
}

func TestP14_4Step(t *testing.T) {
	a, _ := New(3, 200)
	a.Start(1)
	if list := sent(t, a, 5); len(list) != 1 || !frame.Same(list[0], frame.Frame{Head: head(frame.FHello, 3, 0), Boot: 1}) {
		t.Error(list)
	}
	a.Take(6, grant(t, 3, 1, 7))
	a.Measure(9, 3, m)
	want := []frame.Frame{
		{Head: head(frame.FBatch, 3, 7), Events: []frame.Event{{Stamp: 9, Value: 3, Series: m}}},
		{Head: head(frame.FBeat, 3, 7), Next: 1, Stamp: 9},
	}
	for range 2 {
		list := sent(t, a, 9)
		if len(list) != 2 || !frame.Same(list[0], want[0]) || !frame.Same(list[1], want[1]) {
			t.Error(list)
		}
	}
	for i := range int64(150) {
		a.Measure(10+i, i, m)
	}
	a.Take(200, ack(t, 3, 7, 20))
	a.Take(200, probed(t, 3, 1, 1))
	list := sent(t, a, 201)
	if len(list) != 3 || list[0].Kind != frame.FReply || list[1].Next != 20 || len(list[1].Events) != 64 || list[1].Events[0].Value != 19 || list[2].Next != 151 || list[2].Stamp != 201 {
		t.Error(kinds(list))
	}
}

func TestP14_4LongEvents(t *testing.T) {
	a := running(t, 100)
	s := label.Series{Name: strings.Repeat("m", 64)}
	for i := range 8 {
		s.Labels = append(s.Labels, label.Label{Name: strings.Repeat("a", 63) + string(rune('a'+i)), Value: strings.Repeat("z", 64)})
	}
	for range 100 {
		if _, e := a.Measure(top, math.MinInt64, s); e != api.OK {
			t.Fatal(e)
		}
	}
	list := sent(t, a, 5)
	n := len(list[0].Events)
	more := list[0]
	more.Events = a.Kept()[:n+1]
	if _, e := frame.Encode(more); e != api.ErrLong || n < 50 || n >= 64 || list[1].Kind != frame.FBeat {
		t.Error(n, e)
	}
}

func TestP14_5Memory(t *testing.T) {
	a := running(t, 3)
	s, _ := label.Make("m", label.Label{Name: "a", Value: "1"})
	a.Measure(5, 1, s)
	a.Take(5, probed(t, 3, 1, 1))
	a.Kept()[0].Series.Labels[0].Value = "x"
	_ = append(a.Kept(), frame.Event{})
	c := a.Clone()
	if !reflect.DeepEqual(a, c) {
		t.Error(c)
	}
	before := c.Clone()
	a.Measure(6, 1, m)
	a.Take(6, ack(t, 3, 7, 1))
	sent(t, a, 9)
	a.Measure(7, 8, m)
	if !reflect.DeepEqual(c, before) || c.Kept()[0].Series.Text() != "m{a=1}" || c.Probes() != 1 || c.Seq() != 1 {
		t.Error(c)
	}
	a.Start(9)
	if c.Boot() != 1 {
		t.Error("boot")
	}
	a = running(t, 10)
	for i := range int64(5) {
		a.Measure(5, i, m)
	}
	for n := range int64(5) {
		a.Take(5, probed(t, 3, 1, n))
	}
	c = a.Clone()
	a.Take(5, ack(t, 3, 7, 2))
	a.Take(5, probed(t, 3, 1, 33))
	c.Take(5, probed(t, 3, 1, 44))
	for i, e := range c.Kept() {
		if e.Value != int64(i) {
			t.Error(i, e)
		}
	}
	if list := sent(t, a, 5); len(list) != 8 || list[5].Count != 33 || len(list[6].Events) != 3 {
		t.Error(list)
	}
	if list := sent(t, c, 5); len(list) != 8 || list[5].Count != 44 || len(list[6].Events) != 5 {
		t.Error(list)
	}
}
