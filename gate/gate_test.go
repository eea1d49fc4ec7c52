package gate

import (
	"bytes"
	"math"
	"reflect"
	"slices"
	"testing"

	"noonmark/agent"
	"noonmark/api"
	"noonmark/book"
	"noonmark/cell"
	"noonmark/clock"
	"noonmark/core"
	"noonmark/disk"
	"noonmark/frame"
	"noonmark/gap"
	"noonmark/label"
	"noonmark/ledger"
	"noonmark/probe"
)

const (
	top  = api.MaxTime
	edge = 1 << 40
)

var m = label.Series{Name: "m"}

func options() Options {
	return Options{core.Config{Width: 10, Policy: 0, Most: 1000, Lag: 100, Rho: 0, Trust: 2, Agents: 3, Cells: 16, Hold: 8}, 20, 4, 4096, 1000}
}

func opened(t *testing.T, d *disk.Disk, o Options) (*Gate, []Output) {
	t.Helper()
	g, outputs, e := Open(d, o)
	if e != api.OK {
		t.Fatal(e)
	}
	return g, outputs
}

func encoded(t *testing.T, f frame.Frame) []byte {
	t.Helper()
	b, e := frame.Encode(f)
	if e != api.OK {
		t.Fatal(e, f)
	}
	return b
}

func head(kind int, agent, epoch int64) frame.Head {
	return frame.Head{Kind: kind, Agent: agent, Epoch: epoch}
}

func hello(t *testing.T, agent, boot int64) []byte {
	return encoded(t, frame.Frame{Head: head(frame.FHello, agent, 0), Boot: boot})
}

func batch(t *testing.T, agent, epoch, next int64, stamps ...int64) []byte {
	f := frame.Frame{Head: head(frame.FBatch, agent, epoch), Next: next}
	for _, stamp := range stamps {
		f.Events = append(f.Events, frame.Event{Stamp: stamp, Value: stamp, Series: m})
	}
	return encoded(t, f)
}

func beat(t *testing.T, agent, epoch, next, stamp int64) []byte {
	return encoded(t, frame.Frame{Head: head(frame.FBeat, agent, epoch), Next: next, Stamp: stamp})
}

func reply(t *testing.T, agent, epoch int64, n probe.Nonce, at int64) []byte {
	return encoded(t, frame.Frame{Head: head(frame.FReply, agent, epoch), Boot: n.Boot, Count: n.Count, Got: at, Sent: at})
}

// take gives bytes to a gate, which must return an error.
func take(t *testing.T, g *Gate, agent, now int64, b []byte, want api.Errno) {
	t.Helper()
	before, waiting := g.State().Bytes(), g.Waiting()
	if e := g.Take(agent, now, b); e != want || e != api.OK && (!bytes.Equal(before, g.State().Bytes()) || g.Waiting() != waiting) {
		t.Error(e, want)
	}
}

// trusted is a gate at the time 2 that knows agent 3, whose clock shows true time.
func trusted(t *testing.T, d *disk.Disk, o Options) *Gate {
	t.Helper()
	g, _ := opened(t, d, o)
	take(t, g, 3, 0, hello(t, 3, 1), api.OK)
	if outputs, e := g.Step(0); e != api.OK || len(outputs) != 1 {
		t.Fatal(outputs, e)
	}
	take(t, g, 3, 2, reply(t, 3, 1, g.Out()[0], 0), api.OK)
	g.Sync()
	return g
}

func TestP25_1Kinds(t *testing.T) {
	if OFrame != 1 || OVerdict != 2 || OEmit != 3 {
		t.Error("kinds")
	}
}

func TestP25_1Right(t *testing.T) {
	for i, c := range []struct {
		change func(o *Options)
		want   bool
	}{
		{func(o *Options) {}, true}, {func(o *Options) { o.Period, o.Probes, o.Segment, o.Save = edge, 1024, 1<<20, 1<<20 }, true}, {func(o *Options) { o.Period, o.Probes, o.Segment, o.Save = 1, 1, 64, 1 }, true},
		{func(o *Options) { o.Period = 0 }, false}, {func(o *Options) { o.Period = edge + 1 }, false}, {func(o *Options) { o.Probes = 0 }, false}, {func(o *Options) { o.Probes = 1025 }, false},
		{func(o *Options) { o.Segment = 63 }, false}, {func(o *Options) { o.Segment = 1<<20 + 1 }, false}, {func(o *Options) { o.Save = 0 }, false}, {func(o *Options) { o.Save = 1<<20 + 1 }, false},
		{func(o *Options) { o.Width = 0 }, false}, {func(o *Options) { o.Hold = 0 }, false}, {func(o *Options) { *o = Options{} }, false}, {func(o *Options) { o.Save = math.MinInt }, false},
	} {
		o := options()
		c.change(&o)
		d := disk.New()
		g, outputs, e := Open(d, o)
		if o.Right() != c.want || (e == api.OK) != c.want || (g != nil) != c.want || len(outputs) != 0 || !c.want && (e != api.ErrRange || d.Size() != 0) {
			t.Error(i, o.Right(), e)
		}
	}
}

func TestP25_1Open(t *testing.T) {
	d := disk.New()
	g, outputs := opened(t, d, options())
	if len(outputs) != 0 || g.State().Boots() != 1 || g.Waiting() != 0 || len(g.Out()) != 0 || d.Pending() != 0 || d.Size() == 0 {
		t.Error(outputs, d.Pending())
	}
	g, outputs = opened(t, d, options())
	if len(outputs) != 0 || g.State().Boots() != 2 {
		t.Error(outputs, g.State().Boots())
	}
	full := disk.New()
	full.Append(1<<31-1, []byte("x"))
	if g, outputs, e := Open(full, options()); g != nil || outputs != nil || e != api.ErrFull {
		t.Error(outputs, e)
	}
	wrong := options()
	wrong.Save = 0
	if g, outputs, e := Open(full, wrong); g != nil || outputs != nil || e != api.ErrRange {
		t.Error(outputs, e)
	}
}

func TestP25_1OpenWrongDisk(t *testing.T) {
	boot := core.Record{Kind: core.RBoot}
	late := core.Record{Kind: core.RTick, Now: 5}
	for i, write := range []func(b *book.Book){
		func(b *book.Book) { b.Append(core.RTick, boot.Bytes()) },
		func(b *book.Book) { b.Append(core.RBoot, []byte{9}) },
		func(b *book.Book) { b.Append(core.RBoot) },
		func(b *book.Book) { b.Append(99, []byte{99}) },
		func(b *book.Book) {
			b.Append(core.RTick, core.Record{Kind: core.RTick, Now: 6}.Bytes())
			b.Append(core.RTick, late.Bytes())
		},
		func(b *book.Book) { b.Save([]byte("no state")) },
		func(b *book.Book) { b.Save() },
	} {
		d := disk.New()
		b, _, _ := book.Open(d, 4096)
		write(b)
		size := d.Size()
		if g, outputs, e := Open(d, options()); g != nil || outputs != nil || e != api.ErrDisk || d.Size() != size {
			t.Error(i, outputs, e)
		}
	}
	// The most starts that there may be.
	d := disk.New()
	b, _, _ := book.Open(d, 4096)
	s, _ := core.New(options().Config)
	bytes := s.Bytes()
	for _, boots := range [][]byte{{0xfe, 0xff, 0xff, 0xff, 0xff, 0x1f}, {0xff, 0xff, 0xff, 0xff, 0xff, 0x1f}} {
		b.Save(bytes[:1], boots, bytes[2:])
		if g, _, e := Open(d, options()); e != api.OK || g.State().Boots() != 1<<40-2+int64(boots[0]-0xfd) {
			t.Error(e)
		}
	}
	if g, outputs, e := Open(d, options()); g != nil || outputs != nil || e != api.ErrLong {
		t.Error(e)
	}
}

func TestP25_2Take(t *testing.T) {
	g, _ := opened(t, disk.New(), options())
	take(t, g, 3, 10, nil, api.ErrEnd)
	take(t, g, 3, 10, make([]byte, 9), api.ErrSum)
	take(t, g, 3, 10, make([]byte, api.MaxFrame+1), api.ErrLong)
	for _, f := range []frame.Frame{
		{Head: head(frame.FGrant, 3, 1), Boot: 1}, {Head: head(frame.FProbe, 3, 0)}, {Head: head(frame.FAck, 5, 1)}, {Head: head(frame.FEmit, 0, 0), Series: m},
	} {
		take(t, g, 3, 10, encoded(t, f), api.ErrKind)
	}
	take(t, g, 3, 10, hello(t, 4, 1), api.ErrForm)
	take(t, g, 99, 10, hello(t, 4, 1), api.ErrForm)
	take(t, g, 3, 10, hello(t, 3, 0), api.ErrForm)
	take(t, g, 3, -1, hello(t, 3, 1), api.ErrForm)
	take(t, g, 3, 10, hello(t, 3, 1), api.OK)
	take(t, g, 3, 9, hello(t, 3, 1), api.ErrRange)
	take(t, g, 3, 10, batch(t, 3, 2, 0, 5), api.ErrOld)
	take(t, g, 3, 10, batch(t, 3, 0, 0, 5), api.ErrForm)
	take(t, g, 3, 10, batch(t, 3, 1, 0, 5), api.ErrNone)
	take(t, g, 3, 9, beat(t, 3, 1, 0, 5), api.ErrRange)
	take(t, g, 3, 11, beat(t, 3, 1, 0, 5), api.OK)
	if g.Waiting() != 1 {
		t.Error(g.Waiting())
	}
	outputs := g.Sync()
	want := Output{Kind: OFrame, Agent: 3, Bytes: encoded(t, frame.Frame{Head: head(frame.FGrant, 3, 1), Boot: 1})}
	if len(outputs) != 1 || !reflect.DeepEqual(outputs[0], want) || g.Waiting() != 0 {
		t.Error(outputs)
	}
}

func TestP25_2Reply(t *testing.T) {
	g, _ := opened(t, disk.New(), options())
	take(t, g, 3, 0, hello(t, 3, 1), api.OK)
	g.Step(0)
	g.Step(20)
	g.Step(40)
	out := g.Out()
	if !slices.Equal(out, []probe.Nonce{{Boot: 1, Count: 0}, {Boot: 1, Count: 1}, {Boot: 1, Count: 2}}) {
		t.Fatal(out)
	}
	take(t, g, 3, 41, reply(t, 3, 1, probe.Nonce{Boot: 2, Count: 0}, 9), api.ErrOld)
	take(t, g, 3, 41, reply(t, 3, 1, probe.Nonce{Boot: 1, Count: 3}, 9), api.ErrNone)
	take(t, g, 3, 41, reply(t, 3, 2, out[0], 9), api.ErrForm)
	take(t, g, 4, 41, reply(t, 4, 1, out[0], 9), api.ErrForm)
	take(t, g, 4, 41, reply(t, 3, 1, out[0], 9), api.ErrForm)
	if len(g.Out()) != 3 {
		t.Error(g.Out())
	}
	take(t, g, 3, 45, reply(t, 3, 1, out[1], 30), api.OK)
	s, _ := core.New(options().Config)
	for _, r := range []core.Record{
		{Kind: core.RBoot}, {Kind: core.RGrant, Agent: 3, Boot: 1}, {Kind: core.RTick}, {Kind: core.RTick, Now: 20}, {Kind: core.RTick, Now: 40},
		{Kind: core.RSample, Agent: 3, Epoch: 1, Sample: clock.Sample{Asked: 20, Got: 30, Sent: 30, Came: 45}},
	} {
		s.Apply(r)
	}
	if !bytes.Equal(s.Bytes(), g.State().Bytes()) {
		t.Error("the sample")
	}
	// The probe is no longer outstanding, whatever happens to the sample.
	take(t, g, 3, 44, reply(t, 3, 1, out[2], 30), api.ErrRange)
	take(t, g, 3, 50, reply(t, 3, 1, out[2], 30), api.ErrNone)
	take(t, g, 3, -5, reply(t, 3, 1, out[0], 30), api.ErrForm)
	if len(g.Out()) != 0 {
		t.Error(g.Out())
	}
}

func TestP25_2Outputs(t *testing.T) {
	g := trusted(t, disk.New(), options())
	take(t, g, 3, 9, batch(t, 3, 1, 0, 5), api.OK)
	take(t, g, 3, 9, batch(t, 3, 1, 0, 5), api.OK)
	take(t, g, 3, 40, beat(t, 3, 1, 1, 38), api.OK)
	if probes, e := g.Step(41); e != api.OK || len(probes) != 1 {
		t.Error(probes, e)
	}
	ack := Output{Kind: OFrame, Agent: 3, Bytes: encoded(t, frame.Frame{Head: head(frame.FAck, 3, 1), Next: 1})}
	c, _ := cell.Fold(5).Note(true)
	want := []Output{
		{Kind: OVerdict, Id: ledger.Id{Agent: 3, Epoch: 1, Seq: 0}, Verdict: ledger.Verdict{Reason: ledger.VCounted}, Span: gap.Gap{Lo: 4, Hi: 8}}, ack, ack,
		{Kind: OEmit, Bytes: encoded(t, frame.Frame{Head: head(frame.FEmit, 0, 0), Series: m, Data: c.Bytes()})},
	}
	if g.Waiting() != 4 {
		t.Error(g.Waiting())
	}
	if outputs := g.Sync(); !reflect.DeepEqual(outputs, want) || g.Waiting() != 0 || len(g.Sync()) != 0 {
		t.Error(outputs)
	}
}

func TestP25_3Step(t *testing.T) {
	g, _ := opened(t, disk.New(), options())
	for _, agent := range []int64{7, 3, 63} {
		take(t, g, agent, 5, hello(t, agent, 1), api.OK)
	}
	if outputs, e := g.Step(4); outputs != nil || e != api.ErrRange || len(g.Out()) != 0 {
		t.Error(outputs, e)
	}
	if outputs, e := g.Step(top + 1); outputs != nil || e != api.ErrForm {
		t.Error(outputs, e)
	}
	outputs, e := g.Step(6)
	if len(outputs) != 3 || e != api.OK || g.Waiting() != 3 {
		t.Fatal(outputs, e, g.Waiting())
	}
	for i, agent := range []int64{3, 7, 63} {
		want := Output{Kind: OFrame, Agent: agent, Bytes: encoded(t, frame.Frame{Head: head(frame.FProbe, agent, 0), Boot: 1, Count: int64(i)})}
		if !reflect.DeepEqual(outputs[i], want) {
			t.Error(i, outputs[i])
		}
	}
	if outputs, e := g.Step(25); len(outputs) != 0 || e != api.OK {
		t.Error(outputs, e)
	}
	if outputs, e := g.Step(26); len(outputs) != 3 || e != api.OK || len(g.Out()) != 4 {
		t.Error(outputs, e, g.Out())
	}
}

func TestP25_3Sunk(t *testing.T) {
	g := trusted(t, disk.New(), options())
	take(t, g, 3, 30, batch(t, 3, 1, 0, 5, 15, 30), api.OK)
	g.Step(30)
	g.Step(40)
	if s := g.State(); len(s.Kept()) != 2 {
		t.Fatal(s.Kept())
	}
	for _, c := range []struct {
		next int64
		want api.Errno
		sunk int64
		kept int
	}{{3, api.ErrRange, 0, 2}, {-1, api.ErrForm, 0, 2}, {edge + 1, api.ErrForm, 0, 2}, {1, api.OK, 1, 1}, {0, api.OK, 1, 1}, {2, api.OK, 2, 0}} {
		if e := g.Sunk(c.next); e != c.want || g.State().Sunk() != c.sunk || len(g.State().Kept()) != c.kept {
			t.Error(c, e)
		}
	}
}

func TestP25_4Sync(t *testing.T) {
	o := options()
	o.Save, o.Segment = 5, 64
	d := disk.New()
	g, _ := opened(t, d, o)
	for i := range int64(4) {
		g.Step(i)
	}
	g.Sync()
	if files := d.Files(); files[0] != 0 {
		t.Error(files)
	}
	_, found, _ := book.Open(d.Clone(), 4096)
	if found.Has || len(found.List) != 5 {
		t.Error("no checkpoint is due", found)
	}
	g.Step(4)
	state := g.State().Bytes()
	g.Sync()
	_, found, _ = book.Open(d.Clone(), 4096)
	if !found.Has || !bytes.Equal(found.State, state) || len(found.List) != 0 || d.Pending() == 0 || d.Files()[0] != 0 {
		t.Error("a checkpoint is due", found, d.Pending())
	}
	g.Sync()
	_, found, _ = book.Open(d.Clone(), 4096)
	if !found.Has || len(d.Files()) != 1 || d.Pending() != 0 {
		t.Error("elder segments are gone", d.Files(), d.Pending())
	}
	// The count of records begins again with the checkpoint.
	for i := range int64(4) {
		g.Step(10 + i)
		g.Sync()
	}
	_, found, _ = book.Open(d.Clone(), 4096)
	if len(found.List) != 4 {
		t.Error(len(found.List))
	}
	g.Sunk(0)
	g.Sync()
	if _, found, _ = book.Open(d.Clone(), 4096); len(found.List) != 0 {
		t.Error(len(found.List))
	}
}

func TestP25_4StateTooLong(t *testing.T) {
	o := options()
	o.Save, o.Hold, o.Agents, o.Segment = 1, 256, 64, 1<<20
	d := disk.New()
	g, _ := opened(t, d, o)
	long := label.Series{Name: "m"}
	for i := range 8 {
		long.Labels = append(long.Labels, label.Label{Name: string(rune('a' + i)), Value: string(bytes.Repeat([]byte{'v'}, 64))})
	}
	f := frame.Frame{Head: head(frame.FBatch, 0, 1), Next: 1}
	for range 64 {
		f.Events = append(f.Events, frame.Event{Series: long})
	}
	for agent := range int64(10) {
		now := 100 * agent
		take(t, g, agent, now, hello(t, agent, 1), api.OK)
		g.Step(now)
		out := g.Out()
		take(t, g, agent, now, reply(t, agent, 1, out[len(out)-1], 0), api.OK)
		f.Agent = agent
		take(t, g, agent, now, encoded(t, f), api.OK)
	}
	if n := len(g.State().Bytes()); n < 1<<18 {
		t.Fatal(n)
	}
	g.Sync()
	_, found, _ := book.Open(d.Clone(), 1<<20)
	if found.Has || d.Pending() != 0 {
		t.Error("there is no such checkpoint")
	}
	again, _ := opened(t, d.Clone(), o)
	s := g.State()
	s.Apply(core.Record{Kind: core.RBoot})
	if !bytes.Equal(again.State().Bytes(), s.Bytes()) {
		t.Error("recovered")
	}
}

func TestP25_4LastSegment(t *testing.T) {
	o := options()
	o.Segment = 64
	d := disk.New()
	d.Append(1<<31-2, []byte("x"))
	g, _ := opened(t, d, o)
	var e api.Errno
	now := int64(0)
	for ; e == api.OK; now++ {
		_, e = g.Step(now)
	}
	if e != api.ErrFull || g.State().Now() != now-2 {
		t.Error("a record that can't be logged isn't applied", e, g.State().Now(), now)
	}
	if n := g.Waiting(); g.Take(3, now, hello(t, 3, 1)) != api.ErrFull || g.Waiting() != n {
		t.Error("outputs")
	}
	if _, known := g.State().Agent(3); known {
		t.Error("applied")
	}
}

func TestP25_5Recovery(t *testing.T) {
	d := disk.New()
	g := trusted(t, d, options())
	take(t, g, 3, 30, batch(t, 3, 1, 0, 5, 15, 30), api.OK)
	g.Step(31)
	first := g.Sync()
	out := g.Out()
	take(t, g, 3, 40, batch(t, 3, 1, 3, 35), api.OK)
	if g.Waiting() != 2 {
		t.Error(g.Waiting())
	}
	d.Crash(0)
	g, again := opened(t, d, options())
	if !reflect.DeepEqual(again[1:], first) || len(first) != 6 {
		t.Error(first, again)
	}
	if a, _ := g.State().Agent(3); a.Next != 3 || g.Waiting() != 0 || len(g.Out()) != 0 {
		t.Error(a)
	}
	take(t, g, 3, 41, reply(t, 3, 1, out[0], 40), api.ErrOld)
	take(t, g, 3, 41, batch(t, 3, 1, 3, 35), api.OK)
	if outputs := g.Sync(); len(outputs) != 2 {
		t.Error(outputs)
	}
}

func TestP25_5StateIsAClone(t *testing.T) {
	g := trusted(t, disk.New(), options())
	before := g.State().Bytes()
	g.State().Apply(core.Record{Kind: core.RBoot})
	if !bytes.Equal(before, g.State().Bytes()) {
		t.Error("shared")
	}
	a, _ := agent.New(3, 5)
	a.Start(9)
	frames, _ := a.Step(1)
	b := slices.Clone(frames[0])
	take(t, g, 3, 5, frames[0], api.OK)
	if !bytes.Equal(b, frames[0]) {
		t.Error("changed")
	}
}
