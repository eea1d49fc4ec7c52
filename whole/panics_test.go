package whole

import (
	"math"
	"math/rand"
	"reflect"
	"testing"

	"noonmark/agent"
	"noonmark/api"
	"noonmark/book"
	"noonmark/cell"
	"noonmark/clock"
	"noonmark/code"
	"noonmark/core"
	"noonmark/crc"
	"noonmark/disk"
	"noonmark/drift"
	"noonmark/fleet"
	"noonmark/frame"
	"noonmark/gap"
	"noonmark/gate"
	"noonmark/grid"
	"noonmark/hist"
	"noonmark/hold"
	"noonmark/label"
	"noonmark/ledger"
	"noonmark/mark"
	"noonmark/probe"
	"noonmark/reel"
	"noonmark/roll"
	"noonmark/safe"
	"noonmark/shelf"
	"noonmark/sweep"
	"noonmark/tale"
	"noonmark/truth"
	"noonmark/wide"
	"noonmark/wire"
)

// functions are those of all chapters.
func functions() []any {
	return []any{
		safe.Add, safe.Sub, safe.Mul, safe.Sum, safe.Ratio, safe.Clamp,
		wide.Of, wide.Add, wide.Sub, wide.Cmp, wide.Times, wide.Sum, wide.Long, wide.Text, wide.Parse, wide.Bytes, wide.Back,
		gap.New, gap.Meet, gap.Hull, drift.Low, drift.High, drift.Slack, drift.Honest, drift.Least,
		hist.Bucket, hist.Bounds, hist.Of, hist.Merge, code.Uints, code.Ints, code.Texts, code.Turn, code.Unturn, code.New,
		crc.Sum, crc.Seal, crc.Open, label.Make, label.Parse, label.Read, label.Compare, frame.Encode, frame.Decode, frame.Same,
		disk.New, reel.Bytes, reel.Scan, reel.Open, book.Open, hold.New[string], agent.New, roll.New, probe.New,
		sweep.Votes, sweep.Best, sweep.Agree, sweep.Without, clock.New, grid.New, mark.New, cell.Fold, cell.Merge, cell.Back,
		shelf.New, ledger.New, ledger.Same, core.Read, core.New, core.Parse, gate.Open, wire.New, fleet.New,
		truth.Honest, truth.Of, truth.Clean, truth.Window, truth.Emitted, tale.Line, tale.Read, tale.Show, tale.Parse, tale.Report, tale.Play,
	}
}

// objects are one of each type that has methods.
func objects() []any {
	c := config(10000, 2)
	c.Cells, c.Hold, c.Agents, c.Segment = 9, 5, 3, 64
	a, _ := agent.New(3, 5)
	a.Start(1)
	d := disk.New()
	r, _, _ := reel.Open(disk.New(), 64)
	b, _, _ := book.Open(disk.New(), 64)
	h, _ := hold.New[string](0, 4)
	ro, _ := roll.New(3)
	p, _ := probe.New(1, 3)
	k, _ := clock.New(10000, 2)
	m, _ := mark.New(50)
	s, _ := shelf.New(5)
	st, _ := core.New(c.Config)
	g, _, _ := gate.Open(disk.New(), c.Options)
	w, _ := wire.New(5)
	f, _ := fleet.New(c)
	return []any{
		a, d, r, b, h, ro, p, k, m, s, st, g, w, f, ledger.New(), code.New([]byte{1, 2, 3, 0x80, 1, 200, 1, 7}),
		gap.Gap{}, hist.Hist{}, label.Series{}, frame.Frame{}, clock.Sample{}, grid.Grid{}, cell.Cell{}, c.Config, core.Record{}, c.Options, c,
	}
}

// maker makes arguments.
type maker struct{ *rand.Rand }

func (r maker) number() int64 {
	edges := []int64{0, 1, -1, math.MinInt64, math.MaxInt64, 1 << 62, 1<<62 - 1, 1 << 40, 1<<40 + 1, 63, 64, 65, 100000, 1000000, 1<<31 - 1, 1 << 18}
	if r.Intn(3) == 0 {
		return edges[r.Intn(len(edges))]
	}
	return r.Int63n(12)
}

func (r maker) text() string {
	texts := []string{"", "m", "m{a=1}", "{", "m{a=1", "tick", "time 5", "measure 3 5 5 m", "forge 3 00", "boot 3 1\nstep 3 5\narrive 0 0\nsync\ncrash 0\n", "-5", "99999999999999999999999999999999999999999", "\xff\x00"}
	return texts[r.Intn(len(texts))]
}

// octets are noise, or sealed, or the bytes of something.
func (r maker) octets() []byte {
	b := make([]byte, r.Intn(24))
	r.Read(b)
	for i := range b {
		b[i] >>= uint(r.Intn(8))
	}
	events := []frame.Event{{Stamp: r.Int63n(20), Value: r.number(), Series: label.Series{Name: "m"}}}
	switch r.Intn(6) {
	case 0:
		return crc.Seal(b)
	case 1:
		f := frame.Frame{Head: frame.Head{Kind: 1 + r.Intn(8), Agent: r.Int63n(4), Epoch: r.Int63n(3)}}
		switch f.Kind {
		case frame.FHello, frame.FProbe:
			f.Epoch, f.Boot = 0, 1+r.Int63n(2)
		case frame.FGrant:
			f.Boot = 1
		case frame.FBatch:
			f.Next, f.Events = r.Int63n(6), events
		}
		b, _ = frame.Encode(f)
	case 2:
		b = core.Record{Kind: core.RBatch, Agent: 3, Epoch: 1, Events: events}.Bytes()
	case 3:
		b = cell.Fold(r.number(), r.number()).Bytes()
	case 4:
		b = nil
	}
	return b
}

// make makes an argument of a type.
func (r maker) make(t reflect.Type) reflect.Value {
	v := reflect.New(t).Elem()
	switch v.Interface().(type) {
	case *code.Reader:
		return reflect.ValueOf(code.New(r.octets()))
	case *disk.Disk:
		d := disk.New()
		d.Append(int(r.number()), r.octets())
		return reflect.ValueOf(d)
	case *fleet.Fleet:
		f, _ := fleet.New(config(100, 1))
		return reflect.ValueOf(f)
	case *ledger.Ledger:
		return reflect.ValueOf([]*ledger.Ledger{nil, ledger.New()}[r.Intn(2)])
	case core.Config:
		if r.Intn(2) == 0 {
			return reflect.ValueOf(config(100, 1).Config)
		}
	case gate.Options:
		if r.Intn(2) == 0 {
			return reflect.ValueOf(config(100, 1).Options)
		}
	case fleet.Config:
		if r.Intn(2) == 0 {
			return reflect.ValueOf(config(100, 1))
		}
	case []byte:
		return reflect.ValueOf(r.octets())
	}
	r.fill(v)
	return v
}

func (r maker) fill(v reflect.Value) {
	switch v.Kind() {
	case reflect.Bool:
		v.SetBool(r.Intn(2) == 0)
	case reflect.String:
		v.SetString(r.text())
	case reflect.Int, reflect.Int64:
		v.SetInt(r.number())
	case reflect.Uint64:
		v.SetUint(uint64(r.number()))
	case reflect.Array:
		for i := range v.Len() {
			if r.Intn(8) == 0 {
				v.Index(i).Set(r.make(v.Type().Elem()))
			}
		}
	case reflect.Slice:
		for range r.Intn(4) {
			v.Set(reflect.Append(v, r.make(v.Type().Elem())))
		}
	case reflect.Map:
		if r.Intn(3) > 0 {
			v.Set(reflect.MakeMap(v.Type()))
			v.SetMapIndex(r.make(v.Type().Key()), r.make(v.Type().Elem()))
		}
	case reflect.Struct:
		for i := range v.NumField() {
			if v.Field(i).CanSet() && r.Intn(3) > 0 {
				v.Field(i).Set(r.make(v.Type().Field(i).Type))
			}
		}
	}
}

// call calls a function, and goes through what it returns if that is an iterator.
func (r maker) call(f reflect.Value) {
	t := f.Type()
	var in []reflect.Value
	for i := range t.NumIn() {
		in = append(in, r.make(t.In(i)))
	}
	var out []reflect.Value
	if t.IsVariadic() {
		out = f.CallSlice(in)
	} else {
		out = f.Call(in)
	}
	for _, v := range out {
		if v.Kind() == reflect.Func {
			left := r.Intn(5)
			v.Call([]reflect.Value{reflect.MakeFunc(v.Type().In(0), func([]reflect.Value) []reflect.Value {
				left--
				return []reflect.Value{reflect.ValueOf(left > 0)}
			})})
		}
	}
}

func TestP1NothingPanics(t *testing.T) {
	r := maker{rand.New(rand.NewSource(1))}
	for range 200 {
		for _, f := range functions() {
			for range 20 {
				r.call(reflect.ValueOf(f))
			}
		}
		for _, o := range objects() {
			v := reflect.ValueOf(o)
			for range 60 {
				if v.Kind() != reflect.Pointer {
					v = r.make(v.Type())
				}
				r.call(v.Method(r.Intn(v.NumMethod())))
			}
		}
	}
	if e := api.Errno(r.number()); e.Error() == "" {
		t.Error(e)
	}
}
