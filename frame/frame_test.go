package frame

import (
	"bytes"
	"math"
	"math/rand"
	"strings"
	"testing"

	"noonmark/api"
	"noonmark/code"
	"noonmark/crc"
	"noonmark/label"
)

const (
	top   = api.MaxTime
	epoch = 1 << 40
)

func series(text string) label.Series {
	s, ok := label.Parse(text)
	if !ok {
		panic(text)
	}
	return s
}

// samples is a valid frame of each kind, with fields at their bounds.
func samples() []Frame {
	m := series("m{a=1}")
	return []Frame{
		{Head: Head{FHello, 3, 0}, Boot: 300},
		{Head: Head{FHello, 63, 0}, Boot: top},
		{Head: Head{FGrant, 63, epoch}, Boot: top},
		{Head: Head{FProbe, 1, 0}, Boot: 2, Count: top},
		{Head: Head{FReply, 1, 2}, Boot: 3, Count: 4, Got: 5, Sent: 5},
		{Head: Head{FReply, 63, epoch}, Boot: top, Count: top, Got: 0, Sent: top},
		{Head: Head{FBatch, 1, 2}, Next: 3, Events: []Event{{4, -5, m}}},
		{Head: Head{FBatch, 1, 2}, Next: epoch - 2, Events: []Event{{top, math.MinInt64, m}, {0, math.MaxInt64, series("n")}}},
		{Head: Head{FBatch, 0, 0}, Next: 0, Events: many(64, "n")},
		{Head: Head{FAck, 1, 2}, Next: epoch},
		{Head: Head{FBeat, 1, 2}, Next: epoch, Stamp: top},
		{Head: Head{Kind: FEmit}, Window: top, Series: m, Data: bytes.Repeat([]byte{7}, 4096)},
		{Head: Head{Kind: FEmit}, Window: 0, Series: series("n")},
	}
}

func many(n int, text string) []Event {
	list := make([]Event, n)
	for i := range list {
		list[i] = Event{int64(i), int64(-i), series(text)}
	}
	return list
}

// wrong is frames with one field out of its bounds, or one that the kind doesn't have.
func wrong() []Frame {
	m := series("m")
	list := []Frame{
		{}, {Head: Head{Kind: 9}}, {Head: Head{Kind: -1}}, {Head: Head{Kind: math.MaxInt}},
		{Head: Head{FHello, 64, 0}}, {Head: Head{FHello, -1, 0}}, {Head: Head{FHello, 1, 0}, Boot: top + 1}, {Head: Head{FHello, 1, 0}, Boot: -1},
		{Head: Head{FHello, 1, 1}}, {Head: Head{FHello, 1, 0}, Events: many(1, "m")}, {Head: Head{FHello, 1, 0}, Series: m}, {Head: Head{FHello, 1, 0}, Data: []byte{1}},
		{Head: Head{FHello, 1, 0}, Series: label.Series{Labels: []label.Label{{}}}},
		{Head: Head{FGrant, 1, epoch + 1}}, {Head: Head{FGrant, 1, -1}}, {Head: Head{FProbe, 1, 0}, Count: -1}, {Head: Head{FProbe, 1, 5}},
		{Head: Head{FReply, 1, 2}, Got: 5, Sent: 4}, {Head: Head{FReply, 1, 2}, Got: -1}, {Head: Head{FReply, 1, 2}, Sent: top + 1},
		{Head: Head{FBatch, 1, 2}}, {Head: Head{FBatch, 1, 2}, Events: many(65, "m")}, {Head: Head{FBatch, 1, 2}, Next: epoch, Events: many(1, "m")},
		{Head: Head{FBatch, 1, 2}, Next: epoch - 1, Events: many(2, "m")}, {Head: Head{FBatch, 1, 2}, Next: -1, Events: many(1, "m")},
		{Head: Head{FBatch, 1, 2}, Next: math.MaxInt64, Events: many(1, "m")}, {Head: Head{FBatch, 1, 2}, Next: top, Events: many(1, "m")},
		{Head: Head{FBatch, 1, 2}, Events: []Event{{-1, 0, m}}}, {Head: Head{FBatch, 1, 2}, Events: []Event{{top + 1, 0, m}}}, {Head: Head{FBatch, 1, 2}, Events: []Event{{1, 0, label.Series{}}}},
		{Head: Head{FBatch, 1, 2}, Events: append(many(3, "m"), Event{})}, {Head: Head{FBatch, 1, 2}, Events: many(1, "m"), Data: []byte{0}},
		{Head: Head{FAck, 1, 2}, Next: epoch + 1}, {Head: Head{FAck, 1, 2}, Next: top}, {Head: Head{FAck, 1, 2}, Stamp: 1}, {Head: Head{FAck, 1, 2}, Events: many(1, "m")},
		{Head: Head{FBeat, 1, 2}, Next: epoch + 1}, {Head: Head{FBeat, 1, 2}, Stamp: -1}, {Head: Head{FBeat, 1, 2}, Window: 1},
		{Head: Head{FEmit, 1, 0}, Series: m}, {Head: Head{FEmit, 0, 1}, Series: m}, {Head: Head{Kind: FEmit}}, {Head: Head{Kind: FEmit}, Series: m, Window: -1},
		{Head: Head{Kind: FEmit}, Series: m, Data: make([]byte, 4097)}, {Head: Head{Kind: FEmit}, Series: m, Window: top + 1}, {Head: Head{Kind: FEmit}, Series: m, Events: many(1, "m")},
		{Head: Head{Kind: FEmit}, Series: label.Series{Name: "M"}},
	}
	for i := range 7 {
		for _, kind := range []int{FHello, FGrant, FProbe, FReply, FBatch, FAck, FBeat, FEmit} {
			f := Frame{Head: Head{Kind: kind}}
			*[]*int64{&f.Boot, &f.Count, &f.Got, &f.Sent, &f.Next, &f.Stamp, &f.Window}[i] = -1
			list = append(list, f)
		}
	}
	return list
}

func TestP9_1Right(t *testing.T) {
	for i, f := range samples() {
		if !f.Right() {
			t.Error(i)
		}
		if b, e := Encode(f); e != api.OK || len(b) == 0 {
			t.Error(i, e)
		}
	}
	for i, f := range wrong() {
		if f.Right() {
			t.Error(i, f)
		}
		if b, e := Encode(f); e != api.ErrForm || len(b) != 0 {
			t.Error(i, b, e)
		}
	}
}

func TestP9_1Encode(t *testing.T) {
	for i, c := range []struct {
		f    Frame
		want []byte
	}{
		{samples()[0], []byte{1, 3, 172, 2}},
		{Frame{Head: Head{FGrant, 3, 7}, Boot: 4}, []byte{2, 3, 4, 7}},
		{Frame{Head: Head{FProbe, 3, 0}, Boot: 4, Count: 5}, []byte{3, 3, 4, 5}},
		{Frame{Head: Head{FReply, 3, 7}, Boot: 4, Count: 5, Got: 8, Sent: 9}, []byte{4, 3, 7, 4, 5, 8, 9}},
		{Frame{Head: Head{FBatch, 3, 7}, Next: 2, Events: []Event{{9, -1, series("m{a=b}")}, {10, 1, series("n")}}}, []byte{5, 3, 7, 2, 2, 9, 1, 1, 'm', 1, 1, 'a', 1, 'b', 10, 2, 1, 'n', 0}},
		{Frame{Head: Head{FAck, 3, 7}, Next: 2}, []byte{6, 3, 7, 2}},
		{Frame{Head: Head{FBeat, 3, 7}, Next: 2, Stamp: 11}, []byte{7, 3, 7, 2, 11}},
		{Frame{Head: Head{Kind: FEmit}, Window: 6, Series: series("m"), Data: []byte{1, 2}}, []byte{8, 6, 1, 'm', 0, 2, 1, 2}},
	} {
		if b, e := Encode(c.f); e != api.OK || !bytes.Equal(b, crc.Seal(c.want)) {
			t.Error(i, b, e)
		}
	}
}

// heavy is a text of a series that is as long as one may be.
func heavy() string {
	var parts []string
	for i := range 8 {
		parts = append(parts, strings.Repeat("a", 63)+string(rune('a'+i))+"="+strings.Repeat("z", 64))
	}
	return strings.Repeat("m", 64) + "{" + strings.Join(parts, ",") + "}"
}

func TestP9_1EncodeLong(t *testing.T) {
	f := Frame{Head: Head{FBatch, 1, 2}, Events: many(64, heavy())}
	if b, e := Encode(f); e != api.ErrLong || len(b) != 0 || !f.Right() {
		t.Error(len(b), e)
	}
	// The longest frame that may be: values of labels are cut, and then grow byte by byte.
	for i := range f.Events {
		f.Events[i].Series = series(heavy())
		f.Events[i].Series.Labels[6].Value = ""
		f.Events[i].Series.Labels[7].Value = ""
	}
	b, e := Encode(f)
	if e != api.OK {
		t.Fatal(e)
	}
	for rest := api.MaxFrame - len(b); rest > 0; rest-- {
		f.Events[rest%64].Series.Labels[6].Value += "z"
	}
	b, e = Encode(f)
	if len(b) != api.MaxFrame || e != api.OK {
		t.Fatal(len(b), e)
	}
	if g, e := Decode(b); e != api.OK || !Same(f, g) {
		t.Error(e)
	}
	f.Events[0].Series.Labels[7].Value = "z"
	if b, e := Encode(f); len(b) != 0 || e != api.ErrLong {
		t.Error(len(b), e)
	}
}

func TestP9_1Same(t *testing.T) {
	list := append(samples(), wrong()...)
	for i, f := range samples() {
		for j, g := range list {
			if Same(f, g) != (i == j) || Same(g, f) != (i == j) {
				t.Error(i, j)
			}
		}
	}
	if !Same(Frame{}, Frame{Events: []Event{}, Data: []byte{}, Series: label.Series{Labels: []label.Label{}}}) {
		t.Error("empty")
	}
	f := samples()[6]
	for i, change := range []func(f *Frame){
		func(f *Frame) { f.Kind++ }, func(f *Frame) { f.Agent++ }, func(f *Frame) { f.Epoch++ }, func(f *Frame) { f.Boot++ }, func(f *Frame) { f.Count++ },
		func(f *Frame) { f.Got++ }, func(f *Frame) { f.Sent++ }, func(f *Frame) { f.Next++ }, func(f *Frame) { f.Stamp++ }, func(f *Frame) { f.Window++ },
		func(f *Frame) { f.Events[0].Stamp++ }, func(f *Frame) { f.Events[0].Value++ }, func(f *Frame) { f.Events[0].Series.Name = "z" },
		func(f *Frame) { f.Events[0].Series.Labels = nil }, func(f *Frame) { f.Series.Name = "z" }, func(f *Frame) { f.Data = []byte{0} }, func(f *Frame) { f.Events = nil },
	} {
		g := samples()[6]
		change(&g)
		if Same(f, g) {
			t.Error(i)
		}
	}
}

func TestP9_2Order(t *testing.T) {
	good, _ := Encode(samples()[6])
	for i, c := range []struct {
		b   []byte
		err api.Errno
	}{
		{make([]byte, api.MaxFrame+1), api.ErrLong}, {nil, api.ErrEnd}, {[]byte{1, 2, 3}, api.ErrEnd}, {make([]byte, 5), api.ErrSum},
		{append(good[:len(good)-1:len(good)-1], good[len(good)-1]^1), api.ErrSum},
		{crc.Seal(), api.ErrEnd}, {crc.Seal([]byte{0x80}), api.ErrEnd}, {crc.Seal([]byte{0x80, 0}), api.ErrForm},
		{crc.Seal([]byte{0}), api.ErrKind}, {crc.Seal([]byte{9}), api.ErrKind}, {crc.Seal(code.Uints(math.MaxUint64)), api.ErrKind}, {crc.Seal(code.Uints(1<<32 + 1)), api.ErrKind},
		{crc.Seal([]byte{9, 0x80}), api.ErrKind},
		{crc.Seal([]byte{1}), api.ErrEnd}, {crc.Seal([]byte{1, 3}), api.ErrEnd}, {crc.Seal([]byte{1, 0x80, 0}), api.ErrForm}, {crc.Seal([]byte{1, 64}), api.ErrEnd},
		{crc.Seal([]byte{1, 3, 4, 5}), api.ErrForm}, {crc.Seal([]byte{1, 64, 4}), api.ErrForm}, {crc.Seal(code.Uints(1, 3, 1<<63)), api.ErrForm}, {crc.Seal(code.Uints(1, 3, 1<<62)), api.ErrForm},
		{crc.Seal([]byte{5, 1, 2, 3, 0}), api.ErrForm}, {crc.Seal([]byte{5, 1, 2, 3, 65}), api.ErrLong}, {crc.Seal([]byte{5, 1, 2, 3, 1}), api.ErrEnd}, {crc.Seal([]byte{5, 1, 2, 3, 0, 1}), api.ErrForm},
		{crc.Seal([]byte{5, 1, 2, 3, 2, 4, 5, 1, 'M', 0}), api.ErrForm}, {crc.Seal([]byte{5, 1, 2, 3, 1, 4, 5, 65, 'm', 0}), api.ErrLong}, {crc.Seal([]byte{5, 1, 2, 3, 1, 4, 5, 1, 'm', 9}), api.ErrLong},
		{crc.Seal([]byte{4, 1, 2, 3, 4, 6, 5}), api.ErrForm},
		{crc.Seal([]byte{8, 6, 1, 'm', 0}), api.ErrEnd}, {crc.Seal(append([]byte{8, 6, 1, 'm', 0}, code.Uints(4097)...)), api.ErrLong}, {crc.Seal([]byte{8, 6, 1, 'm', 0, 2, 1}), api.ErrEnd},
		{crc.Seal([]byte{8, 6, 1, 'M', 0}), api.ErrForm}, {crc.Seal([]byte{8, 6, 0}), api.ErrEnd},
		{crc.Seal(code.Uints(6, 1, 2, epoch+1)), api.ErrForm}, {crc.Seal(code.Uints(5, 1, 2, epoch), []byte{1, 4, 5, 1, 'm', 0}), api.ErrForm},
	} {
		if f, e := Decode(c.b); e != c.err || !Same(f, Frame{}) {
			t.Error(i, f, e)
		}
	}
}

func TestP9_3Back(t *testing.T) {
	for i, f := range samples() {
		b, _ := Encode(f)
		g, e := Decode(b)
		if e != api.OK || !Same(f, g) {
			t.Error(i, g, e)
		}
		if c, e := Encode(g); e != api.OK || !bytes.Equal(b, c) {
			t.Error(i, c, e)
		}
	}
}

func TestP9_3Noise(t *testing.T) {
	r := rand.New(rand.NewSource(1))
	var list [][]byte
	for _, f := range samples() {
		b, _ := Encode(f)
		list = append(list, b[:len(b)-4])
	}
	for range 60000 {
		data := bytes.Clone(list[r.Intn(len(list))])
		data = data[:min(len(data), 60)]
		for range r.Intn(4) {
			data[r.Intn(len(data))] = byte(r.Intn(256) >> uint(r.Intn(8)))
		}
		b := crc.Seal(data)
		f, e := Decode(b)
		if e != api.OK {
			if !Same(f, Frame{}) {
				t.Fatal(data, f)
			}
			continue
		}
		if c, e := Encode(f); e != api.OK || !bytes.Equal(b, c) {
			t.Fatal(data, f, e)
		}
	}
}

func TestP9_3Memory(t *testing.T) {
	f := samples()[6]
	b, _ := Encode(f)
	g, _ := Decode(b)
	b[3] ^= 0xff
	f.Events[0].Series.Labels[0].Name = "z"
	if h := samples()[6]; !Same(g, h) {
		t.Error(g)
	}
	e, _ := Encode(samples()[11])
	g, _ = Decode(e)
	g.Data[0] = 99
	if h, _ := Decode(e); h.Data[0] != 7 {
		t.Error("shared")
	}
}
