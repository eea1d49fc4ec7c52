package tale

import (
	"bytes"
	"math"
	"reflect"
	"strings"
	"testing"

	"noonmark/api"
	"noonmark/core"
	"noonmark/fleet"
	"noonmark/gate"
	"noonmark/label"
)

func config() fleet.Config {
	c := core.Config{Width: 10, Policy: 0, Most: 1000, Lag: 100, Rho: 10000, Trust: 2, Agents: 3, Cells: 16, Hold: 8}
	return fleet.Config{Options: gate.Options{Config: c, Period: 1000, Probes: 4, Segment: 4096, Save: 1000}, Buffer: 20, Packets: 50}
}

func parsed(text string) label.Series {
	s, _ := label.Parse(text)
	return s
}

// equal tells whether two entries are equal; an empty list equals none.
func equal(a, b fleet.Entry) bool {
	one, two := label.Compare(a.Series, b.Series), bytes.Compare(a.Bytes, b.Bytes)
	a.Series, b.Series, a.Bytes, b.Bytes = label.Series{}, label.Series{}, nil, nil
	return one == 0 && two == 0 && reflect.DeepEqual(a, b)
}

type pair struct {
	e    fleet.Entry
	line string
}

// lines are entries of all kinds, with fields at their bounds.
func lines() []pair {
	const least, most = "-9223372036854775808", "9223372036854775807"
	return []pair{
		{fleet.Entry{Kind: fleet.KTime, Now: 5}, "time 5"}, {fleet.Entry{}, "time 0"}, {fleet.Entry{Now: math.MinInt64}, "time " + least}, {fleet.Entry{Now: math.MaxInt64}, "time " + most},
		{fleet.Entry{Kind: fleet.KBoot, Agent: 63, Boot: 1}, "boot 63 1"}, {fleet.Entry{Kind: fleet.KBoot, Boot: -1}, "boot 0 -1"},
		{fleet.Entry{Kind: fleet.KMeasure, Agent: 3, Reading: 1014, Value: 5, Series: parsed("m{a=1}")}, "measure 3 1014 5 m{a=1}"},
		{fleet.Entry{Kind: fleet.KMeasure, Agent: 3, Reading: -1, Value: math.MinInt64, Series: parsed("m{a=-,b=}")}, "measure 3 -1 " + least + " m{a=-,b=}"},
		{fleet.Entry{Kind: fleet.KStep, Agent: 3, Reading: 9}, "step 3 9"}, {fleet.Entry{Kind: fleet.KArrive, Number: 7, Reading: 9}, "arrive 7 9"}, {fleet.Entry{Kind: fleet.KLose, Number: 7}, "lose 7"}, {fleet.Entry{Kind: fleet.KDouble, Number: -7}, "double -7"},
		{fleet.Entry{Kind: fleet.KForge, Agent: 3, Bytes: []byte{0, 255, 16, 0xab}}, "forge 3 00ff10ab"}, {fleet.Entry{Kind: fleet.KForge, Agent: 3}, "forge 3 -"},
		{fleet.Entry{Kind: fleet.KForge, Bytes: make([]byte, 4096)}, "forge 0 " + strings.Repeat("00", 4096)},
		{fleet.Entry{Kind: fleet.KTick}, "tick"}, {fleet.Entry{Kind: fleet.KSync}, "sync"}, {fleet.Entry{Kind: fleet.KSink}, "sink"}, {fleet.Entry{Kind: fleet.KCrash, Keep: 5}, "crash 5"}, {fleet.Entry{Kind: fleet.KCrash, Keep: math.MinInt}, "crash " + least},
	}
}

func TestP29_1Lines(t *testing.T) {
	for i, p := range lines() {
		if line, ok := Line(p.e); line != p.line || !ok {
			t.Error(i, line, ok)
		}
		if e, ok := Read(p.line); !equal(e, p.e) || !ok {
			t.Error(i, e, ok)
		}
	}
}

func TestP29_1NoLine(t *testing.T) {
	list := []fleet.Entry{
		{Kind: -1}, {Kind: 12}, {Kind: fleet.KBoot, Agent: 64}, {Kind: fleet.KBoot, Agent: -1}, {Kind: fleet.KMeasure, Agent: 3}, {Kind: fleet.KMeasure, Series: label.Series{Name: "M"}}, {Kind: fleet.KMeasure, Agent: 64, Series: parsed("m")},
		{Kind: fleet.KForge, Bytes: make([]byte, 4097)}, {Kind: fleet.KForge, Agent: 64}, {Kind: fleet.KMeasure, Series: label.Series{Name: "m", Labels: []label.Label{{Name: "b"}, {Name: "a"}}}},
	}
	for _, p := range lines() {
		for _, set := range []func(e *fleet.Entry) *int64{
			func(e *fleet.Entry) *int64 { return &e.Agent }, func(e *fleet.Entry) *int64 { return &e.Now }, func(e *fleet.Entry) *int64 { return &e.Reading }, func(e *fleet.Entry) *int64 { return &e.Boot },
			func(e *fleet.Entry) *int64 { return &e.Value }, func(e *fleet.Entry) *int64 { return &e.Number },
		} {
			e := p.e
			*set(&e) = 1
			// A field that the kind has changes the line; one that it doesn't have leaves none.
			if line, ok := Line(e); ok && line == p.line && !equal(e, p.e) {
				t.Error(e, line)
			}
		}
		e := p.e
		e.Agent = 99
		list = append(list, e)
		if e = p.e; e.Kind != fleet.KCrash {
			e.Keep = 1
			list = append(list, e)
		}
		if e = p.e; e.Kind != fleet.KMeasure {
			e.Series = parsed("m")
			list = append(list, e)
			e.Series = label.Series{Labels: []label.Label{{}}}
			list = append(list, e)
		}
		if e = p.e; e.Kind != fleet.KForge {
			e.Bytes = []byte{0}
			list = append(list, e)
		}
	}
	for i, e := range list {
		if line, ok := Line(e); line != "" || ok {
			t.Error(i, line)
		}
		if text, ok := Show(fleet.Entry{}, e, fleet.Entry{}); text != "" || ok {
			t.Error(i, text)
		}
	}
}

func TestP29_1ReadWrong(t *testing.T) {
	list := []string{
		"", " ", "#", "# tick", "tock", "Tick", "tick\n", "tick\r", " tick", "tick ", "tick 1", "time", "time ", "time  5", "time 5 ", " time 5", "time\t5", "time +5", "time 05", "time -0", "time 5.0", "time 0x5", "time 1_0", "time a", "time -",
		"time 9223372036854775808", "time -9223372036854775809", "time 99999999999999999999999", "time 5 6", "boot 3", "boot 64 1", "boot -1 1", "boot 3 1 1", "boot 03 1",
		"measure 3 1014 5", "measure 3 1014 5 ", "measure 3 1014 5 M", "measure 3 1014 5 m{}", "measure 3 1014 5 m{b=1,a=1}", "measure 3 1014 5 m m", "measure 64 1 1 m", "measure 3 1014 m 5",
		"step 64 1", "step 3", "arrive 1", "arrive 1 2 3", "lose", "lose x", "double", "double 1 1", "forge 3", "forge 3 ", "forge 3 0", "forge 3 0G", "forge 3 0g", "forge 3 AB", "forge 3 aB", "forge 3 --", "forge 3 -0", "forge 3 00 00", "forge 64 00", "forge 3 é0",
		"forge 3 " + strings.Repeat("0", 2*4096+2), "sync 1", "sink 0", "crash", "crash x", "crash 1 2", "crash 9223372036854775808",
	}
	for _, line := range list {
		if e, ok := Read(line); ok || !equal(e, fleet.Entry{}) || e.Bytes != nil {
			t.Errorf("%q %v", line, e)
		}
	}
}

func TestP29_1Show(t *testing.T) {
	if text, ok := Show(); text != "" || !ok {
		t.Error(text, ok)
	}
	var entries []fleet.Entry
	var want strings.Builder
	for _, p := range lines() {
		entries = append(entries, p.e)
		want.WriteString(p.line + "\n")
	}
	if text, ok := Show(entries...); text != want.String() || !ok {
		t.Error(text, ok)
	}
	list, line, e := Parse(want.String())
	if len(list) != len(entries) || line != 0 || e != api.OK {
		t.Fatal(line, e)
	}
	for i := range list {
		if !equal(list[i], entries[i]) {
			t.Error(i, list[i])
		}
	}
}

func TestP29_2Parse(t *testing.T) {
	for i, c := range []struct {
		text string
		n    int
		line int
		err  api.Errno
	}{
		{"", 0, 0, 0}, {"\n\n\n", 0, 0, 0}, {"tick", 1, 0, 0}, {"tick\n", 1, 0, 0}, {"tick\nsync", 2, 0, 0}, {"\n# tick\n#\ntick\n\nsync\n#", 2, 0, 0}, {"#\xff\x00", 0, 0, 0},
		{"x", 0, 1, api.ErrForm}, {"tick\nx\ny\n", 0, 2, api.ErrForm}, {"\n#\n\n tick\n", 0, 4, api.ErrForm}, {"tick\n #\n", 0, 2, api.ErrForm}, {"tick\r\n", 0, 1, api.ErrForm}, {"tick\n\n\nsync ", 0, 4, api.ErrForm}, {" ", 0, 1, api.ErrForm},
		{"tick\ntick\x00\n", 0, 2, api.ErrForm},
	} {
		list, line, e := Parse(c.text)
		if len(list) != c.n || line != c.line || e != c.err {
			t.Error(i, list, line, e)
		}
		report, line, e := Play(config(), c.text)
		if report != "" || line != c.line || e != c.err {
			t.Error(i, report, line, e)
		}
	}
}

const script = `# An agent whose clock is 1,000 ahead.
boot 3 1
step 3 1000
arrive 0 0
sync
arrive 1 1000
tick
arrive 2 1000
step 3 1000
time 2
arrive 3 1000
arrive 4 1000

time 14
measure 3 1014 5 m{a=1}
measure 3 1014 -7 m{a=1}
time 15
step 3 1015
arrive 5 0
arrive 6 0
arrive 99 0
sync
time 70
step 3 1070
arrive 8 0
arrive 9 0
tick
sync
crash 0
`

func TestP29_3Report(t *testing.T) {
	want := "3 1 0 counted 1 13 15\n3 1 1 counted 1 13 15\nemit 0 1 m{a=1} 2 -2 -7 5 2 0\n"
	if report, line, e := Play(config(), script); report != want || line != 0 || e != api.OK {
		t.Error(report, line, e)
	}
	f, _ := fleet.New(config())
	if Report(f) != "" {
		t.Error("empty")
	}
	list, _, _ := Parse(script)
	f.Run(list...)
	if Report(f) != want {
		t.Error(Report(f))
	}
}

func TestP29_3Reasons(t *testing.T) {
	c := config()
	c.Most, c.Cells = 3, 2
	text := strings.Replace(script, "time 14\nmeasure 3 1014 5 m{a=1}\nmeasure 3 1014 -7 m{a=1}\n", strings.Join([]string{
		"time 14", "measure 3 1010 1 m", "measure 3 1012 2 m", "measure 3 1013 3 n", "measure 3 1013 4 o", "measure 3 1014 5 m", "measure 3 1100 6 m", "",
	}, "\n"), 1)
	report, _, _ := Play(c, text)
	want := "3 1 0 wide 0 9 13\n3 1 1 wide 0 11 15\n3 1 2 full 0 12 15\n3 1 3 full 0 12 15\n3 1 4 counted 1 13 15\n3 1 5 held 0 0 0\n"
	if !strings.HasPrefix(report, want) {
		t.Error(report)
	}
}

func TestP29_3PlayWrong(t *testing.T) {
	c := config()
	c.Width = 0
	for _, text := range []string{"", "x", script} {
		if report, line, e := Play(c, text); report != "" || line != 0 || e != api.ErrRange {
			t.Error(report, line, e)
		}
	}
	if report, line, e := Play(config(), script+"x"); report != "" || line != strings.Count(script, "\n")+1 || e != api.ErrForm {
		t.Error(report, line, e)
	}
}
