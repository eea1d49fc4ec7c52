package label

import (
	"bytes"
	"reflect"
	"slices"
	"strings"
	"testing"

	"noonmark/api"
	"noonmark/code"
)

var long = strings.Repeat("a", 64)

func names(n int) []Label {
	var list []Label
	for i := range n {
		list = append(list, Label{string(rune('a' + i)), "v"})
	}
	return list
}

// same tells whether two series are equal; nil labels equal none.
func same(a, b Series) bool { return a.Name == b.Name && slices.Equal(a.Labels, b.Labels) }

func TestP8_1Make(t *testing.T) {
	for i, c := range []struct {
		name   string
		labels []Label
		want   Series
		err    api.Errno
	}{
		{"hits", []Label{{"b", "2"}, {"a", "1"}}, Series{"hits", []Label{{"a", "1"}, {"b", "2"}}}, 0},
		{"m", nil, Series{"m", nil}, 0},
		{"m", []Label{{"a_9", ""}}, Series{"m", []Label{{"a_9", ""}}}, 0},
		{long, []Label{{long, long}}, Series{long, []Label{{long, long}}}, 0},
		{long + "a", nil, Series{}, api.ErrForm},
		{"", nil, Series{}, api.ErrForm}, {"_a", nil, Series{}, api.ErrForm}, {"9a", nil, Series{}, api.ErrForm},
		{"A", nil, Series{}, api.ErrForm}, {"aB", nil, Series{}, api.ErrForm}, {"a-b", nil, Series{}, api.ErrForm}, {"a\x00", nil, Series{}, api.ErrForm},
		{"m", names(8), Series{"m", names(8)}, 0},
		{"m", names(9), Series{}, api.ErrLong},
		{"", names(9), Series{}, api.ErrForm},
		{"m", append(names(8), Label{"", ""}), Series{}, api.ErrLong},
		{"m", []Label{{"a", "1"}, {"a", "2"}}, Series{}, api.ErrThere},
		{"m", []Label{{"a", "1"}, {"b", "2"}, {"a", "1"}}, Series{}, api.ErrThere},
		{"m", []Label{{"a", "1"}, {"a", " "}}, Series{}, api.ErrForm},
		{"m", []Label{{"", "1"}}, Series{}, api.ErrForm}, {"m", []Label{{long + "b", "1"}}, Series{}, api.ErrForm}, {"m", []Label{{"a", long + "b"}}, Series{}, api.ErrForm},
	} {
		kept := slices.Clone(c.labels)
		s, e := Make(c.name, c.labels...)
		if !same(s, c.want) || e != c.err {
			t.Error(i, s, e)
		}
		if e == api.OK && !s.Right() {
			t.Error(i, "not right")
		}
		if !slices.Equal(kept, c.labels) {
			t.Error(i, "changed")
		}
	}
}

func TestP8_1Values(t *testing.T) {
	for c := range 256 {
		want := c >= 33 && c <= 126 && !strings.ContainsRune(",={}", rune(c))
		s := Series{"m", []Label{{"a", string([]byte{byte(c)})}}}
		if s.Right() != want {
			t.Error(c)
		}
		letter := c >= 'a' && c <= 'z'
		if (Series{Name: string([]byte{byte(c)})}).Right() != letter {
			t.Error("first", c)
		}
		if (Series{Name: string([]byte{'a', byte(c)})}).Right() != (letter || c >= '0' && c <= '9' || c == '_') {
			t.Error("second", c)
		}
	}
}

func TestP8_1RightGet(t *testing.T) {
	for i, c := range []struct {
		s    Series
		want bool
	}{
		{Series{}, false}, {Series{"m", nil}, true}, {Series{"m", []Label{}}, true}, {Series{"m", names(8)}, true}, {Series{"m", names(9)}, false},
		{Series{"m", []Label{{"b", ""}, {"a", ""}}}, false}, {Series{"m", []Label{{"a", ""}, {"a", ""}}}, false}, {Series{"m", []Label{{"a", "="}}}, false},
	} {
		if c.s.Right() != c.want {
			t.Error(i)
		}
	}
	s, _ := Make("m", Label{"a", "1"}, Label{"b", ""})
	for _, c := range []struct {
		name, want string
		ok         bool
	}{{"a", "1", true}, {"b", "", true}, {"c", "", false}, {"", "", false}, {"m", "", false}} {
		if v, ok := s.Get(c.name); v != c.want || ok != c.ok {
			t.Error(c, v, ok)
		}
	}
}

func TestP8_2Text(t *testing.T) {
	most := Series{Name: long}
	for i := range 8 {
		most.Labels = append(most.Labels, Label{long[:63] + string(rune('a'+i)), long})
	}
	for i, c := range []struct {
		s    Series
		text string
	}{
		{Series{"m", nil}, "m"}, {Series{"hits", []Label{{"a", "1"}, {"b", "2"}}}, "hits{a=1,b=2}"}, {Series{"m", []Label{{"a", ""}}}, "m{a=}"},
		{Series{"m", []Label{{"a", "\"~!"}}}, "m{a=\"~!}"}, {most, most.Text()},
	} {
		if c.s.Text() != c.text {
			t.Error(i, c.s.Text())
		}
		if s, ok := Parse(c.text); !ok || !same(s, c.s) {
			t.Error(i, s, ok)
		}
	}
	if len(most.Text()) != 1105 {
		t.Error(len(most.Text()))
	}
	for _, s := range []Series{{}, {"m", []Label{{"b", ""}, {"a", ""}}}, {"M", nil}} {
		if s.Text() != "" {
			t.Error(s.Text())
		}
	}
}

func TestP8_2ParseWrong(t *testing.T) {
	for _, text := range []string{
		"", "{}", "m{}", "m{", "m}", "m{a=1", "m{a=1}}", "m{a=1}x", "m{{a=1}", "m{a=1,}", "m{,a=1}", "m{a}", "m{=1}", "m{a==1}", "m{a=1=2}",
		"m{b=1,a=2}", "m{a=1,a=1}", "m{a=1, b=2}", " m", "m ", "m\n", "M", "{a=1}", "m{a=1}{b=2}", "m{a=1,b}", "m{a=\x7f}", "m,n", "m=1",
		"m{a=1,b=1,c=1,d=1,e=1,f=1,g=1,h=1,i=1}", long + "a", strings.Repeat(",", 5000), "m{" + strings.Repeat("a=1,", 400) + "}",
	} {
		if s, ok := Parse(text); ok || !same(s, Series{}) {
			t.Errorf("%q %v", text, s)
		}
	}
}

func TestP8_3Bytes(t *testing.T) {
	s, _ := Make("hits", Label{"b", "2"}, Label{"a", ""})
	want := []byte("\x04hits\x02\x01a\x00\x01b\x012")
	if !bytes.Equal(s.Bytes(), want) {
		t.Error(s.Bytes())
	}
	if (Series{}).Bytes() != nil {
		t.Error("invalid")
	}
	r := code.New(append(want, 7))
	if got, e := Read(r); e != api.OK || !same(got, s) || r.Left() != 1 {
		t.Error(got, e, r.Left())
	}
	for n := range len(want) {
		if got, e := Read(code.New(want[:n])); e != api.ErrEnd || !same(got, Series{}) {
			t.Error(n, got, e)
		}
	}
}

func TestP8_3ReadWrong(t *testing.T) {
	for i, c := range []struct {
		text string
		err  api.Errno
		own  api.Errno
	}{
		{"\x01M\x00", api.ErrForm, api.OK}, {"\x00\x00", api.ErrForm, api.OK},
		{"\x01m\x02\x01b\x00\x01a\x00", api.ErrForm, api.OK}, {"\x01m\x02\x01a\x00\x01a\x00", api.ErrForm, api.OK},
		{"\x01m\x09", api.ErrLong, api.ErrLong}, {"\x41" + long + "a\x00", api.ErrLong, api.ErrLong},
		{"\x01m\x01\x41" + long + "a\x00", api.ErrLong, api.ErrLong}, {"\x01m\x01\x01a\x41" + long + "a", api.ErrLong, api.ErrLong},
		{"\x01m\x80\x00", api.ErrForm, api.ErrForm}, {"\x81\x00m\x00", api.ErrForm, api.ErrForm},
		{"\x01M\x01\x01a", api.ErrEnd, api.ErrEnd},
	} {
		r := code.New([]byte(c.text))
		if s, e := Read(r); !same(s, Series{}) || e != c.err || r.Err() != c.own {
			t.Error(i, s, e, r.Err())
		}
	}
	r := code.New(nil)
	r.Uint()
	if s, e := Read(r); !same(s, Series{}) || e != api.ErrEnd {
		t.Error(s, e)
	}
}

func TestP8_4Compare(t *testing.T) {
	sorted := []Series{
		{}, {"", []Label{{"z", "z"}}}, {"a", nil}, {"a", []Label{{"a", ""}}}, {"a", []Label{{"a", ""}, {"a", ""}}}, {"a", []Label{{"a", "1"}}},
		{"a", []Label{{"a", "1"}, {"b", ""}}}, {"a", []Label{{"a", "2"}}}, {"a", []Label{{"ab", ""}}}, {"a", []Label{{"b", ""}}}, {"aa", nil}, {"b", nil}, {"b\xff", nil},
	}
	for i, a := range sorted {
		for j, b := range sorted {
			want := 0
			if i < j {
				want = -1
			} else if i > j {
				want = 1
			}
			if v := Compare(a, b); v != want {
				t.Error(i, j, v)
			}
		}
	}
	if Compare(Series{"a", []Label{}}, Series{"a", nil}) != 0 {
		t.Error("nil")
	}
}

func TestP8_4Memory(t *testing.T) {
	labels := make([]Label, 2, 4)
	labels[0], labels[1] = Label{"b", ""}, Label{"a", ""}
	s, _ := Make("m", labels...)
	labels[0].Name = "z"
	if !reflect.DeepEqual(s.Labels, []Label{{"a", ""}, {"b", ""}}) {
		t.Error(s)
	}
	s.Labels[0].Name = "y"
	if labels[1].Name != "a" {
		t.Error("shared")
	}
}
