package tale

import (
	"strconv"
	"strings"

	"noonmark/api"
	"noonmark/fleet"
	"noonmark/label"
)

// mostBytes is how many bytes a line may tell.
const mostBytes = 4096

const (
	digits  = "0123456789abcdef"
	noBytes = "-"
)

// shape is how the entries of a kind are written: the fields behind the kind's word.
type shape struct {
	kind   int
	fields []field
}

// field is how a field is written as a word, and read.
type field struct {
	write func(e fleet.Entry) string
	read  func(e *fleet.Entry, word string) bool
}

// shapes returns the shape of each kind by its word.
func shapes() map[string]shape {
	agent := within(number(func(e *fleet.Entry) *int64 { return &e.Agent }), func(e fleet.Entry) bool {
		return 0 <= e.Agent && e.Agent < api.MaxAgents
	})
	now := number(func(e *fleet.Entry) *int64 { return &e.Now })
	reading := number(func(e *fleet.Entry) *int64 { return &e.Reading })
	boot := number(func(e *fleet.Entry) *int64 { return &e.Boot })
	value := number(func(e *fleet.Entry) *int64 { return &e.Value })
	packet := number(func(e *fleet.Entry) *int64 { return &e.Number })
	return map[string]shape{
		"time":    {fleet.KTime, []field{now}},
		"boot":    {fleet.KBoot, []field{agent, boot}},
		"measure": {fleet.KMeasure, []field{agent, reading, value, series()}},
		"step":    {fleet.KStep, []field{agent, reading}},
		"arrive":  {fleet.KArrive, []field{packet, reading}},
		"lose":    {fleet.KLose, []field{packet}},
		"double":  {fleet.KDouble, []field{packet}},
		"forge":   {fleet.KForge, []field{agent, octets()}},
		"tick":    {fleet.KTick, nil},
		"sync":    {fleet.KSync, nil},
		"sink":    {fleet.KSink, nil},
		"crash":   {fleet.KCrash, []field{keep()}},
	}
}

// number returns the field of an integer, which a function finds in an entry.
func number(in func(e *fleet.Entry) *int64) field {
	return field{
		write: func(e fleet.Entry) string { return integers(*in(&e)) },
		read: func(e *fleet.Entry, word string) bool {
			v, ok := integer(word)
			*in(e) = v
			return ok
		},
	}
}

// within returns a field that is read only if the entry is then right.
func within(f field, right func(e fleet.Entry) bool) field {
	return field{f.write, func(e *fleet.Entry, word string) bool { return f.read(e, word) && right(*e) }}
}

func keep() field {
	return field{
		write: func(e fleet.Entry) string { return integers(int64(e.Keep)) },
		read: func(e *fleet.Entry, word string) bool {
			v, ok := integer(word)
			e.Keep = int(v)
			return ok
		},
	}
}

func series() field {
	return field{
		write: func(e fleet.Entry) string { return e.Series.Text() },
		read: func(e *fleet.Entry, word string) bool {
			s, ok := label.Parse(word)
			e.Series = s
			return ok
		},
	}
}

func octets() field {
	return field{
		write: func(e fleet.Entry) string { return hex(e.Bytes) },
		read: func(e *fleet.Entry, word string) bool {
			b, ok := unhex(word)
			e.Bytes = b
			return ok
		},
	}
}

// integer returns the integer of a word, if that is how it is written.
func integer(word string) (int64, bool) {
	v, err := strconv.ParseInt(word, 10, 64)
	return v, err == nil && integers(v) == word
}

// hex returns bytes as a word.
func hex(b []byte) string {
	if len(b) == 0 {
		return noBytes
	}
	var word strings.Builder
	for _, c := range b {
		word.WriteByte(digits[c>>4])
		word.WriteByte(digits[c&15])
	}
	return word.String()
}

// unhex returns the bytes of a word, if there are not too many.
func unhex(word string) ([]byte, bool) {
	if word == noBytes {
		return nil, true
	}
	if word == "" || len(word)%2 != 0 || len(word) > 2*mostBytes {
		return nil, false
	}
	var b []byte
	for i := 0; i < len(word); i += 2 {
		high, low := strings.IndexByte(digits, word[i]), strings.IndexByte(digits, word[i+1])
		if high < 0 || low < 0 {
			return nil, false
		}
		b = append(b, byte(high<<4|low))
	}
	return b, true
}
