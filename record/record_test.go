package record_test

import (
	"bytes"
	"fmt"
	"math"
	"slices"
	"strings"
	"testing"

	"lookout/api"
	"lookout/crc"
	"lookout/frame"
	"lookout/record"
)

// The ends of the numbers.
const (
	greatest int64  = math.MaxInt64
	most     uint64 = math.MaxUint64
)

// chapter is the document's table: of each kind, from 17 on, its word and its fields.
var chapter = []string{
	"malformed Source Num",
	"wrong Source Code",
	"refused Source Code",
	"rejected Source Seq At Code",
	"shed Source Seq At",
	"late Source Seq At",
	"accepted Source Seq At",
	"gap Source Seq",
	"suspect Source At",
	"rejoin Source",
	"overflow Code At",
	"provisional At Yes",
	"retraction At Yes",
	"final At Yes",
	"latency At Num",
	"summary Text",
}

// row is what the document's table has of a kind, word ahead; nothing, if there is no such kind.
func row(kind int) []string {
	if kind < 17 || kind > 32 {
		return nil
	}
	return strings.Fields(chapter[kind-17])
}

// names are all fields but the kind.
var names = []string{"Source", "Seq", "At", "Num", "Code", "Yes", "Text"}

// filled is a record of a kind whose named fields have something in them.
func filled(kind byte, fields ...string) record.Record {
	r := record.Record{Kind: kind}
	for _, f := range fields {
		switch f {
		case "Source":
			r.Source = 7
		case "Seq":
			r.Seq = 300
		case "At":
			r.At = 5
		case "Num":
			r.Num = 6
		case "Code":
			r.Code = 1
		case "Yes":
			r.Yes = true
		case "Text":
			r.Text = "x"
		}
	}
	return r
}

// scatter answers numbers below the one it is asked with, the same ones for the same seed.
func scatter(seed uint64) func(n int) int {
	x := seed*2654435761 + 88172645463325252
	return func(n int) int {
		x ^= x << 13
		x ^= x >> 7
		x ^= x << 17
		return int(x >> 33 % uint64(n))
	}
}

var (
	full = strings.Repeat("ab", 120) // a text of 240 bytes
	last = "\xff\x7f\xff\xff\xff\xff\xff\xff\xff"
	past = "\xff\x80\x00\x00\x00\x00\x00\x00\x00" // 2^63
	high = "\xff\xff\xff\xff\xff\xff\xff\xff\xff" // 2^64 - 1
)

// good are records that may be, the bodies that they are put as, and how they are shown.
var good = []struct {
	r    record.Record
	body string
	show string
}{
	{record.Record{Kind: record.Malformed}, "\x00\x00", "malformed 0 0"},
	{record.Record{Kind: record.Malformed, Source: 1, Num: 9}, "\x01\x09", "malformed 1 9"},
	{record.Record{Kind: record.Malformed, Source: 7, Num: greatest}, "\x07" + last, "malformed 7 9223372036854775807"},
	{record.Record{Kind: record.Wrong, Source: 2, Code: 13}, "\x02\x0d", "wrong 2 13"},
	{record.Record{Kind: record.Wrong, Source: 2, Code: 247}, "\x02\xf7", "wrong 2 247"},
	{record.Record{Kind: record.Wrong, Source: 2, Code: 255}, "\x02\xf8\xff", "wrong 2 255"},
	{record.Record{Kind: record.Refused, Source: 3, Code: 41}, "\x03\x29", "refused 3 41"},
	{record.Record{Kind: record.Rejected, Source: 1, Seq: 2, At: 3, Code: 42}, "\x01\x02\x03\x2a", "rejected 1 2 3 42"},
	{record.Record{Kind: record.Rejected, Source: 7, Seq: most, At: greatest, Code: 43}, "\x07" + high + last + "\x2b", "rejected 7 18446744073709551615 9223372036854775807 43"},
	{record.Record{Kind: record.Shed, Source: 4, Seq: 5, At: 6}, "\x04\x05\x06", "shed 4 5 6"},
	{record.Record{Kind: record.Late, Source: 5, Seq: 248, At: 300}, "\x05\xf8\xf8\xf9\x01\x2c", "late 5 248 300"},
	{record.Record{Kind: record.Accepted}, "\x00\x00\x00", "accepted 0 0 0"},
	{record.Record{Kind: record.Accepted, Source: 6, Seq: 300, At: 247}, "\x06\xf9\x01\x2c\xf7", "accepted 6 300 247"},
	{record.Record{Kind: record.Gap, Source: 1, Seq: 10}, "\x01\x0a", "gap 1 10"},
	{record.Record{Kind: record.Gap, Source: 1, Seq: most}, "\x01" + high, "gap 1 18446744073709551615"},
	{record.Record{Kind: record.Suspect, Source: 3, At: 12}, "\x03\x0c", "suspect 3 12"},
	{record.Record{Kind: record.Rejoin}, "\x00", "rejoin 0"},
	{record.Record{Kind: record.Rejoin, Source: 7}, "\x07", "rejoin 7"},
	{record.Record{Kind: record.Overflow, Code: 1, At: greatest}, "\x01" + last, "overflow 1 9223372036854775807"},
	{record.Record{Kind: record.Overflow, Code: 2, At: 5}, "\x02\x05", "overflow 2 5"},
	{record.Record{Kind: record.Overflow, Code: 255}, "\xf8\xff\x00", "overflow 255 0"},
	{record.Record{Kind: record.Provisional, At: 8, Yes: true}, "\x08\x01", "provisional 8 yes"},
	{record.Record{Kind: record.Provisional}, "\x00\x00", "provisional 0 no"},
	{record.Record{Kind: record.Retraction, At: 9}, "\x09\x00", "retraction 9 no"},
	{record.Record{Kind: record.Retraction, At: 9, Yes: true}, "\x09\x01", "retraction 9 yes"},
	{record.Record{Kind: record.Final, At: 7, Yes: true}, "\x07\x01", "final 7 yes"},
	{record.Record{Kind: record.Final, At: greatest}, last + "\x00", "final 9223372036854775807 no"},
	{record.Record{Kind: record.Latency, At: 7, Num: 4}, "\x07\x04", "latency 7 4"},
	{record.Record{Kind: record.Latency, At: greatest, Num: greatest}, last + last, "latency 9223372036854775807 9223372036854775807"},
	{record.Record{Kind: record.Summary}, "\x00", "summary "},
	{record.Record{Kind: record.Summary, Text: "a b"}, "\x03a b", "summary a b"},
	{record.Record{Kind: record.Summary, Text: " \x00\n\xff\xa5"}, "\x05 \x00\n\xff\xa5", "summary  \x00\n\xff\xa5"},
	{record.Record{Kind: record.Summary, Text: full}, "\xf0" + full, "summary " + full},
}

// bad are records that may not be.
var bad = []struct {
	what string
	r    record.Record
}{
	{"nothing", record.Record{}},
	{"kind 16", record.Record{Kind: 16}},
	{"kind 33", record.Record{Kind: 33}},
	{"kind 255", record.Record{Kind: 255}},
	{"a message's kind", record.Record{Kind: 1, Seq: 5}},
	{"a source below 0", record.Record{Kind: record.Rejoin, Source: -1}},
	{"source 8", record.Record{Kind: record.Rejoin, Source: 8}},
	{"source 256", record.Record{Kind: record.Rejoin, Source: 256}},
	{"the least source", record.Record{Kind: record.Gap, Source: math.MinInt}},
	{"the greatest source", record.Record{Kind: record.Gap, Source: math.MaxInt}},
	{"a moment below 0", record.Record{Kind: record.Final, At: -1}},
	{"the least moment", record.Record{Kind: record.Suspect, At: math.MinInt64}},
	{"a number below 0", record.Record{Kind: record.Latency, Num: -1}},
	{"the least number", record.Record{Kind: record.Malformed, Num: math.MinInt64}},
	{"a code below 0", record.Record{Kind: record.Wrong, Code: -1}},
	{"code 256", record.Record{Kind: record.Refused, Code: 256}},
	{"the least code", record.Record{Kind: record.Overflow, Code: math.MinInt}},
	{"the greatest code", record.Record{Kind: record.Rejected, Code: math.MaxInt}},
	{"a text of 241 bytes", record.Record{Kind: record.Summary, Text: full + "c"}},
	{"a text of 1000 bytes", record.Record{Kind: record.Summary, Text: strings.Repeat("c", 1000)}},
	{"a text that isn't its kind's", record.Record{Kind: record.Rejoin, Text: "\x00"}},
	{"a great text that isn't its kind's", record.Record{Kind: record.Rejoin, Text: full + "c"}},
	{"a source that isn't its kind's", record.Record{Kind: record.Final, Source: 1}},
	{"a source below 0 that isn't its kind's", record.Record{Kind: record.Final, Source: -1}},
	{"a moment below 0 that isn't its kind's", record.Record{Kind: record.Gap, At: -1}},
	{"a number that isn't its kind's", record.Record{Kind: record.Rejected, Num: 1}},
	{"a yes that isn't its kind's", record.Record{Kind: record.Gap, Yes: true}},
	{"a code that isn't its kind's", record.Record{Kind: record.Shed, Code: 41}},
	{"a sequence that isn't its kind's", record.Record{Kind: record.Suspect, Seq: 1}},
}

// P7.1: the kinds are the document's numbers.
func TestKinds(t *testing.T) {
	for i, k := range []int{
		record.Malformed, record.Wrong, record.Refused, record.Rejected, record.Shed, record.Late, record.Accepted, record.Gap,
		record.Suspect, record.Rejoin, record.Overflow, record.Provisional, record.Retraction, record.Final, record.Latency, record.Summary,
	} {
		if k != 17+i {
			t.Errorf("kind %d is %d", 17+i, k)
		}
	}
}

// P7.1: records that may be, and such as may not.
func TestMay(t *testing.T) {
	for _, c := range good {
		if !record.May(c.r) {
			t.Errorf("%v may not be", c.r)
		}
	}
	for _, c := range bad {
		if record.May(c.r) {
			t.Errorf("%s: may be", c.what)
		}
	}
}

// P7.1: of each kind, with each set of fields that aren't 0, false or empty.
func TestMayOfEachSetOfFields(t *testing.T) {
	for kind := range 256 {
		for set := range 1 << len(names) {
			var l []string
			want := row(kind) != nil
			for i, f := range names {
				if set>>i&1 == 1 {
					l = append(l, f)
					want = want && slices.Contains(row(kind)[1:], f)
				}
			}
			if record.May(filled(byte(kind), l...)) != want {
				t.Errorf("May of kind %d with %v isn't %v", kind, l, want)
			}
		}
	}
}

// P7.1: each field of each kind that has it, at its ends and behind them.
func TestMayAtTheEnds(t *testing.T) {
	ends := map[string][]struct {
		r  record.Record
		is bool
	}{
		"Source": {{record.Record{Source: 0}, true}, {record.Record{Source: 7}, true}, {record.Record{Source: 8}, false}, {record.Record{Source: -1}, false}},
		"Seq":    {{record.Record{Seq: 0}, true}, {record.Record{Seq: 1 << 63}, true}, {record.Record{Seq: most}, true}},
		"At":     {{record.Record{At: 0}, true}, {record.Record{At: greatest}, true}, {record.Record{At: -1}, false}, {record.Record{At: math.MinInt64}, false}},
		"Num":    {{record.Record{Num: 0}, true}, {record.Record{Num: greatest}, true}, {record.Record{Num: -1}, false}, {record.Record{Num: math.MinInt64}, false}},
		"Code":   {{record.Record{Code: 0}, true}, {record.Record{Code: 255}, true}, {record.Record{Code: 256}, false}, {record.Record{Code: -1}, false}},
		"Yes":    {{record.Record{Yes: false}, true}, {record.Record{Yes: true}, true}},
		"Text":   {{record.Record{Text: ""}, true}, {record.Record{Text: full}, true}, {record.Record{Text: full + "c"}, false}},
	}
	for kind := 17; kind <= 32; kind++ {
		for _, f := range row(kind)[1:] {
			for _, c := range ends[f] {
				r := c.r
				r.Kind = byte(kind)
				if record.May(r) != c.is || (record.Put(r) != nil) != c.is || (record.Show(r) != "") != c.is {
					t.Errorf("%v: %v, % x, %q, want %v", r, record.May(r), record.Put(r), record.Show(r), c.is)
				}
			}
		}
	}
}

// framed is the bytes of a frame, told step by step.
func framed(kind byte, body string) []byte {
	b := []byte{0xA5, kind, byte(len(body) / 256), byte(len(body) % 256)}
	b = append(b, body...)
	return append(b, crc.Put(crc.Sum(b[1:]))...)
}

// P7.2: the bytes of records.
func TestPut(t *testing.T) {
	for _, c := range good {
		if b := record.Put(c.r); !bytes.Equal(b, framed(c.r.Kind, c.body)) {
			t.Errorf("Put(%v) = % x, want % x", c.r, b, framed(c.r.Kind, c.body))
		}
	}
	for _, c := range bad {
		if b := record.Put(c.r); b != nil {
			t.Errorf("%s: put as % x", c.what, b)
		}
	}
}

// P7.2, P7.4: the records of bodies.
func TestTake(t *testing.T) {
	for _, c := range good {
		if r, e := record.Take(c.r.Kind, []byte(c.body)); r != c.r || e != api.OK {
			t.Errorf("Take(%d, % x) = %v, %d, want %v", c.r.Kind, c.body, r, e, c.r)
		}
	}
}

// P7.2: what is wrong with bytes; the first that is wrong is told.
func TestTakeOfWrongBytes(t *testing.T) {
	for _, c := range []struct {
		what string
		kind byte
		body string
		want api.Errno
	}{
		{"kind 0", 0, "", api.ErrArg},
		{"kind 16", 16, "\x00", api.ErrArg},
		{"kind 33", 33, "\x00", api.ErrArg},
		{"a message's kind, ahead of a number that is none", 2, "\xf8\x00", api.ErrArg},

		{"a final of nothing", record.Final, "", api.ErrShort},
		{"a final of one number", record.Final, "\x07", api.ErrShort},
		{"a final, cut", record.Final, "\xf9\x01", api.ErrShort},
		{"a final, cut in its answer", record.Final, "\x07\xf8", api.ErrShort},
		{"a final whose moment has shorter bytes", record.Final, "\xf8\xf7\x01", api.ErrForm},
		{"a final whose answer has shorter bytes", record.Final, "\x07\xf8\x01", api.ErrForm},
		{"a final, and a byte", record.Final, "\x07\x01\x00", api.ErrLeft},
		{"a final of the answer 2", record.Final, "\x07\x02", api.ErrForm},
		{"a final of the answer 256", record.Final, "\x07\xf9\x01\x00", api.ErrForm},
		{"a final of the answer 2^32 + 1, cut", record.Final, "\x07\xfc\x01\x00\x00\x00", api.ErrShort},
		{"a final of the answer 2^32 + 1, and a byte", record.Final, "\x07\xfc\x01\x00\x00\x00\x01\x00", api.ErrLeft},
		{"a final of the answer 2^32 + 1", record.Final, "\x07\xfc\x01\x00\x00\x00\x01", api.ErrForm},
		{"a final of the answer 2^32", record.Final, "\x07\xfc\x01\x00\x00\x00\x00", api.ErrForm},
		{"a provisional of the answer 2^64 - 1", record.Provisional, "\x07" + high, api.ErrForm},
		{"a retraction of the answer 255", record.Retraction, "\x07\xf8\xff", api.ErrForm},
		{"a final of 2^63", record.Final, past + "\x01", api.ErrForm},
		{"a final of 2^64 - 1", record.Final, high + "\x00", api.ErrForm},
		{"what isn't there, ahead of a moment that may not be", record.Final, past, api.ErrShort},
		{"what is left, ahead of a moment that may not be", record.Final, past + "\x01\x00", api.ErrLeft},
		{"what is left, ahead of an answer that may not be", record.Final, "\x07\x02\x00", api.ErrLeft},

		{"a rejoin of nothing", record.Rejoin, "", api.ErrShort},
		{"a rejoin of source 8", record.Rejoin, "\x08", api.ErrForm},
		{"a rejoin of source 256", record.Rejoin, "\xf9\x01\x00", api.ErrForm},
		{"a rejoin of source 2^32", record.Rejoin, "\xfc\x01\x00\x00\x00\x00", api.ErrForm},
		{"a rejoin of source 2^63", record.Rejoin, past, api.ErrForm},
		{"a rejoin of source 2^64 - 1", record.Rejoin, high, api.ErrForm},
		{"a rejoin of source 8, and a byte", record.Rejoin, "\x08\x00", api.ErrLeft},
		{"a rejoin, and a number that is none", record.Rejoin, "\x01\xf8\x00", api.ErrLeft},

		{"a source that may not be, ahead of nothing", record.Malformed, "\x08", api.ErrShort},
		{"a source that may not be, ahead of a number with shorter bytes", record.Malformed, "\x08\xf8\x00", api.ErrForm},
		{"a source that may not be, ahead of a number that may", record.Malformed, "\x08\x01", api.ErrForm},
		{"2^63 bytes that are in no frame", record.Malformed, "\x01" + past, api.ErrForm},
		{"a latency of 2^64 - 1", record.Latency, "\x01" + high, api.ErrForm},

		{"code 256", record.Wrong, "\x01\xf9\x01\x00", api.ErrForm},
		{"code 2^64 - 1", record.Refused, "\x01" + high, api.ErrForm},
		{"code 256, ahead of a moment", record.Overflow, "\xf9\x01\x00\x05", api.ErrForm},
		{"code 256, ahead of nothing", record.Overflow, "\xf9\x01\x00", api.ErrShort},
		{"the last field's code is wrong", record.Rejected, "\x01\x02\x03\xf9\x01\x00", api.ErrForm},
		{"all numbers are wrong", record.Rejected, "\x08" + high + past + "\xf9\x01\x00", api.ErrForm},
		{"three numbers of four", record.Rejected, "\x01\x02\x03", api.ErrShort},
		{"five numbers of four", record.Rejected, "\x01\x02\x03\x2a\x00", api.ErrLeft},
		{"two numbers of three", record.Accepted, "\x01\x02", api.ErrShort},
		{"four numbers of three", record.Accepted, "\x01\x02\x03\x04", api.ErrLeft},

		{"a summary of nothing", record.Summary, "", api.ErrShort},
		{"a summary, cut", record.Summary, "\x03ab", api.ErrShort},
		{"a summary of 241 bytes", record.Summary, "\xf1" + full + "c", api.ErrLong},
		{"a summary of 241 bytes that aren't there", record.Summary, "\xf1", api.ErrLong},
		{"a summary of 240 bytes that aren't there", record.Summary, "\xf0" + full[1:], api.ErrShort},
		{"a summary of 2^64 - 1 bytes", record.Summary, high, api.ErrLong},
		{"a summary whose length has shorter bytes", record.Summary, "\xf8\x01a", api.ErrForm},
		{"a summary, and a byte", record.Summary, "\x01a\x00", api.ErrLeft},
		{"a summary of 240 bytes, and a byte", record.Summary, "\xf0" + full + "c", api.ErrLeft},
	} {
		if r, e := record.Take(c.kind, []byte(c.body)); e != c.want || r != (record.Record{}) {
			t.Errorf("%s: %v, %d, want error %d", c.what, r, e, c.want)
		}
	}
}

// P7.2: no kind but the sixteen, whatever the body is.
func TestTakeOfEachKind(t *testing.T) {
	for kind := range 256 {
		for _, body := range []string{"", "\x00", "\x00\x00", "\x00\x00\x00\x00", "\xff"} {
			_, e := record.Take(byte(kind), []byte(body))
			if (e == api.ErrArg) != (row(kind) == nil) {
				t.Errorf("Take(%d, % x): error %d", kind, body, e)
			}
		}
	}
}

// plainNum is the number that bytes begin with, and what is behind it.
func plainNum(b []byte) (uint64, []byte, api.Errno) {
	if len(b) == 0 {
		return 0, nil, api.ErrShort
	}
	if b[0] < 248 {
		return uint64(b[0]), b[1:], api.OK
	}
	k := int(b[0]) - 247
	if len(b) < 1+k {
		return 0, nil, api.ErrShort
	}
	var u uint64
	for i := range k {
		u = u<<8 + uint64(b[1+i])
	}
	if u < 248 || b[1] == 0 {
		return 0, nil, api.ErrForm
	}
	return u, b[1+k:], api.OK
}

// plainTake is Take, told step by step.
func plainTake(kind byte, b []byte) (r record.Record, e api.Errno) {
	if row(int(kind)) == nil {
		return r, api.ErrArg
	}
	r.Kind = kind
	wrong := false
	for _, f := range row(int(kind))[1:] {
		var u uint64
		if u, b, e = plainNum(b); e != api.OK {
			return record.Record{}, e
		}
		switch f {
		case "Source":
			wrong = wrong || u > 7
			r.Source = int(u)
		case "Seq":
			r.Seq = u
		case "At":
			wrong = wrong || u > 1<<63-1
			r.At = int64(u)
		case "Num":
			wrong = wrong || u > 1<<63-1
			r.Num = int64(u)
		case "Code":
			wrong = wrong || u > 255
			r.Code = int(u)
		case "Yes":
			wrong = wrong || u > 1
			r.Yes = u == 1
		case "Text":
			if u > 240 {
				return record.Record{}, api.ErrLong
			}
			if u > uint64(len(b)) {
				return record.Record{}, api.ErrShort
			}
			r.Text, b = string(b[:u]), b[u:]
		}
	}
	if len(b) > 0 {
		return record.Record{}, api.ErrLeft
	}
	if wrong {
		return record.Record{}, api.ErrForm
	}
	return r, api.OK
}

// hold holds what Take answers against the plain way, and what is taken against its bytes.
func hold(t *testing.T, kind byte, body []byte) {
	t.Helper()
	r, e := record.Take(kind, body)
	w, we := plainTake(kind, body)
	if e != we || r != w {
		t.Fatalf("Take(%d, % x) = %v, %d, want %v, %d", kind, body, r, e, w, we)
	}
	if e != api.OK {
		return
	}
	if b := record.Put(r); !record.May(r) || !bytes.Equal(b, framed(kind, string(body))) {
		t.Fatalf("Put(%v) = % x, want % x", r, b, framed(kind, string(body)))
	}
}

// P7.2, P7.4: all short bodies of some bytes, of each kind, held against the plain way.
func TestTakeOfAllShortBodies(t *testing.T) {
	letters := []byte("\x00\x01\x02\x07\x08\xf7\xf8\xf9\xff")
	var each func(b []byte, n int)
	each = func(b []byte, n int) {
		for kind := byte(16); kind <= 33; kind++ {
			hold(t, kind, b)
		}
		if n == 0 {
			return
		}
		for _, c := range letters {
			each(append(b, c), n-1)
		}
	}
	each(make([]byte, 0, 8), 5)
}

// some is a record that may be, of small and great numbers.
func some(next func(int) int) record.Record {
	moments := []int64{0, 1, 247, 248, 300, 65536, greatest - 1, greatest}
	r := record.Record{Kind: byte(17 + next(16))}
	for _, f := range row(int(r.Kind))[1:] {
		switch f {
		case "Source":
			r.Source = next(8)
		case "Seq":
			r.Seq = []uint64{0, 1, 247, 248, 70000, 1 << 40, 1 << 63, most}[next(8)]
		case "At":
			r.At = moments[next(len(moments))]
		case "Num":
			r.Num = moments[next(len(moments))]
		case "Code":
			r.Code = next(256)
		case "Yes":
			r.Yes = next(2) == 1
		case "Text":
			for range next(241) {
				r.Text += string([]byte{byte(next(256))})
			}
		}
	}
	return r
}

// body is the body of a record's frame.
func body(t *testing.T, r record.Record) []byte {
	t.Helper()
	b := record.Put(r)
	if len(b) < 7 {
		t.Fatalf("Put(%v) = % x", r, b)
	}
	return b[4 : len(b)-3]
}

// P7.2, P7.4: bodies of records are taken; cut, changed or made longer, they are held against the plain way.
func TestTakeOfMany(t *testing.T) {
	kinds := map[byte]int{}
	for seed := range uint64(4000) {
		next := scatter(seed)
		r := some(next)
		b := body(t, r)
		if w, e := record.Take(r.Kind, b); e != api.OK || w != r {
			t.Fatalf("Take(%d, % x) = %v, %d, want %v", r.Kind, b, w, e, r)
		}
		kinds[r.Kind]++
		for kind := byte(16); kind <= 33; kind++ {
			hold(t, kind, b)
			hold(t, kind, append(slices.Clone(b), byte(next(256))))
			hold(t, kind, b[:next(len(b))])
			x := slices.Clone(b)
			x[next(len(x))] = byte(next(256))
			hold(t, kind, x)
		}
	}
	if len(kinds) != 16 {
		t.Errorf("kinds: %v", kinds)
	}
}

// none fails, unless there are no records, and this error.
func none(t *testing.T, what string, b []byte, want api.Errno) {
	t.Helper()
	if l, e := record.All(b); l != nil || e != want {
		t.Errorf("%s: %v, %d, want error %d", what, l, e, want)
	}
}

// P7.2, P7.4: records that are put, one behind the other, are all of them again.
func TestAll(t *testing.T) {
	none(t, "nil", nil, api.OK)
	none(t, "no bytes", []byte{}, api.OK)
	var b []byte
	var want []record.Record
	for _, c := range good {
		b = append(b, record.Put(c.r)...)
		want = append(want, c.r)
		if l, e := record.All(b); e != api.OK || !slices.Equal(l, want) {
			t.Fatalf("All of %d records = %v, %d", len(want), l, e)
		}
	}
	for seed := range uint64(300) {
		next := scatter(seed)
		b, want = nil, nil
		for range 1 + next(30) {
			r := some(next)
			b = append(b, record.Put(r)...)
			want = append(want, r)
		}
		if l, e := record.All(b); e != api.OK || !slices.Equal(l, want) {
			t.Fatalf("All of seed %d = %v, %d, want %v", seed, l, e, want)
		}
	}
}

// P7.2: bytes that are no records; the first item that is none is told.
func TestAllOfWrongBytes(t *testing.T) {
	final := string(framed(record.Final, "\x07\x01"))
	rejoin := string(framed(record.Rejoin, "\x02"))
	short := string(framed(record.Final, "\x07"))
	left := string(framed(record.Rejoin, "\x02\x02"))
	form := string(framed(record.Rejoin, "\x08"))
	long := string(framed(record.Summary, "\xf1"))
	hello := string(framed(1, "\x07"))
	torn := final[:len(final)-1] + string(final[len(final)-1]^1)
	for _, c := range []struct {
		what string
		b    string
		want api.Errno
	}{
		{"a byte", "\x00", api.ErrForm},
		{"a mark", "\xa5", api.ErrForm},
		{"a frame, cut", final[:len(final)-1], api.ErrForm},
		{"a frame without its mark", final[1:], api.ErrForm},
		{"a frame with another sum", torn, api.ErrForm},
		{"a byte ahead", "\x00" + final, api.ErrForm},
		{"a byte between", final + "\x00" + rejoin, api.ErrForm},
		{"a byte behind", final + rejoin + "\x00", api.ErrForm},
		{"a mark behind", final + "\xa5", api.ErrForm},
		{"a cut frame behind", final + rejoin[:5], api.ErrForm},
		{"a frame of a message", hello, api.ErrArg},
		{"a frame of a message, behind others", final + rejoin + hello, api.ErrArg},
		{"a frame of kind 33", string(framed(33, "")), api.ErrArg},
		{"a short body", short, api.ErrShort},
		{"a body with more", rejoin + left, api.ErrLeft},
		{"a body with another number", form + final, api.ErrForm},
		{"a long text", final + long, api.ErrLong},
		{"a short body, ahead of a frame of a message", short + hello, api.ErrShort},
		{"a frame of a message, ahead of a short body", hello + short, api.ErrArg},
		{"a byte, ahead of a short body", final + "\x00" + short, api.ErrForm},
		{"a short body, ahead of a byte", short + "\x00" + final, api.ErrShort},
		{"a body with more, ahead of a cut frame", left + final[:6], api.ErrLeft},
	} {
		none(t, c.what, []byte(c.b), c.want)
	}
}

// plainAll is All, told item by item.
func plainAll(b []byte) (l []record.Record, e api.Errno) {
	d := frame.New()
	for i := range b {
		d.Give(b[i : i+1])
	}
	d.End()
	for x, is := d.Next(); is; x, is = d.Next() {
		if x.Skip > 0 {
			return nil, api.ErrForm
		}
		r, e := plainTake(x.Frame.Kind, x.Frame.Body)
		if e != api.OK {
			return nil, e
		}
		l = append(l, r)
	}
	return l, api.OK
}

// P7.2, P7.4: bytes of records and of other frames, with some of them changed; what is taken is put as those bytes.
func TestAllOfMany(t *testing.T) {
	errors := map[api.Errno]int{}
	for seed := range uint64(6000) {
		next := scatter(seed)
		var b []byte
		for range next(5) {
			r := some(next)
			x := string(body(t, r))
			switch next(12) {
			case 0:
				x = x[:next(len(x))]
			case 1:
				x += "\x00"
			case 2:
				r.Kind = byte(next(34))
			case 3:
				x = string([]byte{byte(next(256))}) + x[1:]
			}
			b = append(b, framed(r.Kind, x)...)
		}
		switch n := len(b); {
		case n > 0 && seed%5 == 0:
			b[next(n)]++
		case n > 0 && seed%5 == 1:
			b = b[:next(n)]
		}
		l, e := record.All(b)
		w, we := plainAll(b)
		if e != we || !slices.Equal(l, w) || e != api.OK && l != nil {
			t.Fatalf("All(% x) = %v, %d, want %v, %d", b, l, e, w, we)
		}
		errors[e]++
		var again []byte
		for _, r := range l {
			again = append(again, record.Put(r)...)
		}
		if e == api.OK && !bytes.Equal(again, b) {
			t.Fatalf("All(% x) is put as % x", b, again)
		}
	}
	for _, e := range []api.Errno{api.OK, api.ErrArg, api.ErrShort, api.ErrForm, api.ErrLeft, api.ErrLong} {
		if errors[e] == 0 {
			t.Errorf("error %d never came: %v", e, errors)
		}
	}
}

// P7.3: records as texts.
func TestShow(t *testing.T) {
	for _, c := range good {
		if s := record.Show(c.r); s != c.show {
			t.Errorf("Show(%v) = %q, want %q", c.r, s, c.show)
		}
	}
	for _, c := range bad {
		if s := record.Show(c.r); s != "" {
			t.Errorf("%s: shown as %q", c.what, s)
		}
	}
}

// P7.3: of each kind its word, and its fields in order.
func TestShowOfMany(t *testing.T) {
	for seed := range uint64(4000) {
		r := some(scatter(seed))
		want := row(int(r.Kind))[0]
		for _, f := range row(int(r.Kind))[1:] {
			want += " " + map[string]string{
				"Source": fmt.Sprint(r.Source), "Seq": fmt.Sprint(r.Seq), "At": fmt.Sprint(r.At), "Num": fmt.Sprint(r.Num),
				"Code": fmt.Sprint(r.Code), "Yes": map[bool]string{true: "yes", false: "no"}[r.Yes], "Text": r.Text,
			}[f]
		}
		if s := record.Show(r); s != want {
			t.Fatalf("Show(%v) = %q, want %q", r, s, want)
		}
	}
}

// Nothing that is handed in is changed or kept, and what is answered is nobody else's memory.
func TestNewMemory(t *testing.T) {
	r := record.Record{Kind: record.Summary, Text: "abc"}
	a, b := record.Put(r), record.Put(r)
	was := slices.Clone(b)
	clear(a)
	if !bytes.Equal(b, was) {
		t.Errorf("bytes changed to % x", b)
	}

	in := []byte("\x03abc")
	x, _ := record.Take(record.Summary, in)
	if string(in) != "\x03abc" {
		t.Errorf("bytes were changed: % x", in)
	}
	clear(in)
	l, _ := record.All(b)
	m, _ := record.All(b)
	if !bytes.Equal(b, was) {
		t.Errorf("bytes were changed: % x", b)
	}
	clear(b)
	if len(l) != 1 || len(m) != 1 {
		t.Fatal(l, m)
	}
	l[0] = record.Record{}
	if x != r || m[0] != r {
		t.Errorf("records changed to %v, %v", x, m[0])
	}
	if l, _ := record.All(was); len(l) != 1 || l[0] != r {
		t.Errorf("All = %v", l)
	}
}
