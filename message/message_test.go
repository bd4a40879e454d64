package message_test

import (
	"bytes"
	"fmt"
	"math"
	"slices"
	"strings"
	"testing"

	"lookout/api"
	"lookout/frame"
	"lookout/message"
)

// The ends of the numbers.
const (
	least    int64  = math.MinInt64
	greatest int64  = math.MaxInt64
	most     uint64 = math.MaxUint64
)

// The document's kinds.
const (
	hello = 1
	event = 2
	beat  = 3
	bye   = 4
)

// p is the proposition that a name has a value.
func p(name string, value int64) api.Prop { return api.Prop{Name: name, Value: value} }

// row is n propositions of one name, in order.
func row(n int) []api.Prop {
	l := []api.Prop{}
	for i := range n {
		l = append(l, p("a", int64(i)))
	}
	return l
}

// scatter answers numbers below the one it is asked with, the same ones for the same seed.
func scatter(seed uint64) func(n int) int {
	x := seed*2654435761 + 88172645463325252
	return func(n int) int {
		x ^= x << 13
		x ^= x >> 7
		x ^= x << 17
		return int(x >> 33 % uint64(n))
	}
}

// same tells whether messages are the same; no propositions are none, be they nil or empty.
func same(a, b message.Message) bool {
	return a.Kind == b.Kind && a.Seq == b.Seq && a.At == b.At && slices.Equal(a.Props, b.Props)
}

// good are messages that may be, and the bodies that they are put as.
var good = []struct {
	m    message.Message
	body string
}{
	{message.Message{Kind: hello}, "\x00"},
	{message.Message{Kind: hello, Seq: 247}, "\xf7"},
	{message.Message{Kind: hello, Seq: 300}, "\xf9\x01\x2c"},
	{message.Message{Kind: hello, Seq: most}, "\xff\xff\xff\xff\xff\xff\xff\xff\xff"},
	{message.Message{Kind: hello, Seq: 1, Props: []api.Prop{}}, "\x01"},
	{message.Message{Kind: beat}, "\x00"},
	{message.Message{Kind: beat, At: 5}, "\x05"},
	{message.Message{Kind: beat, At: 248}, "\xf8\xf8"},
	{message.Message{Kind: beat, At: greatest, Props: []api.Prop{}}, "\xff\x7f\xff\xff\xff\xff\xff\xff\xff"},
	{message.Message{Kind: bye}, ""},
	{message.Message{Kind: bye, Props: []api.Prop{}}, ""},
	{message.Message{Kind: event}, "\x00\x00\x00"},
	{message.Message{Kind: event, Seq: 1, At: 2, Props: []api.Prop{}}, "\x01\x02\x00"},
	{message.Message{Kind: event, Seq: 1, At: 300, Props: []api.Prop{p("a", 2)}}, "\x01\xf9\x01\x2c\x01\x01a\x04"},
	{message.Message{Kind: event, Seq: most, At: greatest}, "\xff\xff\xff\xff\xff\xff\xff\xff\xff\xff\x7f\xff\xff\xff\xff\xff\xff\xff\x00"},
	{message.Message{Kind: event, Props: []api.Prop{p("a", -1), p("a", 0), p("a1", -3), p("b", 124)}}, "\x00\x00\x04\x01a\x01\x01a\x00\x02a1\x05\x01b\xf8\xf8"},
	{message.Message{Kind: event, Props: []api.Prop{p("a", least), p("a", greatest)}}, "\x00\x00\x02\x01a\xff\xff\xff\xff\xff\xff\xff\xff\xff\x01a\xff\xff\xff\xff\xff\xff\xff\xff\xfe"},
	{message.Message{Kind: event, Props: []api.Prop{p("abcdefghijkl", 7)}}, "\x00\x00\x01\x0cabcdefghijkl\x0e"},
	{message.Message{Kind: event, Seq: 9, At: 8, Props: row(8)}, "\x09\x08\x08\x01a\x00\x01a\x02\x01a\x04\x01a\x06\x01a\x08\x01a\x0a\x01a\x0c\x01a\x0e"},
}

// bad are messages that may not be.
var bad = []struct {
	what string
	m    message.Message
}{
	{"nothing", message.Message{}},
	{"kind 5", message.Message{Kind: 5}},
	{"kind 6", message.Message{Kind: 6}},
	{"a record's kind", message.Message{Kind: 17}},
	{"kind 128 and a hello's", message.Message{Kind: 129}},
	{"kind 255", message.Message{Kind: 255}},
	{"another kind, with all fields", message.Message{Kind: 5, Seq: 1, At: 1, Props: row(1)}},
	{"kind 0, with all fields", message.Message{Seq: 1, At: 1, Props: row(1)}},
	{"a hello with a moment", message.Message{Kind: hello, Seq: 1, At: 1}},
	{"a hello with a moment below 0", message.Message{Kind: hello, Seq: 1, At: -1}},
	{"a hello with propositions", message.Message{Kind: hello, Seq: 1, Props: row(1)}},
	{"an event of a moment below 0", message.Message{Kind: event, At: -1}},
	{"an event of the least moment", message.Message{Kind: event, Seq: 1, At: least, Props: row(1)}},
	{"an event with 9 propositions", message.Message{Kind: event, Props: row(9)}},
	{"an event with many propositions", message.Message{Kind: event, Props: row(300)}},
	{"an event with no name", message.Message{Kind: event, Props: []api.Prop{{}}}},
	{"an event with true", message.Message{Kind: event, Props: []api.Prop{p("true", 1)}}},
	{"an event with false", message.Message{Kind: event, Props: []api.Prop{p("a", 1), p("false", 1)}}},
	{"an event with a great letter", message.Message{Kind: event, Props: []api.Prop{p("A", 1)}}},
	{"an event with a name of 13 bytes", message.Message{Kind: event, Props: []api.Prop{p("abcdefghijklm", 1)}}},
	{"an event with a proposition twice", message.Message{Kind: event, Props: []api.Prop{p("a", 1), p("a", 1)}}},
	{"an event with falling values", message.Message{Kind: event, Props: []api.Prop{p("a", 1), p("a", 0)}}},
	{"an event with falling names", message.Message{Kind: event, Props: []api.Prop{p("b", 0), p("a", 1)}}},
	{"a beat with a number", message.Message{Kind: beat, Seq: 1}},
	{"a beat with the greatest number", message.Message{Kind: beat, Seq: most, At: 1}},
	{"a beat of a moment below 0", message.Message{Kind: beat, At: -1}},
	{"a beat of the least moment", message.Message{Kind: beat, At: least}},
	{"a beat with propositions", message.Message{Kind: beat, At: 1, Props: row(1)}},
	{"a bye with a number", message.Message{Kind: bye, Seq: 1}},
	{"a bye with a moment", message.Message{Kind: bye, At: 1}},
	{"a bye with a moment below 0", message.Message{Kind: bye, At: -1}},
	{"a bye with propositions", message.Message{Kind: bye, Props: row(1)}},
}

// P6.1: the kinds have the document's numbers.
func TestKinds(t *testing.T) {
	if message.Hello != 1 || message.Event != 2 || message.Beat != 3 || message.Bye != 4 {
		t.Error("the kinds aren't 1 to 4")
	}
}

// P6.1: messages that may be, and others.
func TestMay(t *testing.T) {
	for _, c := range good {
		if !message.May(c.m) {
			t.Errorf("%v may not be", c.m)
		}
	}
	for _, c := range bad {
		if message.May(c.m) {
			t.Errorf("%s: may be", c.what)
		}
	}
}

// P6.1: of each kind, with each set of fields that aren't 0 or empty.
func TestMayOfEachSetOfFields(t *testing.T) {
	for kind := range 256 {
		for set := range 8 {
			m := message.Message{Kind: byte(kind)}
			seq, at, props := set&1 > 0, set&2 > 0, set&4 > 0
			if seq {
				m.Seq = 1
			}
			if at {
				m.At = 1
			}
			if props {
				m.Props = row(1)
			}
			want := false
			switch kind {
			case hello:
				want = !at && !props
			case event:
				want = true
			case beat:
				want = !seq && !props
			case bye:
				want = set == 0
			}
			if message.May(m) != want {
				t.Errorf("May(%v) isn't %v", m, want)
			}
		}
	}
}

// P6.1: as many propositions as an event may have.
func TestMayOfManyPropositions(t *testing.T) {
	for n := range 20 {
		if is := message.May(message.Message{Kind: event, Props: row(n)}); is != (n <= 8) {
			t.Errorf("%d propositions: %v", n, is)
		}
	}
}

// P6.2: the bytes of messages.
func TestPut(t *testing.T) {
	for _, c := range good {
		if b, e := message.Put(c.m); string(b) != c.body || e != api.OK {
			t.Errorf("Put(%v) = % x, %d, want % x", c.m, b, e, c.body)
		}
	}
}

// P6.2: what may not be has no bytes.
func TestPutOfWhatMayNotBe(t *testing.T) {
	for _, c := range bad {
		if b, e := message.Put(c.m); b != nil || e != api.ErrArg {
			t.Errorf("%s: % x, %d, want ErrArg", c.what, b, e)
		}
	}
}

// P6.2, P6.4: the messages of bytes.
func TestTake(t *testing.T) {
	for _, c := range good {
		m, e := message.Take(c.m.Kind, []byte(c.body))
		if e != api.OK || !same(m, c.m) {
			t.Errorf("Take(%d, % x) = %v, %d, want %v", c.m.Kind, c.body, m, e, c.m)
		}
	}
	if m, e := message.Take(bye, nil); e != api.OK || !same(m, message.Message{Kind: bye}) {
		t.Errorf("Take of a bye = %v, %d", m, e)
	}
}

// P6.2: what is wrong with bytes; the first that is wrong is told.
func TestTakeOfWrongBytes(t *testing.T) {
	long := "\xff\x80\x00\x00\x00\x00\x00\x00\x00" // 2^63
	for _, c := range []struct {
		what string
		kind byte
		body string
		want api.Errno
	}{
		{"kind 0", 0, "", api.ErrArg},
		{"kind 5", 5, "\x01", api.ErrArg},
		{"kind 255", 255, "\x01\x02\x00", api.ErrArg},
		{"another kind, ahead of a number that is none", 17, "\xf8\x00", api.ErrArg},

		{"a hello of nothing", hello, "", api.ErrShort},
		{"a hello, cut", hello, "\xf9\x01", api.ErrShort},
		{"a hello of a number with shorter bytes", hello, "\xf8\xf7", api.ErrForm},
		{"a hello, and a byte", hello, "\x01\x00", api.ErrLeft},
		{"a hello as an event", hello, "\x01\x02\x00", api.ErrLeft},

		{"a beat of nothing", beat, "", api.ErrShort},
		{"a beat, cut", beat, "\xff\x7f", api.ErrShort},
		{"a beat of a number with shorter bytes", beat, "\xf9\x00\xff", api.ErrForm},
		{"a beat behind the last moment", beat, long, api.ErrLong},
		{"a beat behind the last moment, ahead of what is left", beat, long + "\x00", api.ErrLong},
		{"a beat, and a byte", beat, "\x01\x00", api.ErrLeft},

		{"a bye, and a byte", bye, "\x00", api.ErrLeft},
		{"a bye, and a number that is none", bye, "\xf8\x00", api.ErrLeft},

		{"an event of nothing", event, "", api.ErrShort},
		{"an event of one number", event, "\x01", api.ErrShort},
		{"an event of two numbers", event, "\x01\x02", api.ErrShort},
		{"an event whose number has shorter bytes", event, "\xf8\x00\x02\x00", api.ErrForm},
		{"an event whose moment has shorter bytes", event, "\x01\xf8\x00\x00", api.ErrForm},
		{"an event whose count has shorter bytes", event, "\x01\x02\xf8\x00", api.ErrForm},
		{"an event behind the last moment", event, "\x01" + long + "\x00", api.ErrLong},
		{"an event behind the last moment, ahead of what is missing", event, "\x01" + long, api.ErrLong},
		{"a moment that is short, ahead of a count that is long", event, "\x01\xf8", api.ErrShort},
		{"a number with shorter bytes, ahead of a count that is long", event, "\xf8\x00\x02\x09", api.ErrForm},
		{"a great number is no moment", event, long + "\x02", api.ErrShort},
		{"an event, and a byte", event, "\x01\x02\x00\x00", api.ErrLeft},
		{"an event of one, and a byte", event, "\x01\x02\x01\x01a\x00\x00", api.ErrLeft},

		{"9 propositions", event, "\x01\x02\x09" + strings.Repeat("\x01a\x00", 9), api.ErrLong},
		{"9 propositions, ahead of reading them", event, "\x01\x02\x09", api.ErrLong},
		{"9 propositions, ahead of a name that is too long", event, "\x01\x02\x09\x0d", api.ErrLong},
		{"9 propositions, ahead of a length with shorter bytes", event, "\x01\x02\x09\xf8\x00", api.ErrLong},
		{"300 propositions", event, "\x01\x02\xf9\x01\x2c\xf8\x00", api.ErrLong},
		{"2^63 propositions", event, "\x01\x02" + long + "\xf8\x00", api.ErrLong},
		{"2^64 - 1 propositions", event, "\x01\x02\xff\xff\xff\xff\xff\xff\xff\xff\xff\xf8\x00", api.ErrLong},
		{"2^32 propositions", event, "\x01\x02\xfc\x01\x00\x00\x00\x00\xf8\x00", api.ErrLong},

		{"8 propositions, of which 7 are there", event, "\x01\x02\x08" + strings.Repeat("\x01a\x00", 7), api.ErrShort},
		{"a proposition that isn't there", event, "\x01\x02\x01", api.ErrShort},
		{"a name that isn't there", event, "\x01\x02\x01\x01", api.ErrShort},
		{"a name, cut", event, "\x01\x02\x01\x03ab", api.ErrShort},
		{"a value that isn't there", event, "\x01\x02\x01\x01a", api.ErrShort},
		{"a value, cut", event, "\x01\x02\x01\x01a\xf8", api.ErrShort},
		{"a value with shorter bytes", event, "\x01\x02\x01\x01a\xf8\x00", api.ErrForm},
		{"a length with shorter bytes", event, "\x01\x02\x01\xf8\x01a\x00", api.ErrForm},
		{"a name of 13 bytes", event, "\x01\x02\x01\x0dabcdefghijklm\x00", api.ErrLong},
		{"a name of 13 bytes, cut", event, "\x01\x02\x01\x0dabc", api.ErrLong},
		{"a second name of 300 bytes", event, "\x01\x02\x02\x01a\x00\xf9\x01\x2c", api.ErrLong},
		{"no name, ahead of a value that isn't there", event, "\x01\x02\x01\x01A", api.ErrShort},
		{"no name, ahead of a second one that is too long", event, "\x01\x02\x02\x01A\x00\x0d", api.ErrLong},
		{"no name, and a byte", event, "\x01\x02\x01\x01A\x00\x00", api.ErrLeft},
		{"twice, and a byte", event, "\x01\x02\x02\x01a\x00\x01a\x00\x00", api.ErrLeft},

		{"an empty name", event, "\x01\x02\x01\x00\x00", api.ErrForm},
		{"a great letter", event, "\x01\x02\x01\x01A\x00", api.ErrForm},
		{"true", event, "\x01\x02\x01\x04true\x00", api.ErrForm},
		{"a second name that is none", event, "\x01\x02\x02\x01a\x00\x05false\x00", api.ErrForm},
		{"twice", event, "\x01\x02\x02\x01a\x04\x01a\x04", api.ErrForm},
		{"falling names", event, "\x01\x02\x02\x01b\x00\x01a\x00", api.ErrForm},
		{"falling values", event, "\x01\x02\x02\x01a\x00\x01a\x01", api.ErrForm},
	} {
		m, e := message.Take(c.kind, []byte(c.body))
		if e != c.want || !same(m, message.Message{}) {
			t.Errorf("%s: %v, %d, want error %d", c.what, m, e, c.want)
		}
	}
}

// P6.2: no kind but the four, whatever the body is.
func TestTakeOfEachKind(t *testing.T) {
	for kind := range 256 {
		for _, body := range []string{"", "\x00", "\x00\x00\x00", "\x00\x00\x01", "\xff"} {
			_, e := message.Take(byte(kind), []byte(body))
			if (e == api.ErrArg) != (kind < 1 || kind > 4) {
				t.Errorf("Take(%d, % x): error %d", kind, body, e)
			}
		}
	}
}

// plainNum is the number that bytes begin with, and what is behind it.
func plainNum(b []byte) (uint64, []byte, api.Errno) {
	if len(b) == 0 {
		return 0, nil, api.ErrShort
	}
	if b[0] < 248 {
		return uint64(b[0]), b[1:], api.OK
	}
	k := int(b[0]) - 247
	if len(b) < 1+k {
		return 0, nil, api.ErrShort
	}
	var u uint64
	for i := range k {
		u = u<<8 + uint64(b[1+i])
	}
	if u < 248 || b[1] == 0 {
		return 0, nil, api.ErrForm
	}
	return u, b[1+k:], api.OK
}

// plainProp is the proposition that bytes begin with, and what is behind it.
func plainProp(b []byte) (api.Prop, []byte, api.Errno) {
	n, b, e := plainNum(b)
	switch {
	case e != api.OK:
		return api.Prop{}, nil, e
	case n > 12:
		return api.Prop{}, nil, api.ErrLong
	case n > uint64(len(b)):
		return api.Prop{}, nil, api.ErrShort
	}
	name := string(b[:n])
	u, b, e := plainNum(b[n:])
	if e != api.OK {
		return api.Prop{}, nil, e
	}
	if u%2 == 1 {
		return p(name, -1-int64(u/2)), b, api.OK
	}
	return p(name, int64(u/2)), b, api.OK
}

// plainName tells whether s is a name.
func plainName(s string) bool {
	for i, c := range []byte(s) {
		if !strings.Contains("abcdefghijklmnopqrstuvwxyz0123456789_", string(rune(c))) || i == 0 && (c < 'a' || c > 'z') {
			return false
		}
	}
	return s != "" && len(s) <= 12 && s != "true" && s != "false"
}

// plainProps are an event's propositions, and what is behind them; wrong tells of some that may not be.
func plainProps(b []byte) (l []api.Prop, rest []byte, wrong bool, e api.Errno) {
	n, b, e := plainNum(b)
	if e == api.OK && n > 8 {
		e = api.ErrLong
	}
	if e != api.OK {
		return nil, nil, false, e
	}
	for i := range int(n) {
		var x api.Prop
		if x, b, e = plainProp(b); e != api.OK {
			return nil, nil, false, e
		}
		if !plainName(x.Name) || i > 0 && !(l[i-1].Name < x.Name || l[i-1].Name == x.Name && l[i-1].Value < x.Value) {
			wrong = true
		}
		l = append(l, x)
	}
	return l, b, wrong, api.OK
}

// plainTake is Take, told step by step.
func plainTake(kind byte, b []byte) (message.Message, api.Errno) {
	m := message.Message{Kind: kind}
	if kind < 1 || kind > 4 {
		return message.Message{}, api.ErrArg
	}
	var e api.Errno
	if kind == hello || kind == event {
		if m.Seq, b, e = plainNum(b); e != api.OK {
			return message.Message{}, e
		}
	}
	if kind == beat || kind == event {
		var u uint64
		if u, b, e = plainNum(b); e == api.OK && u > uint64(greatest) {
			e = api.ErrLong
		}
		if e != api.OK {
			return message.Message{}, e
		}
		m.At = int64(u)
	}
	wrong := false
	if kind == event {
		if m.Props, b, wrong, e = plainProps(b); e != api.OK {
			return message.Message{}, e
		}
	}
	if len(b) > 0 {
		return message.Message{}, api.ErrLeft
	}
	if wrong {
		return message.Message{}, api.ErrForm
	}
	return m, api.OK
}

// hold holds what Take answers against the plain way, and what is taken against its bytes.
func hold(t *testing.T, kind byte, body []byte) {
	t.Helper()
	m, e := message.Take(kind, body)
	w, we := plainTake(kind, body)
	if e != we || !same(m, w) {
		t.Fatalf("Take(%d, % x) = %v, %d, want %v, %d", kind, body, m, e, w, we)
	}
	if e != api.OK {
		return
	}
	if b, e := message.Put(m); e != api.OK || !bytes.Equal(b, body) {
		t.Fatalf("Put(%v) = % x, %d, want % x", m, b, e, body)
	}
}

// P6.2, P6.4: all short bodies of some bytes, held against the plain way.
func TestTakeOfAllShortBodies(t *testing.T) {
	letters := []byte("\x00\x01\x02\x08\x09\x0dab\xf7\xf8\xff")
	var each func(b []byte, n int)
	each = func(b []byte, n int) {
		for kind := range byte(6) {
			hold(t, kind, b)
		}
		if n == 0 {
			return
		}
		for _, c := range letters {
			each(append(b, c), n-1)
		}
	}
	each(make([]byte, 0, 8), 5)
}

// some is a message that may be, of small and great numbers.
func some(next func(int) int) message.Message {
	ats := []int64{0, 1, 247, 248, 300, 65536, greatest - 1, greatest}
	m := message.Message{Kind: byte(1 + next(4))}
	if m.Kind == hello || m.Kind == event {
		m.Seq = []uint64{0, 1, 247, 248, 70000, 1 << 40, 1 << 63, most}[next(8)]
	}
	if m.Kind == beat || m.Kind == event {
		m.At = ats[next(len(ats))]
	}
	if m.Kind == event {
		names := []string{"a", "a0", "a_", "aa", "abcdefghijkl", "b", "truex", "z9_"}
		for i, n := 0, next(9); i < n; i++ {
			m.Props = append(m.Props, p(names[i], []int64{0, 1, -1, 123, 124, -124, -125, least, greatest}[next(9)]))
			if next(3) == 0 {
				m.Props[i].Name = "a" // held against its neighbours, it stays only where it is in order
			}
		}
		for i := 1; i < len(m.Props); i++ {
			a, b := m.Props[i-1], m.Props[i]
			if a.Name > b.Name || a.Name == b.Name && a.Value >= b.Value {
				m.Props = m.Props[:i]
			}
		}
	}
	return m
}

// P6.2, P6.4: messages are put and taken; their bytes cut, changed or made longer are held against the plain way.
func TestPutAndTakeOfMany(t *testing.T) {
	kinds := map[string]int{}
	for seed := range uint64(5000) {
		next := scatter(seed)
		m := some(next)
		b, e := message.Put(m)
		if e != api.OK || !message.May(m) {
			t.Fatalf("Put(%v) = % x, %d", m, b, e)
		}
		if w, e := message.Take(m.Kind, b); e != api.OK || !same(w, m) {
			t.Fatalf("Take(%d, % x) = %v, %d, want %v", m.Kind, b, w, e, m)
		}
		kinds[fmt.Sprint(m.Kind, len(m.Props))]++
		for kind := range byte(6) {
			hold(t, kind, b)
			hold(t, kind, append(slices.Clone(b), byte(next(256))))
			if len(b) > 0 {
				hold(t, kind, b[:next(len(b))])
				x := slices.Clone(b)
				x[next(len(x))] = byte(next(256))
				hold(t, kind, x)
			}
		}
	}
	for _, k := range []string{"1 0", "2 0", "2 1", "2 2", "2 8", "3 0", "4 0"} {
		if kinds[k] == 0 {
			t.Errorf("none of kind and propositions %s", k)
		}
	}
}

// P6.3: a frame of a message is found, and is that message again.
func TestFrame(t *testing.T) {
	d := frame.New()
	for _, c := range good {
		b := message.Frame(c.m)
		w, e := frame.Put(c.m.Kind, []byte(c.body))
		if e != api.OK || !bytes.Equal(b, w) {
			t.Errorf("Frame(%v) = % x, want % x", c.m, b, w)
		}
		d.Give(b)
	}
	d.End()
	for _, c := range good {
		x, is := d.Next()
		if !is || x.Skip != 0 || x.Frame.Kind != c.m.Kind || string(x.Frame.Body) != c.body {
			t.Fatalf("%v is found as %v, %v", c.m, x, is)
		}
		if m, e := message.Take(x.Frame.Kind, x.Frame.Body); e != api.OK || !same(m, c.m) {
			t.Errorf("%v is taken as %v, %d", c.m, m, e)
		}
	}
	if x, is := d.Next(); is {
		t.Errorf("one more: %v", x)
	}
}

// P6.3: what may not be has no frame.
func TestFrameOfWhatMayNotBe(t *testing.T) {
	for _, c := range bad {
		if b := message.Frame(c.m); b != nil {
			t.Errorf("%s: % x", c.what, b)
		}
	}
}

// P6.3: the greatest message has a frame.
func TestFrameOfTheGreatest(t *testing.T) {
	m := message.Message{Kind: event, Seq: most, At: greatest}
	for i := range int64(8) {
		m.Props = append(m.Props, p("abcdefghijkl", least+i))
	}
	b, _ := message.Put(m)
	if f := message.Frame(m); len(b) != 9+9+1+8*(13+9) || len(f) != len(b)+7 {
		t.Errorf("%d bytes, and %d in a frame", len(b), len(f))
	}
}

// Nothing that is handed in is changed or kept, and what is answered is nobody else's memory.
func TestNewMemory(t *testing.T) {
	l := append(row(3), row(5)...)
	m := message.Message{Kind: event, Seq: 1, At: 2, Props: l[:3]}
	b, _ := message.Put(m)
	f := message.Frame(m)
	if !slices.Equal(l, append(row(3), row(5)...)) {
		t.Errorf("propositions were changed: %v", l)
	}
	wasB, wasF := slices.Clone(b), slices.Clone(f)
	clear(l)
	if !bytes.Equal(b, wasB) || !bytes.Equal(f, wasF) {
		t.Error("bytes changed with the message")
	}

	body := slices.Clone(wasB)
	x, _ := message.Take(event, body)
	y, _ := message.Take(event, body)
	if !bytes.Equal(body, wasB) {
		t.Errorf("bytes were changed: % x", body)
	}
	clear(body)
	clear(x.Props)
	_ = append(x.Props[:0], p("z", 9))
	if !same(y, message.Message{Kind: event, Seq: 1, At: 2, Props: row(3)}) {
		t.Errorf("the message changed to %v", y)
	}
}
