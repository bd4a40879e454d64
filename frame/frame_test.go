package frame_test

import (
	"bytes"
	"slices"
	"testing"

	"lookout/api"
	"lookout/crc"
	"lookout/frame"
)

// known are some frames and their bytes' beginnings and sums.
var known = []struct {
	kind      byte
	body      string
	head, sum string
}{
	{3, "\x07", "\xa5\x03\x00\x01", "\x55\xb2\x5a"},
	{0, "", "\xa5\x00\x00\x00", "\x25\xef\x22"},
	{0xA5, "\xa5\xa5", "\xa5\xa5\x00\x02", "\x2f\x43\x4a"},
	{255, "abc", "\xa5\xff\x00\x03", "\x49\xcb\x7b"},
	{1, string(make([]byte, 256)), "\xa5\x01\x01\x00", "\x3c\x5c\x8e"},
	{2, string(rising(256)), "\xa5\x02\x01\x00", "\x67\xcc\xd9"},
}

// rising is the bytes 0, 1 and so on, n of them.
func rising(n int) []byte {
	b := make([]byte, n)
	for i := range b {
		b[i] = byte(i)
	}
	return b
}

// put is the bytes of a frame that may be.
func put(t *testing.T, kind byte, body []byte) []byte {
	t.Helper()
	b, e := frame.Put(kind, body)
	if e != api.OK {
		t.Fatalf("Put(%d, % x): error %d", kind, body, e)
	}
	return b
}

// scatter is numbers below n that look like chance, the same ones each time.
func scatter(seed uint64) func(n int) int {
	x := 88172645463325252 + seed
	return func(n int) int {
		x ^= x << 13
		x ^= x >> 7
		x ^= x << 17
		return int(x >> 16 % uint64(n))
	}
}

// part is what stands at a place of bytes: a mark that waits, a frame of so many bytes, or a byte that is skipped (both are 0).
type part struct {
	waits bool
	frame int
}

// look tells what stands at the front of bytes, as the document says it.
func look(b []byte, ended bool) part {
	if b[0] != 0xA5 {
		return part{}
	}
	if len(b)-1 < 3 {
		return part{waits: !ended}
	}
	length := 256*int(b[2]) + int(b[3])
	if length > 256 {
		return part{}
	}
	if len(b)-4 < length+3 {
		return part{waits: !ended}
	}
	sum := crc.Sum(b[1 : 4+length])
	at := b[4+length:]
	if at[0] != byte(sum>>16) || at[1] != byte(sum>>8) || at[2] != byte(sum) {
		return part{}
	}
	return part{frame: 7 + length}
}

// plain is what is to be found in bytes that are there at once, and how many of them wait.
func plain(b []byte, ended bool) (l []frame.Item, held int) {
	skip := 0
	for i := 0; i < len(b); {
		p := look(b[i:], ended)
		if p.waits {
			return l, len(b) - i
		}
		if p.frame == 0 {
			skip++
			i++
			continue
		}
		if skip > 0 {
			l = append(l, frame.Item{Skip: skip})
			skip = 0
		}
		l = append(l, frame.Item{Frame: frame.Frame{Kind: b[i+1], Body: b[i+4 : i+p.frame-3]}})
		i += p.frame
	}
	if ended && skip > 0 {
		l = append(l, frame.Item{Skip: skip})
	}
	return l, 0
}

// same tells whether items are the same.
func same(x, y frame.Item) bool {
	return x.Skip == y.Skip && x.Frame.Kind == y.Frame.Kind && bytes.Equal(x.Frame.Body, y.Frame.Body)
}

// rest is the items of a decoder that weren't told.
func rest(d *frame.Decoder) (l []frame.Item) {
	for x, is := d.Next(); is; x, is = d.Next() {
		l = append(l, x)
	}
	return l
}

// want tells it if items aren't those that are wanted.
func want(t *testing.T, what string, l, w []frame.Item) {
	t.Helper()
	if !slices.EqualFunc(l, w, same) {
		t.Errorf("%s: the items are %v, want %v", what, l, w)
	}
}

// holds tells it if so many bytes aren't held.
func holds(t *testing.T, d *frame.Decoder, n int) {
	t.Helper()
	if d.Held() != n {
		t.Errorf("%d bytes are held, want %d", d.Held(), n)
	}
}

// skip is the item of so many bytes.
func skip(n int) frame.Item { return frame.Item{Skip: n} }

// of is the item of a frame.
func of(kind byte, body string) frame.Item {
	return frame.Item{Frame: frame.Frame{Kind: kind, Body: []byte(body)}}
}

// join is bytes one behind the other.
func join(l ...[]byte) []byte { return slices.Concat(l...) }

// P4.1: the bytes of some frames.
func TestPut(t *testing.T) {
	for _, c := range known {
		if b := put(t, c.kind, []byte(c.body)); string(b) != c.head+c.body+c.sum {
			t.Errorf("Put(%d, % x) = % x", c.kind, c.body, b)
		}
	}
	if b := put(t, 0, nil); string(b) != "\xa5\x00\x00\x00\x25\xef\x22" {
		t.Errorf("Put(0, nil) = % x", b)
	}
}

// P4.1: frames of each kind, and of bodies of each length.
func TestPutOfEachLength(t *testing.T) {
	for n := range 257 {
		kind, body := byte(n), rising(n)
		b := put(t, kind, body)
		w := join([]byte{0xA5, kind, byte(n / 256), byte(n % 256)}, body)
		w = append(w, crc.Put(crc.Sum(w[1:]))...)
		if !bytes.Equal(b, w) {
			t.Errorf("Put(%d, % x) = % x, want % x", kind, body, b, w)
		}
	}
}

// P4.1: a body that has too many bytes.
func TestPutOfTooMany(t *testing.T) {
	for _, n := range []int{257, 258, 512, 65535, 65536, 65537, 1 << 20} {
		for _, kind := range []byte{0, 3, 0xA5, 255} {
			if b, e := frame.Put(kind, make([]byte, n)); len(b) != 0 || e != api.ErrLong {
				t.Errorf("Put of %d bytes: %d bytes, error %d", n, len(b), e)
			}
		}
	}
}

// P4.1: a body is not changed, and not kept.
func TestPutKeepsNothing(t *testing.T) {
	whole := []byte("abcdefghijklmnop")
	b := put(t, 3, whole[:3])
	if string(whole) != "abcdefghijklmnop" {
		t.Errorf("the body has become %q", whole)
	}
	clear(b)
	if string(whole) != "abcdefghijklmnop" {
		t.Errorf("the body is the frame's memory: %q", whole)
	}
}

// P4.2: the document's example.
func TestFrameBehindTwoBytes(t *testing.T) {
	d := frame.New()
	d.Give(join([]byte{1, 2}, put(t, 3, []byte{7})))
	holds(t, d, 0)
	want(t, "behind two bytes", rest(d), []frame.Item{skip(2), of(3, "\x07")})
}

// P4.2: how bytes are gone through, at their edges.
func TestGive(t *testing.T) {
	a, b := put(t, 3, []byte{7}), put(t, 4, nil)
	bad := bytes.Clone(a)
	bad[len(bad)-1] ^= 1
	inner := join([]byte{0xA5, 9, 0, byte(len(a))}, a)
	for _, c := range []struct {
		what  string
		b     []byte
		l     []frame.Item
		held  int
		ended []frame.Item
	}{
		{"nothing", nil, nil, 0, nil},
		{"another byte", []byte{0}, nil, 0, []frame.Item{skip(1)}},
		{"other bytes", []byte("abc"), nil, 0, []frame.Item{skip(3)}},
		{"a mark", []byte{0xA5}, nil, 1, []frame.Item{skip(1)}},
		{"marks", []byte{0xA5, 0xA5, 0xA5}, nil, 3, []frame.Item{skip(3)}},
		{"marks that are a length", []byte{0xA5, 0xA5, 0xA5, 0xA5}, nil, 3, []frame.Item{skip(4)}},
		{"a mark, and two bytes", []byte{0xA5, 0, 255}, nil, 3, []frame.Item{skip(3)}},
		{"a length of 256", []byte{0xA5, 0, 1, 0}, nil, 4, []frame.Item{skip(4)}},
		{"a length of 257", []byte{0xA5, 0, 1, 1}, nil, 0, []frame.Item{skip(4)}},
		{"a length of 512", []byte{0xA5, 0, 2, 0}, nil, 0, []frame.Item{skip(4)}},
		{"a length of 65535", []byte{0xA5, 0, 255, 255}, nil, 0, []frame.Item{skip(4)}},
		{"a frame without its last byte", a[:7], nil, 7, []frame.Item{skip(7)}},
		{"a frame", a, []frame.Item{of(3, "\x07")}, 0, nil},
		{"a frame without a body", b, []frame.Item{of(4, "")}, 0, nil},
		{"two frames", join(a, b), []frame.Item{of(3, "\x07"), of(4, "")}, 0, nil},
		{"a byte ahead", join([]byte{0}, a), []frame.Item{skip(1), of(3, "\x07")}, 0, nil},
		{"a byte behind", join(a, []byte{0}), []frame.Item{of(3, "\x07")}, 0, []frame.Item{skip(1)}},
		{"a byte between", join(a, []byte{0}, b), []frame.Item{of(3, "\x07"), skip(1), of(4, "")}, 0, nil},
		{"a mark ahead", join([]byte{0xA5}, a), []frame.Item{skip(1), of(3, "\x07")}, 0, nil},
		{"three marks ahead", join([]byte{0xA5, 0xA5, 0xA5}, a), []frame.Item{skip(3), of(3, "\x07")}, 0, nil},
		{"a length too great, and a frame", join([]byte{0xA5, 0, 1, 1}, a), []frame.Item{skip(4), of(3, "\x07")}, 0, nil},
		{"a frame's front ahead of it", join(a[:4], a), []frame.Item{skip(4), of(3, "\x07")}, 0, nil},
		{"a sum that isn't its own", bad, nil, 0, []frame.Item{skip(8)}},
		{"a sum that isn't its own, and a frame", join(bad, a), []frame.Item{skip(8), of(3, "\x07")}, 0, nil},
		{"a frame in one that waits", inner, nil, 12, []frame.Item{skip(4), of(3, "\x07")}},
		{"a frame in one that is none", join(inner, []byte{0, 0, 0}), []frame.Item{skip(4), of(3, "\x07")}, 0, []frame.Item{skip(3)}},
		{"two frames in one that waits", join([]byte{0xA5, 9, 1, 0}, a, []byte{1}, b), nil, 20, []frame.Item{skip(4), of(3, "\x07"), skip(1), of(4, "")}},
		{"a frame in a frame", put(t, 9, a), []frame.Item{of(9, string(a))}, 0, nil},
		{"a frame, and a front that waits", join(a, a[:4]), []frame.Item{of(3, "\x07")}, 4, []frame.Item{skip(4)}},
		{"bytes ahead of what waits", join([]byte{1, 2}, a[:4]), nil, 4, []frame.Item{skip(6)}},
	} {
		d := frame.New()
		d.Give(c.b)
		holds(t, d, c.held)
		want(t, c.what, rest(d), c.l)
		d.End()
		holds(t, d, 0)
		want(t, c.what+", ended", rest(d), c.ended)
	}
}

// P4.2: the bytes of a sum count each, and so does each other byte of a frame but the mark.
func TestWrongFrames(t *testing.T) {
	a := put(t, 3, []byte("abc"))
	for i := range a {
		for k := range 8 {
			b := bytes.Clone(a)
			b[i] ^= 1 << k
			d := frame.New()
			d.Give(b)
			d.End()
			want(t, "a turned bit", rest(d), []frame.Item{skip(len(a))})
		}
	}
}

// P4.2: skipped bytes are told with the next frame, not with the piece that they came in.
func TestSkippedBytesAreOneItem(t *testing.T) {
	a := put(t, 3, []byte{7})
	d := frame.New()
	for _, b := range [][]byte{{1}, {2, 0xA5}, nil, {5, 9, 9}, a[:7]} {
		d.Give(b)
		want(t, "too early", rest(d), nil)
	}
	d.Give(a[7:])
	want(t, "a frame", rest(d), []frame.Item{skip(6), of(3, "\x07")})
	d.Give([]byte{1, 2, 3})
	d.Give(a)
	want(t, "the next one", rest(d), []frame.Item{skip(3), of(3, "\x07")})
	d.Give(a)
	d.End()
	want(t, "the last one", rest(d), []frame.Item{of(3, "\x07")})
}

// P4.2: behind End nothing is done; what was found ahead of it is there still.
func TestEnd(t *testing.T) {
	a := put(t, 3, []byte{7})
	d := frame.New()
	d.Give(join(a, a[:5]))
	d.End()
	holds(t, d, 0)
	for range 3 {
		d.Give(a)
		d.Give([]byte{1, 0xA5})
		d.End()
		holds(t, d, 0)
	}
	want(t, "an end", rest(d), []frame.Item{of(3, "\x07"), skip(5)})
	d.Give(a)
	d.End()
	want(t, "behind the end", rest(d), nil)

	d = frame.New()
	d.End()
	want(t, "an end of nothing", rest(d), nil)
}

// P4.2: bytes that are given are not changed, and not kept; a body is nobody else's memory.
func TestGiveKeepsNothing(t *testing.T) {
	a := put(t, 3, []byte("abc"))
	whole := join(a, a, a[:6])
	was := bytes.Clone(whole)
	d := frame.New()
	d.Give(whole)
	if !bytes.Equal(whole, was) {
		t.Errorf("% x have become % x", was, whole)
	}
	clear(whole)
	piece := bytes.Clone(a[6:])
	d.Give(piece)
	clear(piece)
	l := rest(d)
	want(t, "cleared pieces", l, []frame.Item{of(3, "abc"), of(3, "abc"), of(3, "abc")})
	for i := range l {
		b := l[i].Frame.Body
		clear(append(b, "defghijkl"...))
		clear(b)
		want(t, "other bodies", l[i+1:], []frame.Item{of(3, "abc"), of(3, "abc"), of(3, "abc")}[i+1:])
	}
	d.Give(a)
	want(t, "bodies that were cleared", rest(d), []frame.Item{of(3, "abc")})
}

// P4.2: decoders have nothing in common.
func TestDecodersAreApart(t *testing.T) {
	a := put(t, 3, []byte{7})
	c, d := frame.New(), frame.New()
	c.Give(join([]byte{1}, a[:5]))
	d.Give(a[:3])
	c.Give(a[5:])
	want(t, "one", rest(c), []frame.Item{skip(1), of(3, "\x07")})
	holds(t, d, 3)
	c.End()
	d.Give(a[3:])
	want(t, "the other one", rest(d), []frame.Item{of(3, "\x07")})
}

// P4.3: Next tells each item once, in order, and then false and nothing.
func TestNext(t *testing.T) {
	d := frame.New()
	none := func() {
		t.Helper()
		if x, is := d.Next(); is || !same(x, frame.Item{}) {
			t.Errorf("Next = %v, %v, want nothing", x, is)
		}
	}
	none()
	d.Give(join([]byte{1}, put(t, 3, []byte("abc")), put(t, 4, nil)))
	for _, w := range []frame.Item{skip(1), of(3, "abc")} {
		if x, is := d.Next(); !is || !same(x, w) {
			t.Errorf("Next = %v, %v, want %v", x, is, w)
		}
	}
	d.Give(put(t, 5, []byte("d")))
	want(t, "what is left", rest(d), []frame.Item{of(4, ""), of(5, "d")})
	none()
	none()
	d.Give(put(t, 6, nil))
	want(t, "what comes later", rest(d), []frame.Item{of(6, "")})
	d.End()
	none()
}

// P4.3: what Items doesn't hand out, since it is stopped, is there still.
func TestItems(t *testing.T) {
	d := frame.New()
	for range d.Items() {
		t.Error("an item of nothing")
	}
	items := d.Items()
	d.Give(join([]byte{1}, put(t, 3, nil), put(t, 4, nil), put(t, 5, nil), []byte{2}))
	all := []frame.Item{skip(1), of(3, ""), of(4, ""), of(5, ""), skip(1)}
	for i := range 2 {
		for x := range items {
			want(t, "the first one", []frame.Item{x}, all[i:i+1])
			break
		}
	}
	if x, is := d.Next(); !is || !same(x, all[2]) {
		t.Errorf("Next = %v, %v, want %v", x, is, all[2])
	}
	d.End()
	var l []frame.Item
	for x := range d.Items() {
		l = append(l, x)
	}
	want(t, "what is left", l, all[3:])
	for range items {
		t.Error("an item was told twice")
	}
	want(t, "behind all", rest(d), nil)
}

// P4.3: an item is told once, even if it is asked for while others are handed out.
func TestItemsWhileNext(t *testing.T) {
	d := frame.New()
	for kind := range byte(6) {
		d.Give(put(t, kind, nil))
	}
	var l []frame.Item
	for x := range d.Items() {
		l = append(l, x)
		if y, is := d.Next(); is {
			l = append(l, y)
		}
	}
	want(t, "by turns", l, []frame.Item{of(0, ""), of(1, ""), of(2, ""), of(3, ""), of(4, ""), of(5, "")})
}

// P4.3: Items, where nobody takes them, hands out nothing.
func TestItemsForNobody(t *testing.T) {
	d := frame.New()
	d.Give(put(t, 3, nil))
	d.Items()(nil)
	want(t, "for nobody", rest(d), []frame.Item{of(3, "")})
}

// P4.3: a decoder that is none.
func TestDecoderThatIsNone(t *testing.T) {
	var d *frame.Decoder
	d.Give(put(t, 3, nil))
	d.End()
	if x, is := d.Next(); is || !same(x, frame.Item{}) {
		t.Errorf("Next = %v, %v", x, is)
	}
	for range d.Items() {
		t.Error("an item of no decoder")
	}
	holds(t, d, 0)
}

// P4.3: Held, byte by byte.
func TestHeld(t *testing.T) {
	d := frame.New()
	a := put(t, 3, make([]byte, 256))
	for range 2 {
		for i := range a {
			holds(t, d, i)
			d.Give(a[i : i+1])
		}
		holds(t, d, 0)
		d.Give([]byte{1})
		holds(t, d, 0)
	}
	d.Give(a[:262])
	holds(t, d, 262)
	d.Give([]byte{^a[262]})
	holds(t, d, 0)
	d.Give(a[:9])
	holds(t, d, 9)
	d.End()
	holds(t, d, 0)
}

// P4.4: frames one behind the other are found, each, and nothing is skipped.
func TestFramesOneBehindTheOther(t *testing.T) {
	var b []byte
	var w []frame.Item
	for n := range 257 {
		body := bytes.Repeat([]byte{0xA5, byte(n)}, n)[:n]
		b = append(b, put(t, byte(n), body)...)
		w = append(w, of(byte(n), string(body)))
	}
	for _, size := range []int{1, 2, 3, 7, 262, 263, 264, 1000, len(b)} {
		d := frame.New()
		for piece := range slices.Chunk(b, size) {
			d.Give(piece)
		}
		holds(t, d, 0)
		want(t, "frames", rest(d), w)
		d.End()
		want(t, "behind them", rest(d), nil)
	}
}

// stream is bytes of frames, of pieces of frames, of frames with a wrong byte, and of marks and lengths.
func stream(t *testing.T, next func(int) int) []byte {
	var b []byte
	for range 1 + next(8) {
		body := make([]byte, next(12))
		if next(8) == 0 {
			body = make([]byte, next(257))
		}
		for i := range body {
			body[i] = []byte{0xA5, 0, 1, byte(next(256))}[next(4)]
		}
		a := put(t, byte(next(256)), body)
		switch next(6) {
		case 0:
			a = a[:next(len(a))]
		case 1:
			a[next(len(a))] ^= byte(1 + next(255))
		case 2:
			a = join([]byte{0xA5, byte(next(3)), byte(next(2)), byte(next(64))}, a)
		case 3:
			a = append(a, []byte{0xA5, 0, 1, 0xA5, 2}[:next(6)]...)
		}
		b = append(b, a...)
	}
	return b
}

// P4.2, P4.4: how bytes are cut plays no part; at each cut there is what is found by then, and at the end the items make all.
func TestCuts(t *testing.T) {
	for seed := range uint64(3000) {
		next := scatter(seed * 7919)
		b := stream(t, next)
		d := frame.New()
		var l []frame.Item
		for i := 0; i < len(b); {
			k := min(i+next(1+next(300)), len(b))
			d.Give(b[i:k])
			i = k
			if next(2) == 0 {
				l = append(l, rest(d)...)
				w, held := plain(b[:i], false)
				want(t, "a piece", l, w)
				holds(t, d, held)
			}
			if d.Held() > 262 {
				t.Errorf("%d bytes are held", d.Held())
			}
		}
		d.End()
		l = append(l, rest(d)...)
		w, _ := plain(b, true)
		want(t, "all", l, w)
		if n := sizes(l); n != len(b) {
			t.Errorf("the items have %d bytes of % x", n, b)
		}
	}
}

// sizes is how many bytes items stand for.
func sizes(l []frame.Item) int {
	n := 0
	for _, x := range l {
		if x.Skip > 0 {
			n += x.Skip
		} else {
			n += len(x.Frame.Body) + 7
		}
	}
	return n
}

// P4.4: what is skipped, and the frames' bytes, are those that were given.
func TestBytesAreAllThere(t *testing.T) {
	for seed := range uint64(500) {
		b := stream(t, scatter(seed*104729))
		d := frame.New()
		d.Give(b)
		d.End()
		i := 0
		for x := range d.Items() {
			if x.Skip > 0 {
				i += x.Skip
				continue
			}
			a := put(t, x.Frame.Kind, x.Frame.Body)
			if !bytes.HasPrefix(b[i:], a) {
				t.Errorf("% x isn't at %d of % x", a, i, b)
			}
			i += len(a)
		}
		if i != len(b) {
			t.Errorf("%d bytes of %d", i, len(b))
		}
	}
}
