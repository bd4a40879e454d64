package octet_test

import (
	"bytes"
	"fmt"
	"math"
	"strings"
	"testing"

	"lookout/api"
	"lookout/octet"
)

// numbers are some numbers and their bytes: each width's least and greatest one, rising.
var numbers = []struct {
	u uint64
	b string
}{
	{0, "\x00"},
	{1, "\x01"},
	{247, "\xf7"},
	{248, "\xf8\xf8"},
	{255, "\xf8\xff"},
	{256, "\xf9\x01\x00"},
	{300, "\xf9\x01\x2c"},
	{1<<16 - 1, "\xf9\xff\xff"},
	{1 << 16, "\xfa\x01\x00\x00"},
	{1<<24 - 1, "\xfa\xff\xff\xff"},
	{1 << 24, "\xfb\x01\x00\x00\x00"},
	{0x12345678, "\xfb\x12\x34\x56\x78"},
	{1<<32 - 1, "\xfb\xff\xff\xff\xff"},
	{1 << 32, "\xfc\x01\x00\x00\x00\x00"},
	{1<<40 - 1, "\xfc\xff\xff\xff\xff\xff"},
	{1 << 40, "\xfd\x01\x00\x00\x00\x00\x00"},
	{1<<48 - 1, "\xfd\xff\xff\xff\xff\xff\xff"},
	{1 << 48, "\xfe\x01\x00\x00\x00\x00\x00\x00"},
	{1<<56 - 1, "\xfe\xff\xff\xff\xff\xff\xff\xff"},
	{1 << 56, "\xff\x01\x00\x00\x00\x00\x00\x00\x00"},
	{0x0123456789abcdef, "\xff\x01\x23\x45\x67\x89\xab\xcd\xef"},
	{1<<63 - 1, "\xff\x7f\xff\xff\xff\xff\xff\xff\xff"},
	{1 << 63, "\xff\x80\x00\x00\x00\x00\x00\x00\x00"},
	{1<<64 - 1, "\xff\xff\xff\xff\xff\xff\xff\xff\xff"},
}

// scatter calls f with numbers of all widths, the same ones each time.
func scatter(f func(u uint64)) {
	for n := range 64 {
		for _, d := range []uint64{0, 1, 2, 7, 8, 9} {
			f(1<<n - d)
			f(1<<n + d)
		}
	}
	x := uint64(88172645463325252)
	for i := range 4096 {
		x ^= x << 13
		x ^= x >> 7
		x ^= x << 17
		f(x >> (i % 64))
	}
}

// P1.1: Put of one number, at the ends of each width.
func TestPutOfOneNumber(t *testing.T) {
	for _, c := range numbers {
		if b := octet.Put(c.u); string(b) != c.b {
			t.Errorf("Put(%d) = % x, want % x", c.u, b, c.b)
		}
	}
	for u := range uint64(248) {
		if b := octet.Put(u); len(b) != 1 || b[0] != byte(u) {
			t.Errorf("Put(%d) = % x", u, b)
		}
	}
}

// P1.1: Put of several numbers is one behind the other, of none nothing.
func TestPutOfSeveralNumbers(t *testing.T) {
	if b := octet.Put(); len(b) != 0 {
		t.Errorf("Put() = % x", b)
	}
	if b := octet.Put(5, 300); string(b) != "\x05\xf9\x01\x2c" {
		t.Errorf("Put(5, 300) = % x", b)
	}
	if b := octet.Put(300, 5, 5); string(b) != "\xf9\x01\x2c\x05\x05" {
		t.Errorf("Put(300, 5, 5) = % x", b)
	}
	var l []uint64
	var want string
	for _, c := range numbers {
		l = append(l, c.u)
		want += c.b
	}
	if b := octet.Put(l...); string(b) != want {
		t.Errorf("Put of all = % x, want % x", b, want)
	}
	for i, c := range numbers {
		if l[i] != c.u {
			t.Errorf("Put changed number %d to %d", c.u, l[i])
		}
	}
}

// P1.1: what Put and Texts answer is new memory.
func TestPutIsNewMemory(t *testing.T) {
	b := octet.Put(1, 2)
	b[0] = 9
	if c := octet.Put(1, 2); string(c) != "\x01\x02" {
		t.Errorf("Put(1, 2) = % x", c)
	}
	s := octet.Texts("ab")
	s[1] = 'x'
	if c := octet.Texts("ab"); string(c) != "\x02ab" {
		t.Errorf("Texts = % x", c)
	}
}

// P1.1: Take of a number's bytes, whatever stands behind them.
func TestTakeOfNumbers(t *testing.T) {
	for _, c := range numbers {
		for _, behind := range []string{"", "\x00", "\xff", "\x07\xf9\x00\xff and so on"} {
			b := []byte(c.b + behind)
			u, n, e := octet.Take(b)
			if u != c.u || n != len(c.b) || e != api.OK {
				t.Errorf("Take(% x) = %d, %d, %d, want %d, %d", b, u, n, e, c.u, len(c.b))
			}
			if string(b) != c.b+behind {
				t.Errorf("Take changed its bytes to % x", b)
			}
		}
	}
}

// P1.1: Take of bytes that end too early.
func TestTakeOfShortBytes(t *testing.T) {
	for _, b := range [][]byte{nil, {}} {
		if u, n, e := octet.Take(b); u != 0 || n != 0 || e != api.ErrShort {
			t.Errorf("Take of nothing = %d, %d, %d", u, n, e)
		}
	}
	for _, c := range numbers {
		for n := range len(c.b) {
			b := []byte(c.b[:n])
			if u, n, e := octet.Take(b); u != 0 || n != 0 || e != api.ErrShort {
				t.Errorf("Take(% x) = %d, %d, %d, want ErrShort", b, u, n, e)
			}
		}
	}
	for _, s := range []string{"\xf9\x00", "\xfa\x00\x01", "\xff\x00\x00\x00\x00\x00\x00\x00"} {
		if u, n, e := octet.Take([]byte(s)); u != 0 || n != 0 || e != api.ErrShort {
			t.Errorf("Take(% x) = %d, %d, %d, want ErrShort ahead of ErrForm", s, u, n, e)
		}
	}
}

// P1.1: Take of bytes whose number has shorter ones.
func TestTakeOfLongWays(t *testing.T) {
	for u := range 248 {
		b := []byte{248, byte(u)}
		if u, n, e := octet.Take(b); u != 0 || n != 0 || e != api.ErrForm {
			t.Errorf("Take(% x) = %d, %d, %d, want ErrForm", b, u, n, e)
		}
	}
	for k := 2; k <= 8; k++ {
		for fill := range k {
			b := append([]byte{byte(247 + k)}, make([]byte, k)...)
			for i := range fill {
				b[k-i] = 0xff
			}
			for _, b := range [][]byte{b, append(bytes.Clone(b), 1)} {
				if u, n, e := octet.Take(b); u != 0 || n != 0 || e != api.ErrForm {
					t.Errorf("Take(% x) = %d, %d, %d, want ErrForm", b, u, n, e)
				}
			}
		}
	}
}

// P1.1: Texts is of each text its length, then its bytes.
func TestTexts(t *testing.T) {
	long := strings.Repeat("x", 247)
	more := strings.Repeat("y", 248)
	far := strings.Repeat("z", 300)
	for _, c := range []struct {
		l    []string
		want string
	}{
		{nil, ""},
		{[]string{""}, "\x00"},
		{[]string{"", ""}, "\x00\x00"},
		{[]string{"a"}, "\x01a"},
		{[]string{"abc", "", "de"}, "\x03abc\x00\x02de"},
		{[]string{"\x00\xff", "\u00e9"}, "\x02\x00\xff\x02\xc3\xa9"},
		{[]string{long}, "\xf7" + long},
		{[]string{more}, "\xf8\xf8" + more},
		{[]string{far, "a"}, "\xf9\x01\x2c" + far + "\x01a"},
	} {
		if b := octet.Texts(c.l...); string(b) != c.want {
			t.Errorf("Texts(%q) = % x, want % x", c.l, b, c.want)
		}
	}
}

// P1.2: Sign and Plain of some numbers and of the ends.
func TestSignAndPlain(t *testing.T) {
	for _, c := range []struct {
		n int64
		u uint64
	}{
		{0, 0}, {-1, 1}, {1, 2}, {-2, 3}, {2, 4}, {-3, 5}, {3, 6}, {7, 14}, {-128, 255}, {128, 256},
		{1<<31 - 1, 1<<32 - 2}, {-1 << 31, 1<<32 - 1}, {1 << 62, 1 << 63}, {-1 << 62, 1<<63 - 1},
		{math.MaxInt64 - 1, math.MaxUint64 - 3}, {math.MaxInt64, math.MaxUint64 - 1},
		{math.MinInt64 + 1, math.MaxUint64 - 2}, {math.MinInt64, math.MaxUint64},
	} {
		if u := octet.Sign(c.n); u != c.u {
			t.Errorf("Sign(%d) = %d, want %d", c.n, u, c.u)
		}
		if n := octet.Plain(c.u); n != c.n {
			t.Errorf("Plain(%d) = %d, want %d", c.u, n, c.n)
		}
	}
	scatter(func(u uint64) {
		if octet.Sign(octet.Plain(u)) != u || octet.Plain(octet.Sign(int64(u))) != int64(u) {
			t.Errorf("Sign and Plain of %d", u)
		}
	})
}

// state is what a reader tells without passing bytes.
func state(r *octet.Reader) string { return fmt.Sprint(r.Left(), r.Err(), r.End()) }

// want fails, unless the reader has so many bytes left and these errors.
func want(t *testing.T, r *octet.Reader, left int, err, end api.Errno) {
	t.Helper()
	if got, want := state(r), fmt.Sprint(left, err, end); got != want {
		t.Errorf("Left, Err and End are %s, want %s", got, want)
	}
}

// stuck fails, unless the reader answers nothing but its first error, whatever it is asked for.
func stuck(t *testing.T, r *octet.Reader, e api.Errno) {
	t.Helper()
	for range 2 {
		want(t, r, 0, e, e)
		if u, n, m := r.Num(), r.Int(), r.Moment(); u != 0 || n != 0 || m != 0 {
			t.Errorf("behind error %d: %d, %d, %d", e, u, n, m)
		}
		if s, none, neg := r.Text(9), r.Text(0), r.Text(-1); s != "" || none != "" || neg != "" {
			t.Errorf("behind error %d: %q, %q, %q", e, s, none, neg)
		}
	}
	want(t, r, 0, e, e)
}

// P1.3: a reader passes bytes from the front, kind by kind.
func TestReaderPasses(t *testing.T) {
	b := octet.Put(7, 300, octet.Sign(-3), octet.Sign(math.MinInt64), math.MaxInt64)
	b = append(b, octet.Texts("abc", "", "de")...)
	b = append(b, octet.Put(math.MaxUint64)...)
	r := octet.Open(b)
	left := len(b)
	pass := func(n int) {
		t.Helper()
		left -= n
		end := api.ErrLeft
		if left == 0 {
			end = api.OK
		}
		want(t, r, left, api.OK, end)
	}
	pass(0)
	if u := r.Num(); u != 7 {
		t.Errorf("Num = %d, want 7", u)
	}
	pass(1)
	if u := r.Num(); u != 300 {
		t.Errorf("Num = %d, want 300", u)
	}
	pass(3)
	if n := r.Int(); n != -3 {
		t.Errorf("Int = %d, want -3", n)
	}
	pass(1)
	if n := r.Int(); n != math.MinInt64 {
		t.Errorf("Int = %d, want the least number", n)
	}
	pass(9)
	if n := r.Moment(); n != api.Last {
		t.Errorf("Moment = %d, want the last one", n)
	}
	pass(9)
	if s := r.Text(3); s != "abc" {
		t.Errorf("Text = %q, want abc", s)
	}
	pass(4)
	if s := r.Text(0); s != "" {
		t.Errorf("Text = %q, want nothing", s)
	}
	pass(1)
	if s := r.Text(math.MaxInt); s != "de" {
		t.Errorf("Text = %q, want de", s)
	}
	pass(3)
	if u := r.Num(); u != math.MaxUint64 {
		t.Errorf("Num = %d, want the greatest number", u)
	}
	pass(9)
}

// P1.3: Num, and Int, of bytes that are no number; the first error stays.
func TestReaderNumErrors(t *testing.T) {
	for _, c := range []struct {
		b string
		e api.Errno
	}{
		{"", api.ErrShort},
		{"\xf8", api.ErrShort},
		{"\xf9\x01", api.ErrShort},
		{"\xff\x01\x01\x01\x01\x01\x01\x01", api.ErrShort},
		{"\xf8\x07", api.ErrForm},
		{"\xf9\x00\xff\x05\x05", api.ErrForm},
	} {
		for _, ask := range []func(r *octet.Reader) bool{
			func(r *octet.Reader) bool { return r.Num() == 0 },
			func(r *octet.Reader) bool { return r.Int() == 0 },
			func(r *octet.Reader) bool { return r.Moment() == 0 },
			func(r *octet.Reader) bool { return r.Text(400) == "" },
		} {
			r := octet.Open([]byte(c.b))
			if !ask(r) {
				t.Errorf("of % x something was read", c.b)
			}
			stuck(t, r, c.e)
			r = octet.Open([]byte("\x05" + c.b))
			if r.Num() != 5 || !ask(r) {
				t.Errorf("of 5 and % x something else was read", c.b)
			}
			stuck(t, r, c.e)
		}
	}
}

// P1.3: Int of numbers at the ends.
func TestReaderInt(t *testing.T) {
	for _, n := range []int64{0, 1, -1, 123, -124, 124, -125, 1 << 40, math.MaxInt64, math.MinInt64} {
		r := octet.Open(octet.Put(octet.Sign(n)))
		if m := r.Int(); m != n {
			t.Errorf("Int = %d, want %d", m, n)
		}
		want(t, r, 0, api.OK, api.OK)
	}
}

// P1.3: Moment of numbers at the last moment, and above it.
func TestReaderMoment(t *testing.T) {
	for _, u := range []uint64{0, 1, 247, 248, 1 << 62, 1<<63 - 1} {
		r := octet.Open(octet.Put(u))
		if m := r.Moment(); m != int64(u) {
			t.Errorf("Moment = %d, want %d", m, u)
		}
		want(t, r, 0, api.OK, api.OK)
	}
	for _, u := range []uint64{1 << 63, 1<<63 + 1, 1<<64 - 1} {
		r := octet.Open(octet.Put(u, 7))
		if m := r.Moment(); m != 0 {
			t.Errorf("Moment of %d = %d, want 0", u, m)
		}
		stuck(t, r, api.ErrLong)
	}
}

// P1.3: Text of as many bytes as may be, and of more.
func TestReaderText(t *testing.T) {
	long := strings.Repeat("ab", 200)
	for _, c := range []struct {
		s    string
		most int
		e    api.Errno
	}{
		{"", 0, api.OK},
		{"", 1, api.OK},
		{"", -1, api.OK},
		{"", math.MinInt, api.OK},
		{"a", -1, api.ErrLong},
		{"a", math.MinInt, api.ErrLong},
		{"a", 0, api.ErrLong},
		{"a", 1, api.OK},
		{"abc", 2, api.ErrLong},
		{"abc", 3, api.OK},
		{"abc", math.MaxInt, api.OK},
		{"\x00\xff\xf8", 3, api.OK},
		{long, 399, api.ErrLong},
		{long, 400, api.OK},
	} {
		r := octet.Open(append(octet.Texts(c.s), 9, 9))
		s := r.Text(c.most)
		if c.e != api.OK {
			if s != "" {
				t.Errorf("Text(%d) of %q = %q, want nothing", c.most, c.s, s)
			}
			stuck(t, r, c.e)
			continue
		}
		if s != c.s {
			t.Errorf("Text(%d) of %q = %q", c.most, c.s, s)
		}
		want(t, r, 2, api.OK, api.ErrLeft)
	}
}

// P1.3: Text of which fewer bytes are left; that it is too long is told ahead of that.
func TestReaderTextThatEndsTooEarly(t *testing.T) {
	for _, c := range []struct {
		b    string
		most int
		e    api.Errno
	}{
		{"\x01", 1, api.ErrShort},
		{"\x03ab", 3, api.ErrShort},
		{"\x03ab", 2, api.ErrLong},
		{"\x03ab", 9, api.ErrShort},
		{"\xf8\xf8ab", 248, api.ErrShort},
		{"\xf8\xf8ab", 247, api.ErrLong},
		{"\xff\x7f\xff\xff\xff\xff\xff\xff\xffab", math.MaxInt, api.ErrShort},
		{"\xff\x80\x00\x00\x00\x00\x00\x00\x00ab", math.MaxInt, api.ErrLong},
		{"\xff\xff\xff\xff\xff\xff\xff\xff\xffab", math.MaxInt, api.ErrLong},
		{"\xff\xff\xff\xff\xff\xff\xff\xff\xffab", -1, api.ErrLong},
	} {
		r := octet.Open([]byte(c.b))
		if s := r.Text(c.most); s != "" {
			t.Errorf("Text(%d) of % x = %q, want nothing", c.most, c.b, s)
		}
		stuck(t, r, c.e)
	}
}

// P1.3: that bytes are left is told by End alone, and doesn't stay.
func TestReaderEndDoesNotStay(t *testing.T) {
	r := octet.Open([]byte{1, 2})
	want(t, r, 2, api.OK, api.ErrLeft)
	if u := r.Num(); u != 1 {
		t.Errorf("Num = %d, want 1", u)
	}
	want(t, r, 1, api.OK, api.ErrLeft)
	if u := r.Num(); u != 2 {
		t.Errorf("Num = %d, want 2", u)
	}
	want(t, r, 0, api.OK, api.OK)
	if u := r.Num(); u != 0 {
		t.Errorf("Num = %d, want 0", u)
	}
	stuck(t, r, api.ErrShort)
}

// P1.3: a reader of nothing has no error, till something is read.
func TestReaderOfNothing(t *testing.T) {
	for _, b := range [][]byte{nil, {}} {
		r := octet.Open(b)
		if r == nil {
			t.Fatal("Open of nothing is nil")
		}
		want(t, r, 0, api.OK, api.OK)
		if s := r.Text(3); s != "" {
			t.Errorf("Text = %q", s)
		}
		stuck(t, r, api.ErrShort)
	}
}

// P1.3: a reader that is none.
func TestReaderThatIsNone(t *testing.T) {
	var r *octet.Reader
	stuck(t, r, api.ErrShort)
}

// P1.3: a reader keeps bytes of its own, and readers have nothing in common.
func TestReaderKeepsItsOwnBytes(t *testing.T) {
	b := octet.Texts("abc", "de")
	r, o := octet.Open(b), octet.Open(b)
	if s := r.Text(3); s != "abc" {
		t.Errorf("Text = %q, want abc", s)
	}
	if string(b) != "\x03abc\x02de" {
		t.Errorf("a reader changed its bytes to % x", b)
	}
	clear(b)
	if s := r.Text(2); s != "de" {
		t.Errorf("Text = %q, want de", s)
	}
	want(t, r, 0, api.OK, api.OK)
	if r.Num() != 0 || r.Err() != api.ErrShort {
		t.Error("Num behind the end")
	}
	want(t, o, 7, api.OK, api.ErrLeft)
	if s := o.Text(3); s != "abc" {
		t.Errorf("Text = %q, want abc", s)
	}
}

// P1.4: what is put is taken, one number behind the other.
func TestWhatIsPutIsTaken(t *testing.T) {
	var l []uint64
	scatter(func(u uint64) {
		b := octet.Put(u)
		if got, n, e := octet.Take(b); got != u || n != len(b) || e != api.OK {
			t.Errorf("Take(% x) = %d, %d, %d, want %d, %d", b, got, n, e, u, len(b))
		}
		l = append(l, u)
	})
	r := octet.Open(octet.Put(l...))
	for _, u := range l {
		if got := r.Num(); got != u {
			t.Fatalf("Num = %d, want %d", got, u)
		}
	}
	want(t, r, 0, api.OK, api.OK)
}

// P1.4: bytes that are taken are those that the number is put as, and no others are.
func TestWhatIsTakenIsPut(t *testing.T) {
	hold := func(b ...byte) {
		u, n, e := octet.Take(b)
		if e != api.OK {
			if u != 0 || n != 0 {
				t.Errorf("Take(% x) = %d, %d beside error %d", b, u, n, e)
			}
			return
		}
		if n < 1 || n > len(b) || string(octet.Put(u)) != string(b[:n]) {
			t.Errorf("Take(% x) = %d, %d, and Put of it is % x", b, u, n, octet.Put(u))
		}
	}
	for x := range 256 {
		hold(byte(x))
		for y := range 256 {
			hold(byte(x), byte(y))
			for _, z := range []byte{0, 1, 247, 248, 255} {
				hold(byte(x), byte(y), z)
				hold(byte(x), byte(y), z, 0, 1, 2, 3, 4, 5, 6)
				hold(byte(x), 0, byte(y), z, 1, 2, 3, 4, 5, 6)
			}
		}
	}
}

// P1.4: of two numbers the lesser one's bytes stand below the greater one's.
func TestBytesRiseAsNumbersDo(t *testing.T) {
	var last []byte
	for u := range uint64(1 << 17) {
		b := octet.Put(u)
		if u > 0 && bytes.Compare(last, b) >= 0 {
			t.Fatalf("% x of %d isn't below % x", last, u-1, b)
		}
		last = b
	}
	for i, c := range numbers {
		for _, d := range numbers[:i] {
			if bytes.Compare(octet.Put(d.u), octet.Put(c.u)) >= 0 {
				t.Errorf("Put(%d) isn't below Put(%d)", d.u, c.u)
			}
		}
	}
	scatter(func(u uint64) {
		if u > 0 && bytes.Compare(octet.Put(u-1), octet.Put(u)) >= 0 {
			t.Errorf("Put(%d) isn't below Put(%d)", u-1, u)
		}
	})
}
