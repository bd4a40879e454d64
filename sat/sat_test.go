package sat_test

import (
	"fmt"
	"math"
	"math/big"
	"slices"
	"testing"

	"lookout/api"
	"lookout/sat"
)

// The ends of the numbers.
const (
	least    int64 = math.MinInt64
	greatest int64 = math.MaxInt64
)

// Spans of many kinds, for the tests below.
var (
	point  = sat.Span{}
	usual  = sat.Span{Lo: 2, Hi: 5}
	across = sat.Span{Lo: -5, Hi: 5}
	turned = sat.Span{Lo: 3, Hi: 2}
	whole  = sat.Span{Lo: least, Hi: greatest}
	late   = sat.Span{Lo: greatest, Hi: greatest}
)

// edges are numbers around the ends, their halves, and 0; rising.
func edges() []int64 {
	var l []int64
	for _, n := range []int64{0, 1, 7, 1 << 31, 1 << 62, greatest - 3, greatest} {
		for d := range int64(4) {
			l = append(l, n-d, -n+d)
			if n < greatest-3 {
				l = append(l, n+d, -n-d)
			}
		}
	}
	l = append(l, least, least+1, least+2, least+3)
	slices.Sort(l)
	return slices.Compact(l)
}

// within is n, cut at the ends, and whether it was: what numbers without ends say.
func within(n *big.Int) (int64, bool) {
	switch {
	case n.Cmp(big.NewInt(least)) < 0:
		return least, true
	case n.Cmp(big.NewInt(greatest)) > 0:
		return greatest, true
	}
	return n.Int64(), false
}

// same tells of an answer that isn't the wanted one.
func same[T comparable](t *testing.T, what string, got T, is bool, want T, wantIs bool) {
	t.Helper()
	if got != want || is != wantIs {
		t.Errorf("%s: %v, %v; wanted %v, %v", what, got, is, want, wantIs)
	}
}

// P2.1: sums.
func TestAdd(t *testing.T) {
	for _, c := range []struct {
		a, b, want int64
		cut        bool
	}{
		{0, 0, 0, false},
		{2, 3, 5, false},
		{2, -3, -1, false},
		{greatest, 0, greatest, false},
		{greatest - 1, 1, greatest, false},
		{greatest, 1, greatest, true},
		{1, greatest, greatest, true},
		{greatest - 1, 2, greatest, true},
		{greatest, greatest, greatest, true},
		{least, 0, least, false},
		{least + 1, -1, least, false},
		{least, -1, least, true},
		{-1, least, least, true},
		{least + 1, -2, least, true},
		{least, least, least, true},
		{greatest, least, -1, false},
		{least, greatest, -1, false},
		{1 << 62, 1 << 62, greatest, true},
		{-1 << 62, -1 << 62, least, false},
		{-1 << 62, -1<<62 - 1, least, true},
	} {
		got, cut := sat.Add(c.a, c.b)
		same(t, fmt.Sprint("Add ", c.a, " ", c.b), got, cut, c.want, c.cut)
	}
}

// P2.1: differences.
func TestSub(t *testing.T) {
	for _, c := range []struct {
		a, b, want int64
		cut        bool
	}{
		{0, 0, 0, false},
		{2, 3, -1, false},
		{2, -3, 5, false},
		{greatest, 0, greatest, false},
		{greatest, 1, greatest - 1, false},
		{greatest - 1, -1, greatest, false},
		{greatest, -1, greatest, true},
		{greatest, least, greatest, true},
		{0, least, greatest, true},
		{1, least, greatest, true},
		{-1, least, greatest, false},
		{-2, least, greatest - 1, false},
		{least, least, 0, false},
		{greatest, greatest, 0, false},
		{least, 0, least, false},
		{least, -1, least + 1, false},
		{least + 1, 1, least, false},
		{least, 1, least, true},
		{-1, greatest, least, false},
		{-2, greatest, least, true},
		{0, greatest, least + 1, false},
		{least, greatest, least, true},
	} {
		got, cut := sat.Sub(c.a, c.b)
		same(t, fmt.Sprint("Sub ", c.a, " ", c.b), got, cut, c.want, c.cut)
	}
}

// P2.1: sums and differences are those of numbers without ends, cut.
func TestAddAndSubOfEdges(t *testing.T) {
	l := edges()
	for _, a := range l {
		for _, b := range l {
			want, was := within(new(big.Int).Add(big.NewInt(a), big.NewInt(b)))
			got, cut := sat.Add(a, b)
			same(t, fmt.Sprint("Add ", a, " ", b), got, cut, want, was)
			want, was = within(new(big.Int).Sub(big.NewInt(a), big.NewInt(b)))
			got, cut = sat.Sub(a, b)
			same(t, fmt.Sprint("Sub ", a, " ", b), got, cut, want, was)
		}
	}
}

// P2.1: sums of lists, cut on the way.
func TestSum(t *testing.T) {
	for _, c := range []struct {
		l    []int64
		want int64
		cut  bool
	}{
		{nil, 0, false},
		{[]int64{}, 0, false},
		{[]int64{7}, 7, false},
		{[]int64{greatest}, greatest, false},
		{[]int64{least}, least, false},
		{[]int64{1, 2, 3, -10}, -4, false},
		{[]int64{greatest, 1}, greatest, true},
		{[]int64{greatest, -1, 1}, greatest, false},
		{[]int64{greatest, 1, -1}, greatest - 1, true},
		{[]int64{greatest, 5, -7}, greatest - 7, true},
		{[]int64{5, greatest, -7, 0}, greatest - 7, true},
		{[]int64{least, -1, 1}, least + 1, true},
		{[]int64{least, greatest, 1}, 0, false},
		{[]int64{greatest, least, 1}, 0, false},
		{[]int64{greatest, greatest, least, least}, least, true},
		{[]int64{least, least, greatest, greatest}, greatest - 1, true},
		{[]int64{greatest, greatest, least, 0, 0}, -1, true},
		{[]int64{least, least, greatest, greatest, 2}, greatest, true},
	} {
		got, cut := sat.Sum(c.l...)
		same(t, fmt.Sprint("Sum ", c.l), got, cut, c.want, c.cut)
	}
	got, cut := sat.Sum()
	same(t, "Sum of nothing", got, cut, 0, false)
	got, cut = sat.Sum(1, 2, 3)
	same(t, "Sum 1 2 3", got, cut, 6, false)
}

// P2.1: a sum is made by Adds, one by one, and leaves its list as it was.
func TestSumIsByAdds(t *testing.T) {
	l := edges()
	for i, a := range l {
		three := []int64{a, l[(7*i+3)%len(l)], l[(11*i+5)%len(l)]}
		kept := slices.Clone(three)
		var want int64
		var was bool
		for _, n := range three {
			next, cut := sat.Add(want, n)
			want, was = next, was || cut
		}
		got, cut := sat.Sum(three...)
		same(t, fmt.Sprint("Sum ", three), got, cut, want, was)
		if !slices.Equal(three, kept) {
			t.Error("the list was changed:", three, kept)
		}
	}
}

// P2.2: which spans are Right.
func TestRight(t *testing.T) {
	for _, c := range []struct {
		s    sat.Span
		want bool
	}{
		{point, true},
		{usual, true},
		{sat.Span{Lo: 5, Hi: 5}, true},
		{sat.Span{Lo: 0, Hi: greatest}, true},
		{late, true},
		{turned, false},
		{sat.Span{Lo: 1, Hi: 0}, false},
		{sat.Span{Lo: greatest, Hi: greatest - 1}, false},
		{sat.Span{Lo: greatest, Hi: least}, false},
		{sat.Span{Lo: 0, Hi: -1}, false},
		{sat.Span{Lo: -1, Hi: 2}, false},
		{sat.Span{Lo: -1, Hi: 0}, false},
		{sat.Span{Lo: -1, Hi: -1}, false},
		{sat.Span{Lo: -2, Hi: -3}, false},
		{across, false},
		{whole, false},
	} {
		if got := c.s.Right(); got != c.want {
			t.Error("Right", c.s, got)
		}
	}
}

// P2.2: which numbers a span has, be it Right or not.
func TestHas(t *testing.T) {
	for _, c := range []struct {
		s    sat.Span
		d    int64
		want bool
	}{
		{usual, 1, false}, {usual, 2, true}, {usual, 3, true}, {usual, 5, true}, {usual, 6, false},
		{usual, -3, false}, {usual, least, false}, {usual, greatest, false},
		{point, 0, true}, {point, 1, false}, {point, -1, false},
		{across, -6, false}, {across, -5, true}, {across, 0, true}, {across, 5, true}, {across, 6, false},
		{sat.Span{Lo: -3, Hi: -2}, -3, true}, {sat.Span{Lo: -3, Hi: -2}, -2, true},
		{sat.Span{Lo: -3, Hi: -2}, -4, false}, {sat.Span{Lo: -3, Hi: -2}, -1, false}, {sat.Span{Lo: -3, Hi: -2}, 3, false},
		{turned, 2, false}, {turned, 3, false},
		{sat.Span{Lo: 9, Hi: 2}, 5, false}, {sat.Span{Lo: 1, Hi: 0}, 0, false}, {sat.Span{Lo: 1, Hi: 0}, 1, false},
		{whole, least, true}, {whole, greatest, true}, {whole, 0, true},
		{late, greatest, true}, {late, greatest - 1, false}, {late, least, false},
	} {
		if got := c.s.Has(c.d); got != c.want {
			t.Error("Has", c.s, c.d, got)
		}
	}
}

// P2.2: the moments of a span behind a moment, up to the last one.
func TestAt(t *testing.T) {
	for _, c := range []struct {
		s    sat.Span
		t    int64
		want sat.Span
	}{
		{point, 0, point},
		{point, 9, sat.Span{Lo: 9, Hi: 9}},
		{point, greatest, late},
		{usual, 0, usual},
		{usual, 10, sat.Span{Lo: 12, Hi: 15}},
		{usual, greatest - 6, sat.Span{Lo: greatest - 4, Hi: greatest - 1}},
		{usual, greatest - 5, sat.Span{Lo: greatest - 3, Hi: greatest}},
		{usual, greatest - 4, sat.Span{Lo: greatest - 2, Hi: greatest}},
		{usual, greatest - 3, sat.Span{Lo: greatest - 1, Hi: greatest}},
		{usual, greatest - 2, late},
		{sat.Span{Lo: 0, Hi: greatest}, 0, sat.Span{Lo: 0, Hi: greatest}},
		{sat.Span{Lo: 0, Hi: greatest}, 1, sat.Span{Lo: 1, Hi: greatest}},
		{sat.Span{Lo: 0, Hi: greatest}, greatest, late},
		{late, 0, late},
		{sat.Span{Lo: 0, Hi: 1}, 0, sat.Span{Lo: 0, Hi: 1}},
		{sat.Span{Lo: 1, Hi: 1}, 0, sat.Span{Lo: 1, Hi: 1}},
	} {
		got, is := c.s.At(c.t)
		same(t, fmt.Sprint("At ", c.s, " ", c.t), got, is, c.want, true)
	}
	// The document's example, by its own numbers.
	got, is := usual.At(api.Last - 3)
	same(t, "the example", got, is, sat.Span{Lo: api.Last - 1, Hi: api.Last}, true)
}

// P2.2: no moments: all are behind the last one, the span isn't Right, or the moment is none.
func TestAtNone(t *testing.T) {
	for _, c := range []struct {
		s sat.Span
		t int64
	}{
		{usual, greatest - 1}, {usual, greatest},
		{sat.Span{Lo: 1, Hi: 1}, greatest}, {sat.Span{Lo: 1, Hi: greatest}, greatest},
		{late, 1}, {late, greatest},
		{usual, -1}, {usual, -2}, {usual, -4}, {usual, -10}, {usual, least}, {point, -1}, {late, -1}, {late, least},
		{turned, 0}, {turned, 10}, {turned, greatest - 2}, {sat.Span{Lo: 1, Hi: 0}, 0}, {sat.Span{Lo: 1, Hi: 0}, 10},
		{sat.Span{Lo: greatest, Hi: greatest - 1}, 0}, {sat.Span{Lo: greatest, Hi: greatest - 1}, 2},
		{sat.Span{Lo: -1, Hi: 2}, 0}, {sat.Span{Lo: -1, Hi: 2}, 10}, {across, 7}, {across, greatest},
		{sat.Span{Lo: 0, Hi: -1}, 10}, {sat.Span{Lo: -3, Hi: -2}, 10}, {sat.Span{Lo: -2, Hi: -3}, 10},
		{whole, 0}, {whole, greatest}, {turned, -1}, {across, -1},
	} {
		got, is := c.s.At(c.t)
		same(t, fmt.Sprint("At ", c.s, " ", c.t), got, is, sat.Span{}, false)
	}
}

// P2.2: what two spans have in common; the same whichever comes first.
func TestMeet(t *testing.T) {
	for _, c := range []struct {
		s, o, want sat.Span
		is         bool
	}{
		{usual, usual, usual, true},
		{usual, sat.Span{Lo: 4, Hi: 9}, sat.Span{Lo: 4, Hi: 5}, true},
		{usual, sat.Span{Lo: 3, Hi: 4}, sat.Span{Lo: 3, Hi: 4}, true},
		{usual, sat.Span{Lo: 5, Hi: 9}, sat.Span{Lo: 5, Hi: 5}, true},
		{usual, sat.Span{Lo: 6, Hi: 9}, point, false},
		{usual, sat.Span{Lo: 0, Hi: 2}, sat.Span{Lo: 2, Hi: 2}, true},
		{usual, sat.Span{Lo: 0, Hi: 1}, point, false},
		{usual, sat.Span{Lo: 20, Hi: 30}, point, false},
		{usual, whole, usual, true},
		{usual, across, usual, true},
		{point, point, point, true},
		{point, sat.Span{Lo: 0, Hi: 5}, point, true},
		{point, sat.Span{Lo: -5, Hi: 0}, point, true},
		{sat.Span{Lo: -5, Hi: 0}, sat.Span{Lo: 0, Hi: 5}, point, true},
		{point, sat.Span{Lo: 1, Hi: 5}, point, false},
		{point, sat.Span{Lo: -5, Hi: -1}, point, false},
		{sat.Span{Lo: -5, Hi: -1}, sat.Span{Lo: -3, Hi: 2}, sat.Span{Lo: -3, Hi: -1}, true},
		{sat.Span{Lo: -9, Hi: -5}, sat.Span{Lo: -5, Hi: -5}, sat.Span{Lo: -5, Hi: -5}, true},
		{sat.Span{Lo: 0, Hi: 1}, sat.Span{Lo: 1, Hi: 1}, sat.Span{Lo: 1, Hi: 1}, true},
		{whole, whole, whole, true},
		{whole, late, late, true},
		{sat.Span{Lo: least, Hi: least}, late, point, false},
		{sat.Span{Lo: least, Hi: least}, whole, sat.Span{Lo: least, Hi: least}, true},
		{turned, whole, point, false},
		{turned, turned, point, false},
		{turned, usual, point, false},
		{sat.Span{Lo: 9, Hi: 2}, sat.Span{Lo: 4, Hi: 5}, point, false},
		{sat.Span{Lo: 1, Hi: 0}, across, point, false},
		{sat.Span{Lo: greatest, Hi: least}, whole, point, false},
	} {
		got, is := c.s.Meet(c.o)
		same(t, fmt.Sprint(c.s, " Meet ", c.o), got, is, c.want, c.is)
		got, is = c.o.Meet(c.s)
		same(t, fmt.Sprint(c.o, " Meet ", c.s), got, is, c.want, c.is)
	}
}

// P2.2: a number is in what two spans have in common just if it is in both; there is none just if no number is.
func TestMeetHas(t *testing.T) {
	for n := range 7 * 7 * 7 * 7 {
		s := sat.Span{Lo: int64(n%7 - 3), Hi: int64(n/7%7 - 3)}
		o := sat.Span{Lo: int64(n/49%7 - 3), Hi: int64(n/343 - 3)}
		m, is := s.Meet(o)
		some := false
		for d := int64(-4); d <= 4; d++ {
			both := s.Has(d) && o.Has(d)
			some = some || both
			if (is && m.Has(d)) != both {
				t.Fatal(s, o, m, is, d)
			}
		}
		if is != some || !is && m != point {
			t.Fatal(s, o, m, is)
		}
	}
}

// P2.2: spans as texts.
func TestText(t *testing.T) {
	for _, c := range []struct {
		s    sat.Span
		want string
	}{
		{point, "[0,0]"},
		{usual, "[2,5]"},
		{sat.Span{Lo: 10, Hi: 100}, "[10,100]"},
		{sat.Span{Lo: -1, Hi: 2}, "[-1,2]"},
		{sat.Span{Lo: -10, Hi: -20}, "[-10,-20]"},
		{turned, "[3,2]"},
		{sat.Span{Lo: 1, Hi: 0}, "[1,0]"},
		{whole, "[-9223372036854775808,9223372036854775807]"},
		{sat.Span{Lo: greatest, Hi: least}, "[9223372036854775807,-9223372036854775808]"},
	} {
		if got := c.s.Text(); got != c.want {
			t.Errorf("Text %v: %q, wanted %q", c.s, got, c.want)
		}
	}
}

// P2.3: a moment is one of At just if the span has its distance.
func TestAtHas(t *testing.T) {
	var moments []int64
	for _, n := range edges() {
		if n >= 0 {
			moments = append(moments, n)
		}
	}
	for _, lo := range moments {
		for _, hi := range moments {
			if hi >= lo {
				checkAt(t, sat.Span{Lo: lo, Hi: hi}, moments)
			}
		}
	}
}

// checkAt tells of moments that At has and the span hasn't, or the other way round.
func checkAt(t *testing.T, s sat.Span, moments []int64) {
	t.Helper()
	for _, from := range moments {
		w, is := s.At(from)
		for _, u := range moments {
			if (is && w.Has(u)) != s.Has(u-from) {
				t.Fatal(s, "At", from, "is", w, is, "but", u)
			}
		}
	}
}
