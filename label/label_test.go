package label_test

import (
	"math"
	"slices"
	"strings"
	"testing"

	"lookout/api"
	"lookout/label"
)

// The ends of the numbers.
const (
	least    int64 = math.MinInt64
	greatest int64 = math.MaxInt64
)

// ops are the comparisons, as the document numbers them.
var ops = []int{0, 1, 2, 3, 4, 5, 6}

// p is the proposition that a name has a value.
func p(name string, value int64) api.Prop { return api.Prop{Name: name, Value: value} }

// scatter answers numbers below the one it is asked with, the same ones for the same seed.
func scatter(seed uint64) func(n int) int {
	x := seed*2654435761 + 88172645463325252
	return func(n int) int {
		x ^= x << 13
		x ^= x >> 7
		x ^= x << 17
		return int(x >> 33 % uint64(n))
	}
}

// some are up to n propositions of few names and values, so that many are there twice.
func some(next func(int) int, n int) []api.Prop {
	names := []string{"a", "b", "a0", "aa", "a_", "z", "", "A", "\xff"}
	values := []int64{0, 1, -1, 2, 7, least, greatest}
	var l []api.Prop
	for range next(n + 1) {
		l = append(l, p(names[next(len(names))], values[next(len(values))]))
	}
	return l
}

// plain is propositions in order, each once, put in their places one by one.
func plain(l []api.Prop) []api.Prop {
	var w []api.Prop
	for _, x := range l {
		i := 0
		for i < len(w) && (w[i].Name < x.Name || w[i].Name == x.Name && w[i].Value < x.Value) {
			i++
		}
		if i == len(w) || w[i] != x {
			w = slices.Insert(w, i, x)
		}
	}
	return w
}

// want tells of propositions that aren't those that are wanted.
func want(t *testing.T, what string, got, want []api.Prop) {
	t.Helper()
	if !slices.Equal(got, want) {
		t.Errorf("%s: %v, want %v", what, got, want)
	}
}

// P5.1: names and others, at the edges.
func TestName(t *testing.T) {
	for _, c := range []struct {
		s    string
		want bool
	}{
		{"", false},
		{"a", true}, {"z", true}, {"m", true},
		{"`", false}, {"{", false}, {"A", false}, {"Z", false}, {"0", false}, {"9", false}, {"_", false}, {" ", false},
		{"a0", true}, {"a9", true}, {"a_", true}, {"az", true}, {"a/", false}, {"a:", false}, {"a^", false}, {"a`", false}, {"a{", false}, {"aA", false}, {"a-", false}, {"a ", false}, {"a\x00", false},
		{" a", false}, {"_a", false}, {"0a", false}, {"Aa", false},
		{"abcdefghijkl", true}, {"a23456789_12", true}, {"abcdefghijklm", false}, {"a23456789_123", false},
		{strings.Repeat("a", 13), false}, {strings.Repeat("a", 500), false},
		{"true", false}, {"false", false},
		{"tru", true}, {"truex", true}, {"true_", true}, {"atrue", true}, {"fals", true}, {"false0", true}, {"afalse", true}, {"truefalse", true}, {"tRUE", false}, {"True", false}, {"False", false},
		{"\u00e9", false}, {"a\u00e9", false}, {"a\xff", false}, {"\xff", false},
	} {
		if label.Name(c.s) != c.want {
			t.Errorf("Name(%q) isn't %v", c.s, c.want)
		}
	}
}

// P5.1: each byte, at each place of a name of each length.
func TestNameOfEachByte(t *testing.T) {
	const first = "abcdefghijklmnopqrstuvwxyz"
	const other = first + "0123456789_"
	for n := 1; n <= 14; n++ {
		for i := range n {
			for c := range 256 {
				b := []byte(strings.Repeat("q", n))
				b[i] = byte(c)
				may := first
				if i > 0 {
					may = other
				}
				if is := n <= 12 && strings.IndexByte(may, byte(c)) >= 0; label.Name(string(b)) != is {
					t.Errorf("Name(%q) isn't %v", b, is)
				}
			}
		}
	}
}

// P5.2: the document's example, and the order of names and of values.
func TestOf(t *testing.T) {
	for _, c := range []struct {
		what    string
		l, want []api.Prop
	}{
		{"none", nil, nil},
		{"an empty list", []api.Prop{}, nil},
		{"one", []api.Prop{p("a", 1)}, []api.Prop{p("a", 1)}},
		{"one twice", []api.Prop{p("a", 1), p("a", 1)}, []api.Prop{p("a", 1)}},
		{"the zero one", []api.Prop{{}, {}, {}}, []api.Prop{{}}},
		{"the example", []api.Prop{p("a", 2), p("b", 1), p("a", 1), p("a", 2)}, []api.Prop{p("a", 1), p("a", 2), p("b", 1)}},
		{"names ahead of values", []api.Prop{p("b", -9), p("a", 9)}, []api.Prop{p("a", 9), p("b", -9)}},
		{"a text that begins another", []api.Prop{p("ab", 0), p("a0", 0), p("", 3), p("a", 5), p("abc", -5), p("a_", 0)}, []api.Prop{p("", 3), p("a", 5), p("a0", 0), p("a_", 0), p("ab", 0), p("abc", -5)}},
		{"bytes", []api.Prop{p("\xff", 0), p("\u00e9", 0), p("z", 0), p("\x80", 0), p("a", 0), p("Z", 0), p("\x00", 0)}, []api.Prop{p("\x00", 0), p("Z", 0), p("a", 0), p("z", 0), p("\x80", 0), p("\u00e9", 0), p("\xff", 0)}},
		{"values with a sign", []api.Prop{p("a", 10), p("a", 9), p("a", 0), p("a", -9), p("a", -10), p("a", greatest), p("a", least)}, []api.Prop{p("a", least), p("a", -10), p("a", -9), p("a", 0), p("a", 9), p("a", 10), p("a", greatest)}},
		{"texts that are no names", []api.Prop{p("true", 1), p("A", 1), p("false", 1), p("a23456789_123", 1), p("A", 1)}, []api.Prop{p("A", 1), p("a23456789_123", 1), p("false", 1), p("true", 1)}},
	} {
		want(t, c.what, label.Of(c.l...), c.want)
	}
}

// P5.2: more propositions than an event may have are all there.
func TestOfMany(t *testing.T) {
	var l, w []api.Prop
	for i := range int64(300) {
		l = append(l, p("b", 299-i), p("a", i), p("a", i))
		w = append(w, p("a", i))
	}
	for i := range int64(300) {
		w = append(w, p("b", i))
	}
	want(t, "many", label.Of(l...), w)
	want(t, "many, turned", label.Union(w[300:], w[:300]), w)
}

// P5.2: the propositions of two lists, whatever order they have.
func TestUnion(t *testing.T) {
	a1, a2, a3, b1, c1 := p("a", 1), p("a", 2), p("a", 3), p("b", 1), p("c", 1)
	for _, c := range []struct {
		what       string
		a, b, want []api.Prop
	}{
		{"none", nil, nil, nil},
		{"none and one", nil, []api.Prop{a1}, []api.Prop{a1}},
		{"one and none", []api.Prop{a1}, []api.Prop{}, []api.Prop{a1}},
		{"the same one", []api.Prop{a1}, []api.Prop{a1}, []api.Prop{a1}},
		{"the same ones", []api.Prop{a1, b1}, []api.Prop{a1, b1}, []api.Prop{a1, b1}},
		{"one behind the other", []api.Prop{a1, a2}, []api.Prop{b1, c1}, []api.Prop{a1, a2, b1, c1}},
		{"one ahead of the other", []api.Prop{b1, c1}, []api.Prop{a1, a2}, []api.Prop{a1, a2, b1, c1}},
		{"by turns", []api.Prop{a1, a3, c1}, []api.Prop{a2, b1}, []api.Prop{a1, a2, a3, b1, c1}},
		{"one within the other", []api.Prop{a1, a2, a3}, []api.Prop{a2}, []api.Prop{a1, a2, a3}},
		{"some in both", []api.Prop{a1, a2, b1}, []api.Prop{a2, a3, b1, c1}, []api.Prop{a1, a2, a3, b1, c1}},
		{"not in order", []api.Prop{c1, a2, b1}, []api.Prop{a3, a1}, []api.Prop{a1, a2, a3, b1, c1}},
		{"twice in each one", []api.Prop{a2, a1, a2, a1}, []api.Prop{b1, a1, b1}, []api.Prop{a1, a2, b1}},
		{"texts that are no names", []api.Prop{p("true", 0), {}}, []api.Prop{p("A", 0), {}}, []api.Prop{{}, p("A", 0), p("true", 0)}},
	} {
		want(t, c.what, label.Union(c.a, c.b), c.want)
	}
}

// P5.2: Of and Union, held against a plain way.
func TestOfAndUnionOfMany(t *testing.T) {
	for seed := range uint64(3000) {
		next := scatter(seed)
		a, b := some(next, 12), some(next, 12)
		want(t, "Of", label.Of(a...), plain(a))
		want(t, "Union", label.Union(a, b), plain(slices.Concat(a, b)))
		want(t, "Of again", label.Of(label.Of(a...)...), plain(a))
	}
}

// P5.2: lists that are handed in aren't changed, and what is answered is nobody else's memory.
func TestNewMemory(t *testing.T) {
	for n := range 6 {
		a, b := make([]api.Prop, n, n+9), make([]api.Prop, n, n+9)
		for i := range n {
			a[i], b[i] = p("a", int64(n-i)), p("b", int64(i))
		}
		wasA, wasB := slices.Clone(a[:n+9]), slices.Clone(b[:n+9])
		for _, l := range [][]api.Prop{label.Of(a...), label.Of(b...), label.Union(a, b), label.Union(b, a), label.Union(a, nil), label.Union(nil, b), label.Union(a, a)} {
			l = append(l, p("x", 1), p("y", 2))
			for i := range l {
				l[i] = p("z", 9)
			}
		}
		want(t, "the first list", a[:n+9], wasA)
		want(t, "the second list", b[:n+9], wasB)
		u := label.Union(a, b)
		was := slices.Clone(u)
		clear(a)
		clear(b)
		want(t, "the answer", u, was)
	}
}

// P5.2: rows that are right, and what is wrong with others.
func TestRight(t *testing.T) {
	for _, c := range []struct {
		what string
		l    []api.Prop
		want bool
	}{
		{"none", nil, true},
		{"an empty list", []api.Prop{}, true},
		{"one", []api.Prop{p("a", 0)}, true},
		{"rising values", []api.Prop{p("a", least), p("a", -1), p("a", 0), p("a", 1), p("a", greatest)}, true},
		{"rising names", []api.Prop{p("a", 9), p("a0", 8), p("a_", 7), p("aa", 6), p("b", 5)}, true},
		{"twice", []api.Prop{p("a", 0), p("a", 0)}, false},
		{"twice at the end", []api.Prop{p("a", 0), p("b", 0), p("b", 0)}, false},
		{"falling values", []api.Prop{p("a", 1), p("a", 0)}, false},
		{"the ends, falling", []api.Prop{p("a", greatest), p("a", least)}, false},
		{"falling names", []api.Prop{p("b", 0), p("a", 1)}, false},
		{"a text behind one that begins with it", []api.Prop{p("ab", 0), p("a", 1)}, false},
		{"falling at the end", []api.Prop{p("a", 0), p("c", 0), p("b", 0)}, false},
		{"no name, alone", []api.Prop{p("", 0)}, false},
		{"no name, first", []api.Prop{p("A", 0), p("a", 0)}, false},
		{"no name, last", []api.Prop{p("a", 0), p("true", 0)}, false},
		{"no name, between", []api.Prop{p("a", 0), p("false", 0), p("z", 0)}, false},
		{"a name of 12 bytes", []api.Prop{p("abcdefghijkl", 0)}, true},
		{"a text of 13 bytes", []api.Prop{p("abcdefghijklm", 0)}, false},
	} {
		if label.Right(c.l) != c.want {
			t.Errorf("%s: Right(%v) isn't %v", c.what, c.l, c.want)
		}
	}
}

// P5.2: how many propositions there are plays no part.
func TestRightOfMany(t *testing.T) {
	var l []api.Prop
	for i := range int64(100) {
		l = append(l, p("a", i-50))
	}
	if !label.Right(l) {
		t.Error("many")
	}
	for i := range len(l) - 1 {
		l[i], l[i+1] = l[i+1], l[i]
		if label.Right(l) {
			t.Errorf("many, two turned at %d", i)
		}
		l[i], l[i+1] = l[i+1], l[i]
	}
}

// P5.2: a row is right if it has names alone, and is what Of makes of it.
func TestRightIsOf(t *testing.T) {
	for seed := range uint64(3000) {
		l := some(scatter(seed), 4)
		is := slices.Equal(l, plain(l))
		for _, x := range l {
			is = is && label.Name(x.Name)
		}
		if label.Right(l) != is {
			t.Errorf("Right(%v) isn't %v", l, is)
		}
	}
}

// P5.3: the comparisons have the document's numbers.
func TestOps(t *testing.T) {
	if l := []int{label.Any, label.Eq, label.Ne, label.Lt, label.Le, label.Gt, label.Ge}; !slices.Equal(l, ops) {
		t.Errorf("the comparisons are %v", l)
	}
}

// P5.3: one value to another one, by each comparison: below it, the same, above it.
func TestHoldsOfOneValue(t *testing.T) {
	values := []int64{least, least + 1, -2, -1, 0, 1, 2, greatest - 1, greatest}
	for i, v := range values {
		for j, w := range values {
			for op, c := range [][3]bool{{true, true, true}, {false, true, false}, {true, false, true}, {true, false, false}, {true, true, false}, {false, false, true}, {false, true, true}} {
				is := c[1]
				if i < j {
					is = c[0]
				} else if i > j {
					is = c[2]
				}
				if label.Holds([]api.Prop{p("a", v)}, label.Atom{Name: "a", Op: op, Value: w}) != is {
					t.Errorf("of a %d: a, %d, %d isn't %v", v, op, w, is)
				}
			}
		}
	}
}

// P5.3: the document's examples, and which propositions count.
func TestHolds(t *testing.T) {
	row := []api.Prop{p("a", 1), p("a", 2), p("b", 1)}
	turned := []api.Prop{p("b", 1), p("a", 2), p("a", 1), p("a", 2)}
	for _, c := range []struct {
		l    []api.Prop
		a    label.Atom
		want bool
	}{
		{row, label.Atom{Name: "a", Op: label.Gt, Value: 1}, true},
		{row, label.Atom{Name: "a", Op: label.Lt, Value: 2}, true},
		{row, label.Atom{Name: "b", Op: label.Ne, Value: 1}, false},
		{row, label.Atom{Name: "a", Op: label.Ne, Value: 1}, true},
		{row, label.Atom{Name: "a", Op: label.Ne, Value: 2}, true},
		{row, label.Atom{Name: "a", Op: label.Eq, Value: 2}, true},
		{row, label.Atom{Name: "b", Op: label.Eq, Value: 2}, false},
		{row, label.Atom{Name: "a", Op: label.Gt, Value: 2}, false},
		{row, label.Atom{Name: "a", Op: label.Lt, Value: 1}, false},
		{row, label.Atom{Name: "b"}, true},
		{row, label.Atom{Name: "b", Value: 77}, true},
		{row, label.Atom{Name: "c"}, false},
		{row, label.Atom{Name: "c", Op: label.Ne, Value: 1}, false},
		{row, label.Atom{Name: "aa"}, false},
		{row, label.Atom{Name: "A"}, false},
		{row, label.Atom{}, false},
		{turned, label.Atom{Name: "a", Op: label.Eq, Value: 1}, true},
		{turned, label.Atom{Name: "b", Op: label.Le, Value: 1}, true},
		{turned, label.Atom{Name: "b", Op: label.Ge, Value: 2}, false},
		{nil, label.Atom{Name: "a"}, false},
		{nil, label.Atom{Name: "a", Op: label.Ne, Value: 1}, false},
		{nil, label.Atom{}, false},
		{[]api.Prop{{}}, label.Atom{}, true},
		{[]api.Prop{p("true", 3)}, label.Atom{Name: "true", Op: label.Eq, Value: 3}, true},
	} {
		if label.Holds(c.l, c.a) != c.want {
			t.Errorf("Holds(%v, %v) isn't %v", c.l, c.a, c.want)
		}
	}
}

// P5.3: no proposition stands to a value by another Op.
func TestHoldsOfAnotherOp(t *testing.T) {
	for _, op := range []int{-1, -2, -6, 7, 8, 12, 255, 256, 1 << 32, math.MaxInt, math.MinInt} {
		for _, value := range []int64{0, 1, -1, int64(op)} {
			if label.Holds([]api.Prop{p("a", 0), p("a", 1), p("a", int64(op))}, label.Atom{Name: "a", Op: op, Value: value}) {
				t.Errorf("an atom of Op %d holds", op)
			}
		}
	}
}

// P5.3, P5.4: an atom holds of a Union just if it holds of one of its parts; the order plays no part.
func TestHoldsOfUnion(t *testing.T) {
	for seed := range uint64(2000) {
		next := scatter(seed)
		a, b := some(next, 4), some(next, 4)
		u := label.Union(a, b)
		turned := slices.Clone(u)
		slices.Reverse(turned)
		for _, name := range []string{"a", "b", "aa", "", "A", "x"} {
			for _, value := range []int64{least, -1, 0, 1, 3, greatest} {
				for op := -1; op <= 7; op++ {
					x := label.Atom{Name: name, Op: op, Value: value}
					is := label.Holds(a, x) || label.Holds(b, x)
					if label.Holds(u, x) != is || label.Holds(turned, x) != is {
						t.Errorf("of %v and %v: %v isn't %v", a, b, x, is)
					}
				}
			}
		}
	}
}
