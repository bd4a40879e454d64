package formula_test

import (
	"fmt"
	"math"
	"slices"
	"strconv"
	"strings"
	"testing"

	"lookout/api"
	"lookout/formula"
	"lookout/label"
	"lookout/sat"
)

// F is short for a formula.
type F = formula.F

// The ends of the numbers.
const (
	least    int64 = math.MinInt64
	greatest int64 = math.MaxInt64
)

// The kinds of nodes, as the document numbers them.
const (
	kTrue = iota + 1
	kFalse
	kAtom
	kNot
	kAnd
	kOr
	kImp
	kIff
	kEv
	kAl
	kUn
	kRe
)

// How many Kids each kind has, from True on; which kinds have a span.
var (
	kidsOf = []int{0, 0, 0, 1, 2, 2, 2, 2, 1, 1, 2, 2}
	spans  = []int{kEv, kAl, kUn, kRe}
)

// yes and no are the formulas without a name.
var (
	yes = F{Op: kTrue}
	no  = F{Op: kFalse}
)

// a name alone, and one that is compared.
func name(s string) F { return F{Op: kAtom, Atom: label.Atom{Name: s}} }
func atom(s string, op int, v int64) F {
	return F{Op: kAtom, Atom: label.Atom{Name: s, Op: op, Value: v}}
}

// node is a node of Kids; over is one with a span, too.
func node(op int, kids ...F) F { return F{Op: op, Kids: kids} }
func over(op int, lo, hi int64, kids ...F) F {
	return F{Op: op, Span: sat.Span{Lo: lo, Hi: hi}, Kids: kids}
}

// nots is a formula of n nodes, one within another.
func nots(n int) F {
	f := yes
	for range n - 1 {
		f = node(kNot, f)
	}
	return f
}

// row is an Or of n atoms, as flat as may be: of 2n - 1 nodes.
func row(n int) F {
	if n == 1 {
		return name("a")
	}
	return node(kOr, row(n/2), row(n-n/2))
}

// scatter answers numbers below the one it is asked with, the same ones for the same seed.
func scatter(seed uint64) func(n int) int {
	x := seed*2654435761 + 88172645463325252
	return func(n int) int {
		x ^= x << 13
		x ^= x >> 7
		x ^= x << 17
		return int(x >> 33 % uint64(n))
	}
}

// some is a sound formula of at most deep nodes one within another.
func some(next func(int) int, deep int) F {
	numbers := []int64{0, 1, 2, 7, 10, -1, -300, least, greatest}
	op := kTrue + next(kRe)
	if deep == 1 {
		op = kTrue + next(3)
	}
	f := F{Op: op}
	if op == kAtom {
		f.Atom = label.Atom{Name: []string{"a", "b", "c0", "p_q", "abcdefghijkl", "truex"}[next(6)], Op: next(7)}
		if f.Atom.Op != 0 {
			f.Atom.Value = numbers[next(len(numbers))]
		}
	}
	if slices.Contains(spans, op) {
		f.Span.Lo = int64(next(3))
		f.Span.Hi = f.Span.Lo + []int64{0, 1, 10, greatest - 2}[next(4)]
	}
	for range kidsOf[op-1] {
		f.Kids = append(f.Kids, some(next, deep-1))
	}
	return f
}

// spoil makes one node of a formula wrong, perhaps; wrong ones may be right again by chance.
func spoil(next func(int) int, f F) F {
	f = clone(f)
	x := &f
	for len(x.Kids) > 0 && next(3) > 0 {
		x = &x.Kids[next(len(x.Kids))]
	}
	switch next(8) {
	case 0:
		x.Op = []int{0, 13, -1, 300, math.MaxInt, math.MinInt}[next(6)]
	case 1:
		x.Op = kTrue + next(kRe)
	case 2:
		x.Kids = append(x.Kids, yes)
	case 3:
		x.Kids = nil
	case 4:
		x.Atom.Name += []string{"a", "A", "abcdefghijklm", " "}[next(4)]
	case 5:
		x.Atom.Op = []int{-1, 0, 1, 6, 7}[next(5)]
	case 6:
		x.Atom.Value = int64(next(3))
	case 7:
		x.Span = []sat.Span{{}, {Lo: -1, Hi: 1}, {Lo: 2, Hi: 1}, {Hi: 3}, {Lo: greatest, Hi: least}}[next(5)]
	}
	return f
}

// clone is a formula again, with lists of its own.
func clone(f F) F {
	var kids []F
	for _, k := range f.Kids {
		kids = append(kids, clone(k))
	}
	f.Kids = kids
	return f
}

// plainNodes is a formula's nodes, told one by one from a row of those that are still to come.
func plainNodes(f F) []F {
	var l []F
	for wait := []F{f}; len(wait) > 0; {
		x := wait[0]
		l = append(l, x)
		wait = slices.Concat(x.Kids, wait[1:])
	}
	return l
}

// plainDeep is how many rows of Kids there are, the whole's row counted.
func plainDeep(f F) int {
	n := 0
	for level := []F{f}; len(level) > 0; n++ {
		var next []F
		for _, x := range level {
			next = append(next, x.Kids...)
		}
		level = next
	}
	return n
}

// plainWrong is what is wrong with a node, clause by clause as the document tells it.
func plainWrong(f F) api.Errno {
	if f.Op < 1 || f.Op > 12 {
		return api.ErrArg
	}
	if len(f.Kids) != kidsOf[f.Op-1] {
		return api.ErrArg
	}
	if f.Op != kAtom && (f.Atom.Name != "" || f.Atom.Op != 0 || f.Atom.Value != 0) {
		return api.ErrArg
	}
	if !slices.Contains(spans, f.Op) && (f.Span.Lo != 0 || f.Span.Hi != 0) {
		return api.ErrArg
	}
	if f.Op == kAtom && (f.Atom.Op < 0 || f.Atom.Op > 6) {
		return api.ErrArg
	}
	if f.Op == kAtom && f.Atom.Op == 0 && f.Atom.Value != 0 {
		return api.ErrArg
	}
	if f.Op == kAtom && !label.Name(f.Atom.Name) {
		return api.ErrName
	}
	if slices.Contains(spans, f.Op) && (f.Span.Lo < 0 || f.Span.Hi < f.Span.Lo) {
		return api.ErrSpan
	}
	return api.OK
}

// plainSound tells whether nothing is wrong with any node.
func plainSound(f F) bool {
	return !slices.ContainsFunc(plainNodes(f), func(x F) bool { return plainWrong(x) != api.OK })
}

// plainCheck is Check by the document's words.
func plainCheck(f F) api.Errno {
	all := plainNodes(f)
	if len(all) > 48 {
		return api.ErrBig
	}
	if plainDeep(f) > 12 {
		return api.ErrDeep
	}
	for _, x := range all {
		if e := plainWrong(x); e != api.OK {
			return e
		}
	}
	return api.OK
}

// plainShow is a sound formula's text, and the place at which it stands.
func plainShow(f F) (string, int) {
	put := func(i, place int) string {
		s, p := plainShow(f.Kids[i])
		if p < place {
			return "(" + s + ")"
		}
		return s
	}
	span := fmt.Sprintf("[%d,%d]", f.Span.Lo, f.Span.Hi)
	switch f.Op {
	case kIff:
		return put(0, 1) + " <-> " + put(1, 2), 1
	case kImp:
		return put(0, 3) + " -> " + put(1, 2), 2
	case kOr:
		return put(0, 3) + " | " + put(1, 4), 3
	case kAnd:
		return put(0, 4) + " & " + put(1, 5), 4
	case kUn:
		return put(0, 6) + " U" + span + " " + put(1, 5), 5
	case kRe:
		return put(0, 6) + " R" + span + " " + put(1, 5), 5
	case kNot:
		return "!" + put(0, 6), 6
	case kEv:
		return "F" + span + " " + put(0, 6), 6
	case kAl:
		return "G" + span + " " + put(0, 6), 6
	case kTrue:
		return "true", 7
	case kFalse:
		return "false", 7
	}
	s := f.Atom.Name
	if f.Atom.Op != 0 {
		s += fmt.Sprintf(" %s %d", strings.Fields("= != < <= > >=")[f.Atom.Op-1], f.Atom.Value)
	}
	return s, 7
}

// exact is a formula as a text that tells all of it, sound or not.
func exact(f F) string {
	return strings.ReplaceAll(fmt.Sprintf("%#v", f), "[]formula.F{}", "[]formula.F(nil)")
}

// want tells of what isn't as it should be.
func want[T comparable](t *testing.T, what string, got, want T) {
	t.Helper()
	if got != want {
		t.Errorf("%s: %v, want %v", what, got, want)
	}
}

// The kinds' numbers are the document's.
func TestKinds(t *testing.T) {
	for i, k := range []int{formula.True, formula.False, formula.Atom, formula.Not, formula.And, formula.Or, formula.Imp, formula.Iff, formula.Ev, formula.Al, formula.Un, formula.Re} {
		want(t, "kind", k, i+1)
	}
}

// P8.1: nodes are counted as often as they stand in the tree; what is wrong with them plays no part.
func TestSizeAndDeep(t *testing.T) {
	a := name("a")
	two := node(kAnd, a, a)
	four := node(kOr, two, node(kIff, two, two))
	for _, c := range []struct {
		what       string
		f          F
		size, deep int
	}{
		{"the zero F", F{}, 1, 1},
		{"true", yes, 1, 1},
		{"an atom", a, 1, 1},
		{"empty Kids", F{Op: kTrue, Kids: []F{}}, 1, 1},
		{"not", node(kNot, a), 2, 2},
		{"one thing twice", two, 3, 2},
		{"one thing often", four, 11, 4},
		{"deep at first", node(kAnd, nots(5), a), 7, 6},
		{"deep at last", node(kAnd, a, nots(5)), 7, 6},
		{"deep amid", node(77, a, nots(5), nots(3), F{}), 11, 6},
		{"many Kids", F{Kids: make([]F, 1000)}, 1001, 2},
		{"a flat row", row(24), 47, 6},
		{"a chain", nots(300), 300, 300},
	} {
		want(t, c.what+": Size", formula.Size(c.f), c.size)
		want(t, c.what+": Deep", formula.Deep(c.f), c.deep)
	}
}

// P8.1: Same holds Ops, Atoms, Spans and Kids against each other, each of them.
func TestSame(t *testing.T) {
	a, b := name("a"), name("b")
	l := []F{
		{}, yes, no, {Op: -1}, {Op: 300},
		a, b, name(""), atom("a", 1, 0), atom("a", 2, 0), atom("a", 1, 1), atom("a", 1, -1), atom("a", 7, 0),
		node(kNot, a), node(kNot, b), node(kNot, node(kNot, a)), node(kNot),
		node(kAnd, a, b), node(kAnd, b, a), node(kAnd, a, a), node(kAnd, a), node(kAnd, a, b, b), node(kOr, a, b),
		over(kEv, 0, 1, a), over(kEv, 1, 1, a), over(kEv, 0, 2, a), over(kAl, 0, 1, a), over(kEv, 2, 1, a),
		over(kUn, 0, 1, a, b), over(kRe, 0, 1, a, b), over(kUn, 0, 1, b, a),
		{Op: kTrue, Span: sat.Span{Lo: 1}}, {Op: kTrue, Span: sat.Span{Hi: 1}},
		node(kAnd, node(kNot, a), b), node(kAnd, a, node(kNot, b)), node(kAnd, node(kNot, b), b),
	}
	for i, x := range l {
		for j, y := range l {
			if formula.Same(clone(x), clone(y)) != (i == j) {
				t.Errorf("Same of %v and %v isn't %v", x, y, i == j)
			}
		}
	}
	want(t, "nil and empty Kids", formula.Same(F{Op: kTrue, Kids: []F{}}, yes), true)
	want(t, "nil and empty Kids, within", formula.Same(node(kNot, yes), node(kNot, F{Op: kTrue, Kids: []F{}})), true)
}

// P8.1: Same is what texts that tell all of a formula say.
func TestSameOfMany(t *testing.T) {
	next := scatter(1)
	for range 20000 {
		x := some(next, 1+next(3))
		y := spoil(next, x)
		if next(2) == 0 {
			x = spoil(next, x)
		}
		want(t, exact(x)+" and "+exact(y), formula.Same(x, y), exact(x) == exact(y))
		want(t, exact(x)+" and itself", formula.Same(x, clone(x)), true)
	}
}

// listed is what Nodes tells, in order.
func listed(f F) []F {
	var l []F
	for x := range formula.Nodes(f) {
		l = append(l, x)
	}
	return l
}

// P8.1: each node, ahead of its Kids, the first Kid's nodes ahead of the second one's.
func TestNodes(t *testing.T) {
	a, b, c := name("a"), name("b"), name("c")
	left, right := node(kNot, a), over(kUn, 0, 3, b, c)
	f := node(kAnd, left, right)
	got := listed(f)
	expect := []F{f, left, a, right, b, c}
	want(t, "how many", len(got), len(expect))
	for i, x := range expect[:len(got)] {
		want(t, "node", exact(got[i]), exact(x))
	}
	want(t, "one node", exact(F{Kids: listed(F{})}), exact(node(0, F{})))
}

// P8.1: a loop that is left is told no more; the next one begins at the whole again.
func TestNodesLeft(t *testing.T) {
	f := node(kAnd, node(kOr, name("a"), name("b")), node(kNot, name("c")))
	nodes := formula.Nodes(f)
	for most := 1; most <= 6; most++ {
		n := 0
		for x := range nodes {
			want(t, "node", exact(x), exact(plainNodes(f)[n]))
			n++
			if n == most {
				break
			}
		}
		want(t, "how many", n, most)
	}
}

// P8.1: what Nodes tells is in new memory: whoever changes it changes nothing else, not what is told later either.
func TestNodesAlone(t *testing.T) {
	f := node(kAnd, node(kOr, name("a"), name("b")), over(kEv, 0, 1, node(kNot, name("c"))))
	before := clone(f)
	nodes := formula.Nodes(f)
	for range 2 {
		i := 0
		for x := range nodes {
			want(t, "node", exact(x), exact(plainNodes(before)[i]))
			i++
			for _, k := range x.Kids {
				for j := range k.Kids {
					k.Kids[j] = F{Op: 99}
				}
			}
			for j := range x.Kids {
				x.Kids[j] = F{Op: 98}
			}
			_ = append(x.Kids, F{Op: 97})
		}
		want(t, "how many", i, 7)
		want(t, "what was handed in", exact(f), exact(before))
	}
}

// P8.1: what is handed in stays as it is, and is not kept.
func TestNotKept(t *testing.T) {
	f := node(kAnd, node(kOr, name("a"), name("b")), over(kEv, 0, 1, node(kNot, name("c"))))
	nodes := formula.Nodes(f)
	f.Kids[0].Kids[1], f.Kids[1] = F{}, F{}
	var l []string
	for x := range nodes {
		l = append(l, strconv.Itoa(x.Op)+x.Atom.Name)
	}
	want(t, "nodes as they were", strings.Join(l, "; "), "5; 6; 3a; 3b; 9; 4; 3c")

	f = node(kImp, node(kOr, name("a"), name("b")), over(kEv, 0, 1, node(kNot, name("c"))))
	before := exact(f)
	formula.Size(f)
	formula.Deep(f)
	formula.Same(f, f)
	formula.Sound(f)
	formula.Check(f)
	formula.Show(f)
	want(t, "what was handed in", exact(f), before)
}

// good are nodes with which nothing is wrong; bad others, with what is wrong with them.
var good = []F{
	yes, no, {Op: kTrue, Kids: []F{}}, name("a"), name("a23456789_12"), name("truex"),
	atom("a", 1, 0), atom("a", 2, -1), atom("a", 3, 1), atom("a", 4, least), atom("a", 5, greatest), atom("a", 6, 0),
	node(kNot, yes), node(kAnd, yes, no), node(kOr, yes, no), node(kImp, yes, no), node(kIff, yes, no),
	over(kEv, 0, 0, yes), over(kAl, 0, 0, yes), over(kUn, 0, 0, yes, no), over(kRe, 0, 0, yes, no),
	over(kEv, 3, 3, yes), over(kAl, 0, greatest, yes), over(kUn, greatest, greatest, yes, no), over(kRe, 1, 2, yes, no),
}

var bad = []struct {
	f F
	e api.Errno
}{
	{F{}, api.ErrArg}, {F{Op: 13}, api.ErrArg}, {F{Op: -1}, api.ErrArg}, {F{Op: math.MaxInt}, api.ErrArg}, {F{Op: math.MinInt}, api.ErrArg},
	{F{Op: 256 + kTrue}, api.ErrArg}, {F{Op: 1<<32 + kTrue}, api.ErrArg},
	{atom("a", 0, 1), api.ErrArg}, {atom("a", 0, -1), api.ErrArg}, {atom("a", 7, 0), api.ErrArg}, {atom("a", -1, 0), api.ErrArg}, {atom("a", math.MaxInt, 0), api.ErrArg}, {atom("a", math.MinInt, 0), api.ErrArg},
	{name(""), api.ErrName}, {name("A"), api.ErrName}, {name("true"), api.ErrName}, {name("false"), api.ErrName}, {name("a23456789_123"), api.ErrName}, {name("a b"), api.ErrName},
	{atom("", 3, 5), api.ErrName}, {atom("Z", 1, 0), api.ErrName},
	// Of two things that are wrong with an atom the first one counts.
	{atom("", 0, 1), api.ErrArg}, {atom("A", 7, 0), api.ErrArg}, {F{Op: kAtom, Kids: []F{yes}}, api.ErrArg}, {F{Op: kAtom, Span: sat.Span{Lo: 1, Hi: 1}}, api.ErrArg},
}

// judged tells whether a formula is found right, or wrong by that error; what is wrong has no text.
func judged(t *testing.T, f F, e api.Errno) {
	t.Helper()
	got, sound, text := formula.Check(f), formula.Sound(f), formula.Show(f)
	if got != e || sound != (e == api.OK) || (text != "") != sound {
		t.Errorf("%s: Check %v, Sound %v, Show %q, want %v", exact(f), got, sound, text, e)
	}
}

// P8.2: nodes that may be, and nodes that may not, as the whole and within others.
func TestCheck(t *testing.T) {
	for _, f := range good {
		judged(t, f, api.OK)
		judged(t, node(kNot, f), api.OK)
		judged(t, over(kUn, 0, 1, f, f), api.OK)
	}
	for _, c := range bad {
		judged(t, c.f, c.e)
		judged(t, node(kNot, c.f), c.e)
		judged(t, node(kAnd, yes, c.f), c.e)
		judged(t, over(kRe, 0, 1, node(kNot, c.f), no), c.e)
	}
}

// P8.2: of each kind, each number of Kids.
func TestCheckOfKids(t *testing.T) {
	for op := -2; op <= 15; op++ {
		for n := range 5 {
			f := F{Op: op, Kids: slices.Repeat([]F{yes}, n)}
			if op == kAtom {
				f.Atom.Name = "a"
			}
			e := api.ErrArg
			if op >= 1 && op <= 12 && kidsOf[op-1] == n {
				e = api.OK
			}
			judged(t, f, e)
		}
	}
}

// P8.2: of each kind, an atom or a span that it should not have, or a span that is none.
func TestCheckOfAtomsAndSpans(t *testing.T) {
	for op := kTrue; op <= kRe; op++ {
		right := F{Op: op, Kids: slices.Repeat([]F{yes}, kidsOf[op-1])}
		if op == kAtom {
			right.Atom.Name = "a"
		}
		judged(t, right, api.OK)
		for _, a := range []label.Atom{{Name: "b"}, {Op: 1}, {Op: -1}, {Value: 1}, {Name: "b", Op: 1, Value: 1}, {Name: "B"}} {
			f := right
			f.Atom = a
			if op != kAtom {
				judged(t, f, api.ErrArg)
			} else {
				judged(t, f, plainWrong(f))
			}
		}
		for _, s := range []sat.Span{{Lo: 0, Hi: 1}, {Lo: 1, Hi: 1}, {Lo: 1, Hi: 0}, {Lo: -1, Hi: 0}, {Lo: 0, Hi: -1}, {Lo: -1, Hi: -1}, {Lo: least, Hi: greatest}, {Lo: greatest, Hi: least}} {
			f := right
			f.Span = s
			switch {
			case !slices.Contains(spans, op):
				judged(t, f, api.ErrArg)
			case s.Lo < 0 || s.Lo > s.Hi:
				judged(t, f, api.ErrSpan)
				// Another number of Kids, or an atom, is wrong ahead of the span.
				f.Kids = append(slices.Clone(f.Kids), yes)
				judged(t, f, api.ErrArg)
				f.Kids, f.Atom = right.Kids, label.Atom{Value: 1}
				judged(t, f, api.ErrArg)
			default:
				judged(t, f, api.OK)
			}
		}
	}
}

// P8.2: the first node that is wrong counts, in Nodes' order; and all of one node ahead of its Kids.
func TestCheckOrder(t *testing.T) {
	arg, nom, spn := F{}, name("A"), over(kEv, 2, 1, yes)
	for _, c := range []struct {
		f F
		e api.Errno
	}{
		{node(kAnd, nom, arg), api.ErrName}, {node(kAnd, arg, nom), api.ErrArg}, {node(kAnd, spn, nom), api.ErrSpan}, {node(kAnd, nom, spn), api.ErrName},
		{node(kAnd, node(kNot, node(kNot, spn)), arg), api.ErrSpan}, {node(kAnd, yes, node(kOr, spn, arg)), api.ErrSpan},
		{over(kEv, 2, 1, arg), api.ErrSpan}, {over(kUn, 2, 1, nom, arg), api.ErrSpan}, {node(kNot, arg, nom), api.ErrArg}, {node(kNot, over(kEv, -1, 0, nom)), api.ErrSpan},
	} {
		judged(t, c.f, c.e)
	}
}

// P8.2: too many nodes ahead of too deep, and both ahead of what is wrong with a node.
func TestCheckEdges(t *testing.T) {
	want(t, "47 nodes", formula.Check(row(24)), api.OK)
	want(t, "48 nodes", formula.Check(node(kNot, row(24))), api.OK)
	want(t, "49 nodes", formula.Check(row(25)), api.ErrBig)
	want(t, "49 nodes, sound", formula.Sound(row(25)), true)
	want(t, "49 nodes, one wrong", formula.Check(node(kAnd, F{}, node(kOr, yes, row(23)))), api.ErrBig)
	want(t, "48 nodes, one wrong", formula.Check(node(kAnd, F{}, node(kNot, node(kOr, yes, row(22))))), api.ErrArg)
	want(t, "49 Kids", formula.Check(F{Kids: make([]F, 48)}), api.ErrBig)
	want(t, "48 Kids", formula.Check(F{Kids: make([]F, 47)}), api.ErrArg)

	want(t, "12 deep", formula.Check(nots(12)), api.OK)
	want(t, "13 deep", formula.Check(nots(13)), api.ErrDeep)
	want(t, "13 deep, sound", formula.Sound(nots(13)), true)
	want(t, "13 deep at last", formula.Check(node(kAnd, yes, nots(12))), api.ErrDeep)
	want(t, "12 deep at last", formula.Check(node(kAnd, yes, nots(11))), api.OK)
	want(t, "13 deep, the first one wrong", formula.Check(node(0, nots(12))), api.ErrDeep)
	want(t, "12 deep, the first one wrong", formula.Check(node(0, nots(11))), api.ErrArg)
	want(t, "48 deep", formula.Check(nots(48)), api.ErrDeep)
	want(t, "49 deep", formula.Check(nots(49)), api.ErrBig)
	want(t, "49 nodes, 13 deep", formula.Check(node(kAnd, nots(12), node(kNot, row(18)))), api.ErrBig)
	want(t, "48 nodes, 13 deep", formula.Check(node(kAnd, nots(12), row(18))), api.ErrDeep)
}

// P8.1, P8.2: each formula ends, as deep and as great as may be, and what stands in it often.
func TestGreat(t *testing.T) {
	const levels = 1 << 16
	f := nots(levels)
	want(t, "Size", formula.Size(f), levels)
	want(t, "Deep", formula.Deep(f), levels)
	want(t, "Same", formula.Same(f, nots(levels)), true)
	want(t, "Same, one more", formula.Same(f, nots(levels+1)), false)
	want(t, "Sound", formula.Sound(f), true)
	want(t, "Check", formula.Check(f), api.ErrBig)
	want(t, "Show", formula.Show(f) == strings.Repeat("!", levels-1)+"true", true)
	for x := range formula.Nodes(f) {
		want(t, "the whole", formula.Size(x), levels)
		break
	}

	f = name("a")
	for range 20 {
		f = node(kAnd, f, f)
	}
	want(t, "Size", formula.Size(f), 1<<21-1)
	want(t, "Deep", formula.Deep(f), 21)
	want(t, "Check", formula.Check(f), api.ErrBig)
	want(t, "Sound", formula.Sound(f), true)

	wide := F{Op: kAnd, Kids: make([]F, 1<<20)}
	want(t, "Size", formula.Size(wide), 1<<20+1)
	want(t, "Deep", formula.Deep(wide), 2)
	want(t, "Check", formula.Check(wide), api.ErrBig)
	want(t, "Show", formula.Show(wide), "")
}

// P8.3: the text of each kind of node, and the document's example.
func TestShow(t *testing.T) {
	a, b, c := name("a"), name("b"), name("c")
	for s, f := range map[string]F{
		"true": yes, "false": no, "a": a, "a23456789_12": name("a23456789_12"),
		"a = 0": atom("a", 1, 0), "a != 7": atom("a", 2, 7), "a < -7": atom("a", 3, -7), "a <= 10": atom("a", 4, 10),
		"a > -9223372036854775808": atom("a", 5, least), "a >= 9223372036854775807": atom("a", 6, greatest),
		"!a": node(kNot, a), "!!a": node(kNot, node(kNot, a)), "!a = 1": node(kNot, atom("a", 1, 1)), "!true": node(kNot, yes),
		"a & b": node(kAnd, a, b), "a | b": node(kOr, a, b), "a -> b": node(kImp, a, b), "a <-> b": node(kIff, a, b),
		"F[0,0] a": over(kEv, 0, 0, a), "G[1,20] a": over(kAl, 1, 20, a), "F[0,9223372036854775807] a": over(kEv, 0, greatest, a),
		"a U[0,5] b": over(kUn, 0, 5, a, b), "a R[3,3] b": over(kRe, 3, 3, a, b),
		"a U[0,5] (b | c > 3)":     over(kUn, 0, 5, a, node(kOr, b, atom("c", 5, 3))),
		"!F[0,1] G[2,3] !a":        node(kNot, over(kEv, 0, 1, over(kAl, 2, 3, node(kNot, a)))),
		"!(a U[0,5] b)":            node(kNot, over(kUn, 0, 5, a, b)),
		"F[0,1] (a U[0,5] b)":      over(kEv, 0, 1, over(kUn, 0, 5, a, b)),
		"F[0,1] a U[0,5] G[0,1] b": over(kUn, 0, 5, over(kEv, 0, 1, a), over(kAl, 0, 1, b)),
		"(a U[0,1] b) R[2,3] c":    over(kRe, 2, 3, over(kUn, 0, 1, a, b), c),
		"a U[0,1] b R[2,3] c":      over(kUn, 0, 1, a, over(kRe, 2, 3, b, c)),
		"a U[0,1] b & c":           node(kAnd, over(kUn, 0, 1, a, b), c),
		"(a & b) U[0,1] c":         over(kUn, 0, 1, node(kAnd, a, b), c),
		"a U[0,1] (b & c)":         over(kUn, 0, 1, a, node(kAnd, b, c)),
		"a & b & c":                node(kAnd, node(kAnd, a, b), c),
		"a & (b & c)":              node(kAnd, a, node(kAnd, b, c)),
		"a & b U[0,1] c":           node(kAnd, a, over(kUn, 0, 1, b, c)),
		"a & b -> b | c <-> !c":    node(kIff, node(kImp, node(kAnd, a, b), node(kOr, b, c)), node(kNot, c)),
		"a -> (b <-> c)":           node(kImp, a, node(kIff, b, c)),
		"(a <-> b) -> c":           node(kImp, node(kIff, a, b), c),
		"(a -> b) | c":             node(kOr, node(kImp, a, b), c),
		"a | (b -> c)":             node(kOr, a, node(kImp, b, c)),
		"a | b & c":                node(kOr, a, node(kAnd, b, c)),
		"!(a <-> b)":               node(kNot, node(kIff, a, b)),
	} {
		want(t, s, formula.Show(f), s)
	}
}

// P8.3: each kind at each place of each kind.
func TestShowOfPlaces(t *testing.T) {
	whole := func(op int, kids ...F) F {
		f := F{Op: op, Kids: kids}
		if op == kAtom {
			f.Atom.Name = "p"
		}
		if slices.Contains(spans, op) {
			f.Span = sat.Span{Lo: 1, Hi: 2}
		}
		return f
	}
	leaf := func(op int) F { return whole(op, slices.Repeat([]F{name("q")}, kidsOf[op-1])...) }
	for op := kTrue; op <= kRe; op++ {
		for n, one := kidsOf[op-1], kTrue; n > 0 && one <= kRe; one++ {
			for other := kTrue; other <= kRe; other++ {
				f := whole(op, []F{leaf(one), leaf(other)}[:n]...)
				s, _ := plainShow(f)
				want(t, exact(f), formula.Show(f), s)
			}
		}
	}
}

// P8.3: one wrong node anywhere, and there is no text.
func TestShowOfWrong(t *testing.T) {
	for _, c := range bad {
		for _, f := range []F{c.f, node(kNot, c.f), node(kAnd, c.f, yes), over(kUn, 0, 1, yes, node(kOr, yes, c.f))} {
			want(t, exact(f), formula.Show(f), "")
		}
	}
	want(t, "a formula that is sound, but too deep", formula.Show(nots(14)), strings.Repeat("!", 13)+"true")
	want(t, "a formula that is sound, but too big", formula.Show(row(32)) != "", true)
}

// P8.1 to P8.3: formulas of all shapes, right and wrong, held against the plain way.
func TestMany(t *testing.T) {
	next := scatter(8)
	seen := map[api.Errno]int{}
	for i := range 30000 {
		f := some(next, 1+next(7))
		for range i % 3 {
			f = spoil(next, f)
		}
		all := plainNodes(f)
		if len(all) > 200 {
			continue
		}
		e := plainCheck(f)
		seen[e]++
		what := exact(f)
		want(t, what+": Check", formula.Check(f), e)
		want(t, what+": Sound", formula.Sound(f), plainSound(f))
		want(t, what+": Size", formula.Size(f), len(all))
		want(t, what+": Deep", formula.Deep(f), plainDeep(f))
		text := ""
		if plainSound(f) {
			text, _ = plainShow(f)
		}
		want(t, what+": Show", formula.Show(f), text)
		want(t, what+": Nodes", slices.EqualFunc(listed(f), all, formula.Same), true)
	}
	for _, e := range []api.Errno{api.OK, api.ErrArg, api.ErrName, api.ErrSpan, api.ErrBig} {
		if seen[e] < 100 {
			t.Errorf("only %d formulas with %v", seen[e], e)
		}
	}
}

// P8.4: sound formulas that aren't the same have unlike texts: of all small ones.
func TestUnlikeTexts(t *testing.T) {
	small := [][]F{nil, {yes, no, name("a"), name("f"), atom("a", 1, 0), atom("a", 3, -1), atom("a", 5, 10)}}
	for size := 2; size <= 4; size++ {
		var l []F
		for op := kNot; op <= kRe; op++ {
			for _, span := range []sat.Span{{}, {Hi: 1}, {Lo: 1, Hi: 10}} {
				if span != (sat.Span{}) && !slices.Contains(spans, op) {
					continue
				}
				if kidsOf[op-1] == 1 {
					for _, k := range small[size-1] {
						l = append(l, F{Op: op, Span: span, Kids: []F{k}})
					}
					continue
				}
				for one := 1; one < size-1; one++ {
					for _, x := range small[one] {
						for _, y := range small[size-1-one] {
							l = append(l, F{Op: op, Span: span, Kids: []F{x, y}})
						}
					}
				}
			}
		}
		small = append(small, l)
	}
	seen := map[string]F{}
	for _, l := range small {
		for _, f := range l {
			s := formula.Show(f)
			if x, is := seen[s]; is || s == "" {
				t.Fatalf("%q: %s and %s", s, exact(x), exact(f))
			}
			seen[s] = f
		}
	}
	if len(seen) < 8000 {
		t.Errorf("only %d formulas", len(seen))
	}
}

// P8.4: unlike texts of greater ones, too; the same text is of the same formula.
func TestUnlikeTextsOfMany(t *testing.T) {
	next := scatter(4)
	seen := map[string]F{}
	for range 30000 {
		f := some(next, 1+next(4))
		s := formula.Show(f)
		if x, is := seen[s]; is && !formula.Same(x, f) {
			t.Errorf("%q: %s and %s", s, exact(x), exact(f))
		}
		seen[s] = f
	}
}

// P8.4: Kids of a formula that checks check, too.
func TestKidsCheck(t *testing.T) {
	next := scatter(5)
	n := 0
	for range 5000 {
		f := some(next, 1+next(6))
		if formula.Check(f) != api.OK {
			continue
		}
		n++
		for x := range formula.Nodes(f) {
			want(t, exact(x), formula.Check(x), api.OK)
		}
	}
	if n < 2000 {
		t.Errorf("only %d formulas", n)
	}
}
