package writer

import (
	"fmt"
	"math"
	"math/rand"
	"slices"
	"strconv"
	"strings"
	"testing"

	"torchere/api"
	"torchere/ops"
	"torchere/reader"
	"torchere/term"
	"torchere/token"
)

// levels is how many of them the terms of these tests are valid for.
const levels = 4

// sealed is a Seal of that number around these.
func sealed(n int64, kids ...api.Term) api.Term {
	return api.Term{Kind: api.Seal, N: n, Kids: kids}
}

// nest is core with Funs f of one argument around it, that deep in all.
func nest(deep int, core api.Term) api.Term {
	for range deep - term.Deep(core) {
		core = api.Term{Kind: api.Fun, S: "f", Kids: []api.Term{core}}
	}
	return core
}

// texts holds Text of a term to that text.
func texts(t *testing.T, x api.Term, want string) {
	t.Helper()
	if s := Text(x); s != want {
		t.Errorf("%.200q; want %.200q", s, want)
	}
}

// TestVars: P8.1, a Var of any N, whatever else stands in it.
func TestVars(t *testing.T) {
	for n, want := range map[int64]string{
		0:              "_0",
		7:              "_7",
		10:             "_10",
		4095:           "_4095",
		4096:           "_4096",
		-1:             "_-1",
		math.MaxInt64:  "_9223372036854775807",
		math.MinInt64:  "_-9223372036854775808",
		math.MaxUint32: "_4294967295",
	} {
		texts(t, api.Term{Kind: api.Var, N: n}, want)
		texts(t, api.Term{Kind: api.Var, N: n, S: "X", Kids: []api.Term{term.Atom("a")}}, want)
		texts(t, term.Make("f", api.Term{Kind: api.Var, N: n}), "f("+want+")")
	}
}

// TestInts: P8.1, an Int of any N, whatever else stands in it.
func TestInts(t *testing.T) {
	for n, want := range map[int64]string{
		0:             "0",
		5:             "5",
		-12:           "-12",
		100:           "100",
		1 << 32:       "4294967296",
		-1:            "-1",
		math.MaxInt64: "9223372036854775807",
		math.MinInt64: "-9223372036854775808",
	} {
		texts(t, term.Num(n), want)
		texts(t, api.Term{Kind: api.Int, N: n, S: "X", Kids: []api.Term{term.Atom("a")}}, want)
		texts(t, term.Make("f", term.Num(n), term.Num(n)), "f("+want+","+want+")")
	}
}

// names are those whose text is told here letter by letter: as a Fun without Kids, and, where that differs, with Kids.
var names = []struct{ s, alone, functor string }{
	{"a", "a", ""},
	{"aB_9", "aB_9", ""},
	{"mod", "mod", ""},
	{"[]", "[]", "'[]'"},
	{"!", "!", ""},
	{";", ";", ""},
	{"-", "-", ""},
	{"+", "+", ""},
	{":-", ":-", ""},
	{"\\+", "\\+", ""},
	{"@", "@", ""},
	{"..", "..", ""},
	{"=..", "=..", ""},
	{"?", "?", ""},
	{"", "''", ""},
	{".", "'.'", ""},
	{",", "','", ""},
	{"|", "'|'", ""},
	{"{}", "'{}'", ""},
	{"[", "'['", ""},
	{"[ ]", "'[ ]'", ""},
	{"[][]", "'[][]'", ""},
	{"'[]'", "'''[]'''", ""},
	{"A", "'A'", ""},
	{"_1", "'_1'", ""},
	{"1", "'1'", ""},
	{"-1", "'-1'", ""},
	{"A b", "'A b'", ""},
	{"don't", "'don''t'", ""},
	{"'", "''''", ""},
	{"\\n ", "'\\\\n '", ""},
	{"a\nb", "'a\\nb'", ""},
	{"a%b", "'a%b'", ""},
	{"a\tb", "'a\tb'", ""},
	{"é\x00\xff", "'é\x00\xff'", ""},
	{"!;", "'!;'", ""},
	{strings.Repeat("a", 70), strings.Repeat("a", 70), ""},
}

// TestFuns: P8.1, a Fun of any name, without Kids, with one and with more; its N is not told.
func TestFuns(t *testing.T) {
	for _, c := range names {
		functor := c.functor
		if functor == "" {
			functor = c.alone
		}
		a, x := term.Atom(c.s), term.Let(3)
		texts(t, a, c.alone)
		texts(t, api.Term{Kind: api.Fun, S: c.s, N: -5}, c.alone)
		texts(t, term.Make(c.s, x), functor+"(_3)")
		texts(t, term.Make(c.s, a), functor+"("+c.alone+")")
		texts(t, term.Make(c.s, x, a), functor+"(_3,"+c.alone+")")
		texts(t, term.Make(c.s, term.Make(c.s, a), term.Num(-1), a), functor+"("+functor+"("+c.alone+"),-1,"+c.alone+")")
		texts(t, sealed(1, a), "@("+c.alone+",1)")
	}
	nine := slices.Repeat([]api.Term{term.Atom("a")}, 9)
	texts(t, term.Make("f", nine...), "f(a,a,a,a,a,a,a,a,a)")
	texts(t, api.Term{Kind: api.Fun, N: 3, S: "f", Kids: nine[:2]}, "f(a,a)")
}

// TestOperators: P8.1, operators and lists are written as any other name is.
func TestOperators(t *testing.T) {
	a, b := term.Atom("a"), term.Atom("b")
	texts(t, term.Make("+", term.Num(1), term.Num(2)), "+(1,2)")
	texts(t, term.Make("-", term.Num(1)), "-(1)")
	texts(t, term.Make("-", term.Num(-1)), "-(-1)")
	texts(t, term.Make(",", a, b), "','(a,b)")
	texts(t, term.Make(".", a, term.Make(".", b, term.Atom("[]"))), "'.'(a,'.'(b,[]))")
	texts(t, term.Make(":-", a, term.Make(",", b, term.Make("\\+", a))), ":-(a,','(b,\\+(a)))")
	texts(t, term.Make("@", a, term.Num(1)), "@(a,1)")
	texts(t, term.Make("f", term.Let(1), term.Atom("A")), "f(_1,'A')")
	for _, op := range ops.All() {
		name := op.Name
		if name == "," {
			name = "','"
		}
		texts(t, term.Atom(op.Name), name)
		texts(t, term.Make(op.Name, a), name+"(a)")
		texts(t, term.Make(op.Name, a, b), name+"(a,b)")
	}
}

// TestSeals: P8.1, a Seal of any N; with one of Kids it is written, with none or more it is not.
func TestSeals(t *testing.T) {
	a := term.Atom("a")
	for n, want := range map[int64]string{
		0:             "0",
		3:             "3",
		16:            "16",
		-1:            "-1",
		math.MaxInt64: "9223372036854775807",
		math.MinInt64: "-9223372036854775808",
	} {
		texts(t, sealed(n, a), "@(a,"+want+")")
		texts(t, api.Term{Kind: api.Seal, N: n, S: "s", Kids: []api.Term{a}}, "@(a,"+want+")")
		texts(t, sealed(n), "?")
		texts(t, api.Term{Kind: api.Seal, N: n, Kids: []api.Term{}}, "?")
		texts(t, sealed(n, a, a), "?")
		texts(t, sealed(n, a, a, a), "?")
	}
	texts(t, sealed(1, term.Make("f", a, sealed(2, term.Num(-7)))), "@(f(a,@(-7,2)),1)")
	texts(t, sealed(1, sealed(0, term.Atom("A b"))), "@(@('A b',0),1)")
	texts(t, sealed(1, term.Let(5)), "@(_5,1)")
	texts(t, sealed(1, sealed(2)), "@(?,1)")
	texts(t, term.Make("f", sealed(1, a, a), a, sealed(2)), "f(?,a,?)")
}

// TestOthers: P8.1, a Kind that there is none of is a question mark, alone and within others, and its Kids are not told.
func TestOthers(t *testing.T) {
	a := term.Atom("a")
	for _, kind := range []int{math.MinInt, -4, -1, 0, 5, 6, 1 << 8, 1<<8 + api.Fun, 1<<32 + api.Int, math.MaxInt} {
		for _, x := range []api.Term{{Kind: kind}, {Kind: kind, N: 3, S: "f"}, {Kind: kind, S: "f", Kids: []api.Term{a}}, {Kind: kind, Kids: []api.Term{a, a}}} {
			texts(t, x, "?")
			texts(t, term.Make("f", x), "f(?)")
			texts(t, term.Make("f", a, x, x), "f(a,?,?)")
			texts(t, term.Make("[]", term.Make("g", x)), "'[]'(g(?))")
			texts(t, sealed(2, x), "@(?,2)")
		}
	}
}

// TestNoKids: R2, Kids that are nil and Kids that are empty are written alike.
func TestNoKids(t *testing.T) {
	for kind := -1; kind <= 6; kind++ {
		for _, s := range []string{"", "a", "[]", "A"} {
			without := api.Term{Kind: kind, N: 2, S: s}
			empty := without
			empty.Kids = []api.Term{}
			cut := without
			cut.Kids = []api.Term{term.Num(1)}[:0]
			texts(t, empty, Text(without))
			texts(t, cut, Text(without))
			texts(t, term.Make("f", empty), "f("+Text(without)+")")
			if strings.Contains(Text(empty), "(") {
				t.Error(Text(empty))
			}
		}
	}
}

// wantText is P8.1, sentence by sentence.
func wantText(t api.Term) string {
	if t.Kind == 1 {
		return "_" + fmt.Sprint(t.N)
	}
	if t.Kind == 2 {
		return fmt.Sprint(t.N)
	}
	if t.Kind == 3 && len(t.Kids) == 0 {
		return token.Quote(t.S)
	}
	if t.Kind == 3 {
		name := token.Quote(t.S)
		if t.S == "[]" {
			name = "'[]'"
		}
		var kids []string
		for _, kid := range t.Kids {
			kids = append(kids, wantText(kid))
		}
		return name + "(" + strings.Join(kids, ",") + ")"
	}
	if t.Kind == 4 && len(t.Kids) == 1 {
		return "@(" + wantText(t.Kids[0]) + "," + fmt.Sprint(t.N) + ")"
	}
	return "?"
}

// anyTerm is a term at random, most often not a valid one.
func anyTerm(r *rand.Rand, deep int) api.Term {
	x := api.Term{Kind: []int{0, 1, 2, 3, 3, 3, 3, 4, 4, 5, -1}[r.Intn(11)]}
	x.N = []int64{0, 0, 1, 2, -1, 4095, int64(r.Uint64()), math.MinInt64, math.MaxInt64}[r.Intn(9)]
	if r.Intn(5) > 0 {
		x.S = names[r.Intn(len(names))].s
	}
	if deep == 0 {
		return x
	}
	for range []int{0, 1, 1, 1, 2, 2, 3, 9}[r.Intn(8)] {
		x.Kids = append(x.Kids, anyTerm(r, deep-1))
	}
	return x
}

// TestAnyTerms: P8.1, terms at random, against a second way to write them.
func TestAnyTerms(t *testing.T) {
	r := rand.New(rand.NewSource(1))
	for k := range 30000 {
		x := anyTerm(r, k%5)
		texts(t, x, wantText(x))
	}
}

// TestAnswer: P8.2, which names are told, in which order and with what between.
func TestAnswer(t *testing.T) {
	a, seven, x, f := term.Atom("a"), term.Num(-7), term.Let(3), term.Make("f", term.Atom("A"), sealed(1, term.Atom("b")))
	for _, c := range []struct {
		names []string
		vals  []api.Term
		want  string
	}{
		{nil, nil, "yes"},
		{[]string{}, []api.Term{}, "yes"},
		{nil, []api.Term{a}, "yes"},
		{[]string{"X"}, nil, "yes"},
		{[]string{"X"}, []api.Term{}, "yes"},
		{[]string{"X"}, []api.Term{a}, "X = a"},
		{[]string{"X", "Y"}, []api.Term{a, seven}, "X = a, Y = -7"},
		{[]string{"Y", "X"}, []api.Term{a, seven}, "Y = a, X = -7"},
		{[]string{"X", "Y", "Zz"}, []api.Term{x, f, a}, "X = _3, Y = f('A',@(b,1)), Zz = a"},
		{[]string{"X", "X"}, []api.Term{a, seven}, "X = a, X = -7"},
		{[]string{"X", "Y"}, []api.Term{a}, "X = a"},
		{[]string{"X", "Y", "Z"}, []api.Term{a, x}, "X = a, Y = _3"},
		{[]string{"X"}, []api.Term{a, seven}, "X = a"},
		{[]string{"_"}, []api.Term{a}, "yes"},
		{[]string{"_X"}, []api.Term{a}, "yes"},
		{[]string{"__"}, []api.Term{a}, "yes"},
		{[]string{"_", "_a", "_1"}, []api.Term{a, a, a}, "yes"},
		{[]string{"_", "X"}, []api.Term{a, seven}, "X = -7"},
		{[]string{"X", "_"}, []api.Term{a, seven}, "X = a"},
		{[]string{"X", "_", "Y"}, []api.Term{a, seven, x}, "X = a, Y = _3"},
		{[]string{"X", "_", "Yy", "Z"}, []api.Term{a, x, term.Num(1)}, "X = a, Yy = 1"},
		{[]string{"_", "X"}, []api.Term{a}, "yes"},
		{[]string{"_", "_", "X"}, []api.Term{a, a}, "yes"},
		{[]string{"X_", "Y_Z"}, []api.Term{a, a}, "X_ = a, Y_Z = a"},
		{[]string{""}, []api.Term{a}, " = a"},
		{[]string{"", "X", ""}, []api.Term{a, seven, x}, " = a, X = -7,  = _3"},
		{[]string{"", ""}, []api.Term{a}, " = a"},
		{[]string{" _", "a b", "'", "x\n", "\xff"}, []api.Term{a, a, a, a, a}, " _ = a, a b = a, ' = a, x\n = a, \xff = a"},
		{[]string{"X", "Y", "Z"}, []api.Term{{}, term.Atom(""), sealed(1)}, "X = ?, Y = '', Z = ?"},
		{[]string{"yes"}, []api.Term{term.Atom("yes")}, "yes = yes"},
	} {
		if s := Answer(c.names, c.vals); s != c.want {
			t.Errorf("%q: %q; want %q", c.names, s, c.want)
		}
	}
}

// wantAnswer is P8.2, sentence by sentence.
func wantAnswer(names []string, vals []api.Term) string {
	text := ""
	for k := range names {
		if len(names[k]) > 0 && names[k][0] == '_' || k >= len(vals) {
			continue
		}
		if text != "" {
			text += ", "
		}
		text += names[k] + " = " + wantText(vals[k])
	}
	if text == "" {
		return "yes"
	}
	return text
}

// TestAnyAnswers: P8.2, names and values at random, of any numbers of both.
func TestAnyAnswers(t *testing.T) {
	r := rand.New(rand.NewSource(2))
	for range 20000 {
		named := make([]string, r.Intn(6))
		for k := range named {
			named[k] = []string{"X", "Y", "_", "_X", "", "__", "X_", " _", "yes", ", "}[r.Intn(10)]
		}
		vals := make([]api.Term, r.Intn(6))
		for k := range vals {
			vals[k] = anyTerm(r, r.Intn(3))
		}
		if s, want := Answer(named, vals), wantAnswer(named, vals); s != want {
			t.Fatalf("%q: %q; want %q", named, s, want)
		}
	}
}

// numbered is a term with its variables numbered by their first occurrence; known are the numbers that occurred so far.
func numbered(t api.Term, known *[]int64) api.Term {
	if t.Kind == api.Var {
		if !slices.Contains(*known, t.N) {
			*known = append(*known, t.N)
		}
		return term.Let(slices.Index(*known, t.N))
	}
	kids := t.Kids
	t.Kids = nil
	for _, kid := range kids {
		t.Kids = append(t.Kids, numbered(kid, known))
	}
	return t
}

// readAgain holds a term, written and with an end behind it, to be read as it was, but for the numbers of its variables.
func readAgain(t *testing.T, x api.Term) {
	t.Helper()
	if e := term.Check(x, levels); e != api.OK {
		t.Fatalf("%.200q: %v", Text(x), e)
	}
	s := Text(x)
	all, at, e := reader.All(s+" .", levels)
	if e != api.OK || len(all) != 1 {
		t.Fatalf("%.200q: %d terms, %v at %d", s, len(all), e, at)
	}
	var known []int64
	if !term.Same(all[0], numbered(x, &known)) {
		t.Fatalf("%.200q is read as %.200q", s, Text(all[0]))
	}
}

// anyName is a name at random that may occur in a text.
func anyName(r *rand.Rand) string {
	all := ops.All()
	switch r.Intn(5) {
	case 0:
		return []string{"a", "f", "[]", "", "!", ";", ".", "X", "_", "|", "(", ")", "'", "\\", "\n", " ", "%", "0", "-1"}[r.Intn(19)]
	case 1:
		return all[r.Intn(len(all))].Name
	case 2:
		const signs = `+-*/\^<>=~:.?@#&$`
		s := ""
		for range 1 + r.Intn(3) {
			s += string(signs[r.Intn(len(signs))])
		}
		return s
	}
	s := make([]byte, r.Intn(6))
	for k := range s {
		s[k] = byte(32 + r.Intn(224))
		if r.Intn(8) == 0 {
			s[k] = []byte("'\\\n%.")[r.Intn(5)]
		}
	}
	return string(s)
}

// validTerm is a valid term at random, without variables if it is to be bare, and without a Fun @ with two Kids.
func validTerm(r *rand.Rand, deep int, bare bool) api.Term {
	switch r.Intn(8) {
	case 0:
		return term.Num([]int64{0, 1, -1, int64(r.Uint64()), math.MaxInt64, math.MinInt64}[r.Intn(6)])
	case 1, 2:
		if !bare {
			return term.Let([]int{0, 1, 2, r.Intn(api.MaxVars), api.MaxVars - 1}[r.Intn(5)])
		}
	case 3:
		if deep > 1 {
			return sealed(r.Int63n(levels), validTerm(r, deep-1, true))
		}
	}
	x := term.Atom(anyName(r))
	if deep == 1 {
		return x
	}
	for range r.Intn(4) {
		x.Kids = append(x.Kids, validTerm(r, deep-1, bare))
	}
	if x.S == "@" && len(x.Kids) == 2 {
		x.Kids = x.Kids[:1]
	}
	return x
}

// TestReadAgain: P8.3, valid terms at random.
func TestReadAgain(t *testing.T) {
	r := rand.New(rand.NewSource(3))
	many := 0
	for k := range 40000 {
		x := validTerm(r, 1+k%6, false)
		if len(Text(x))+2 <= api.MaxText {
			readAgain(t, x)
			many++
		}
	}
	if many < 39000 {
		t.Error(many)
	}
}

// TestReadAgainNames: P8.3, each name of one byte that may occur in a text, each one of two signs and each operator; alone, as an argument, and with any number of Kids.
func TestReadAgainNames(t *testing.T) {
	all := []string{"", "[]", "\n", "a'", "''", "\\'", "\\n", "a.b", "a. b", "/*", "-1", "_0", strings.Repeat("'", 64), strings.Repeat("\n", 64), strings.Repeat("a", 64)}
	for c := 32; c < 256; c++ {
		all = append(all, string([]byte{byte(c)}))
	}
	const signs = `+-*/\^<>=~:.?@#&$`
	for _, a := range signs {
		for _, b := range signs {
			all = append(all, string(a)+string(b))
		}
	}
	for _, op := range ops.All() {
		all = append(all, op.Name)
	}
	for _, s := range all {
		a := term.Atom(s)
		readAgain(t, a)
		readAgain(t, sealed(3, a))
		readAgain(t, sealed(1, sealed(2, a)))
		for many := 1; many <= api.MaxKids; many++ {
			for _, kid := range []api.Term{a, term.Num(1), term.Num(-1), term.Let(9), term.Make("f", a)} {
				kids := slices.Repeat([]api.Term{kid}, many)
				readAgain(t, term.Make("f", kids...))
				if s != "@" || many != 2 {
					readAgain(t, term.Make(s, kids...))
					readAgain(t, term.Make("f", term.Make(s, kids...), a))
				}
			}
		}
	}
}

// TestReadAgainEdges: P8.3, numbers at their edges, variables in any order, each level, and the greatest terms that a text has room for.
func TestReadAgainEdges(t *testing.T) {
	for _, n := range []int64{0, 1, -1, math.MaxInt64, math.MinInt64, math.MinInt64 + 1} {
		readAgain(t, term.Num(n))
		readAgain(t, term.Make("-", term.Num(n)))
		readAgain(t, term.Make("-", term.Num(n), term.Num(n)))
		readAgain(t, sealed(0, term.Num(n)))
	}
	readAgain(t, term.Let(0))
	readAgain(t, term.Let(4095))
	readAgain(t, term.Make("f", term.Let(7), term.Make("g", term.Let(0), term.Let(7)), term.Let(4095), term.Let(0)))
	for n := range int64(levels) {
		readAgain(t, sealed(n, term.Make("f", sealed(levels-1-n, term.Atom("a")), term.Num(-2))))
	}
	readAgain(t, nest(30, term.Let(5)))
	readAgain(t, nest(30, sealed(1, sealed(2, term.Num(-5)))))
	full := term.Atom("f")
	for _, size := range []int{125, 125, 125, 125, 125, 125, 125, 124} {
		full.Kids = append(full.Kids, bush(size))
	}
	if term.Size(full) != api.MaxSize {
		t.Fatal(term.Size(full))
	}
	readAgain(t, full)
	x := long(api.MaxText - 2)
	if len(Text(x))+2 != api.MaxText {
		t.Fatal(len(Text(x)))
	}
	readAgain(t, x)
}

// bush is a Fun of that many parts, at most 8 Kids each and not deep.
func bush(size int) api.Term {
	t := term.Atom("a")
	left := size - 1
	for k := range 8 {
		take := (left + 7 - k) / (8 - k)
		if take > 0 {
			t.Kids = append(t.Kids, bush(take))
		}
		left -= take
	}
	return t
}

// long is a valid term whose Text has that many bytes, 3700 to 4100 of them: seven rows of names of 64 bytes, and a last one that fills up.
func long(size int) api.Term {
	row := term.Make("f", slices.Repeat([]api.Term{term.Atom(strings.Repeat("a", 64))}, 8)...)
	x := term.Make("f", slices.Repeat([]api.Term{row}, 7)...)
	last := term.Atom("g")
	for left := size - len(Text(x)) - len(",g()"); left > 0; {
		take := min(left, 64)
		if left == 65 {
			take = 32 // so that there is a byte for the comma, and one for the name behind it
		}
		last.Kids = append(last.Kids, term.Atom(strings.Repeat("b", take)))
		left -= take + len(",")
	}
	x.Kids = append(x.Kids, last)
	return x
}

// notAgain holds a valid term to be refused when it is read again, by that error.
func notAgain(t *testing.T, x api.Term, want api.Errno) {
	t.Helper()
	if e := term.Check(x, levels); e != api.OK {
		t.Fatalf("%.200q: %v", Text(x), e)
	}
	if all, _, e := reader.All(Text(x)+" .", levels); e != want || len(all) != 0 {
		t.Errorf("%.200q: %d terms, %v; want %v", Text(x), len(all), e, want)
	}
}

// TestNotAgain: where P8.3 ends: a Fun @ with two Kids, and what the chapters of the scanner and the parser refuse in any text (a byte below 32 other than 10, more than 4096 bytes, more than 60 terms and primaries one within another). It is written by P8.1 all the same.
func TestNotAgain(t *testing.T) {
	a := term.Atom("a")
	all, _, e := reader.All(Text(term.Make("@", a, term.Num(1)))+" .", levels)
	if e != api.OK || len(all) != 1 || !term.Same(all[0], sealed(1, a)) {
		t.Error(all, e)
	}
	notAgain(t, term.Make("@", a, a), api.ErrForm)
	notAgain(t, term.Make("@", term.Let(0), term.Num(1)), api.ErrForm)
	notAgain(t, term.Make("f", term.Make("@", a, term.Num(levels))), api.ErrForm)
	for c := range 32 {
		if c != 10 {
			notAgain(t, term.Atom(string([]byte{'a', byte(c)})), api.ErrForm)
		}
	}
	notAgain(t, nest(31, a), api.ErrDeep)
	notAgain(t, nest(60, term.Let(0)), api.ErrDeep)
	x := long(api.MaxText - 1)
	if len(Text(x))+2 != api.MaxText+1 {
		t.Fatal(len(Text(x)))
	}
	notAgain(t, x, api.ErrFull)
}

// TestEnd: P8.3, an end needs no blank ahead of it unless the Text ends in a sign.
func TestEnd(t *testing.T) {
	for _, x := range []api.Term{term.Num(-1), term.Let(0), term.Atom("a"), term.Atom("[]"), term.Atom("A b"), term.Atom("!"), term.Make("+", term.Num(1)), sealed(1, term.Atom("+"))} {
		all, _, e := reader.All(Text(x)+".", levels)
		if e != api.OK || len(all) != 1 || !term.Same(all[0], x) {
			t.Error(Text(x), all, e)
		}
	}
}

// TestNoBlanks: P8.1, nothing is skipped when a Text is scanned.
func TestNoBlanks(t *testing.T) {
	r := rand.New(rand.NewSource(4))
	for k := range 5000 {
		s := Text(validTerm(r, 1+k%5, false))
		if len(s) > api.MaxText {
			continue
		}
		tokens, at, err := token.Scan(s)
		if err != nil {
			t.Fatalf("%q: %v at %d", s, err, at)
		}
		for k, this := range tokens {
			if this.Tight != (k > 0) {
				t.Fatalf("%q: token %d", s, k)
			}
		}
	}
}

// copied is a term that shares nothing with that one.
func copied(t api.Term) api.Term {
	kids := t.Kids
	t.Kids = nil
	for _, kid := range kids {
		t.Kids = append(t.Kids, copied(kid))
	}
	return t
}

// TestArguments: R3, arguments are not changed, not even behind their ends.
func TestArguments(t *testing.T) {
	r := rand.New(rand.NewSource(5))
	for range 500 {
		vals := make([]api.Term, 5)
		for k := range vals {
			vals[k] = anyTerm(r, 3)
		}
		var was []api.Term
		for _, val := range vals {
			was = append(was, copied(val))
		}
		named := []string{"X", "_", "Y", "", "Z"}
		Answer(named[:3], vals[:4])
		Answer(named[:4], vals[:2])
		Text(api.Term{Kind: api.Fun, S: "f", Kids: vals[:2]})
		for k := range vals {
			if !term.Same(vals[k], was[k]) {
				t.Fatal(k)
			}
		}
		if !slices.Equal(named, []string{"X", "_", "Y", "", "Z"}) {
			t.Fatal(named)
		}
	}
}

// TestNothingKept: R4, what was written before changes nothing.
func TestNothingKept(t *testing.T) {
	r := rand.New(rand.NewSource(6))
	var all []api.Term
	var first []string
	for range 200 {
		x := anyTerm(r, 3)
		all = append(all, x)
		first = append(first, Text(x))
	}
	for _, k := range r.Perm(len(all)) {
		texts(t, all[k], first[k])
		if s := Answer([]string{"X"}, all[k:]); s != "X = "+first[k] {
			t.Error(s)
		}
	}
}

// TestGreat: P1, terms of many levels and of many parts are written, and in one go: copied for each level, their texts would take minutes.
func TestGreat(t *testing.T) {
	const deep = 1 << 16
	x := term.Atom("end")
	y := x
	for range deep - 1 {
		x = api.Term{Kind: api.Fun, S: ".", Kids: []api.Term{term.Num(1), x}}
		y = sealed(1, y)
	}
	texts(t, x, strings.Repeat("'.'(1,", deep-1)+"end"+strings.Repeat(")", deep-1))
	texts(t, y, strings.Repeat("@(", deep-1)+"end"+strings.Repeat(",1)", deep-1))
	const many = 300000
	wide := api.Term{Kind: api.Fun, S: "f", Kids: slices.Repeat([]api.Term{term.Let(1)}, many)}
	texts(t, wide, "f(_1"+strings.Repeat(",_1", many-1)+")")
	named := make([]string, many)
	for k := range named {
		named[k] = "X" + strconv.Itoa(k)
	}
	if s := Answer(named, wide.Kids); !strings.HasPrefix(s, "X0 = _1, X1 = _1, ") || !strings.HasSuffix(s, ", X299999 = _1") {
		t.Error(len(s))
	}
	shared := term.Atom("a")
	for range 100 {
		shared = api.Term{Kind: 9, Kids: []api.Term{shared, shared}}
	}
	texts(t, shared, "?")
	texts(t, api.Term{Kind: api.Var, Kids: shared.Kids}, "_0")
	texts(t, api.Term{Kind: api.Seal, Kids: shared.Kids}, "?")
}
