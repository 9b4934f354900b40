package reader

import (
	"maps"
	"math"
	"math/rand"
	"slices"
	"strconv"
	"strings"
	"testing"

	"torchere/api"
	"torchere/term"
	"torchere/token"
)

// show tells a term so that no two of these tests are told alike: ?0 is a variable, #0 a number, and a@0 a Seal.
func show(t api.Term) string {
	kids := make([]string, len(t.Kids))
	for k, kid := range t.Kids {
		kids[k] = show(kid)
	}
	n := strconv.FormatInt(t.N, 10)
	switch {
	case t.Kind == api.Var && t.S == "" && len(kids) == 0:
		return "?" + n
	case t.Kind == api.Int && t.S == "" && len(kids) == 0:
		return "#" + n
	case t.Kind == api.Fun && t.N == 0 && len(kids) == 0:
		return t.S
	case t.Kind == api.Fun && t.N == 0:
		return t.S + "(" + strings.Join(kids, " ") + ")"
	case t.Kind == api.Seal && t.S == "" && len(kids) == 1:
		return kids[0] + "@" + n
	}
	return "no term"
}

// scan returns the tokens of a text.
func scan(t *testing.T, s string) []api.Token {
	t.Helper()
	l, at, err := token.Scan(s)
	if err != nil {
		t.Fatalf("%.80q: %v at %d", s, err, at)
	}
	return l
}

// texts tells the first tokens.
func texts(l []api.Token) string {
	var all []string
	for _, k := range l[:min(len(l), 40)] {
		if k.Kind == api.TokInt {
			k.S = strconv.FormatInt(k.N, 10)
		}
		all = append(all, k.S)
	}
	return strings.Join(all, " ")
}

// nothing reports whether a term is the zero value.
func nothing(t api.Term) bool {
	return t.Kind == 0 && t.N == 0 && t.S == "" && len(t.Kids) == 0
}

// reads holds Read to a term, for four levels, and to have read all of the text.
func reads(t *testing.T, s, want string) {
	t.Helper()
	l := scan(t, s)
	x, _, next, e := Read(l, 0, 4)
	if e != api.OK || next != len(l) || show(x) != want {
		t.Errorf("%.80q: %s, next %d, %v; want %s", s, show(x), next, e, want)
	}
}

// refused holds Read to an error at an index, and to no other results.
func refused(t *testing.T, l []api.Token, at, levels, place int, want api.Errno) {
	t.Helper()
	x, names, next, e := Read(l, at, levels)
	if e != want || next != place || len(names) != 0 || !nothing(x) {
		t.Errorf("%s from %d on: %.80s %v, %v at %d; want %v at %d", texts(l), at, show(x), names, e, next, want, place)
	}
}

// fails holds Read of a text, for four levels, to an error at an index.
func fails(t *testing.T, s string, place int, want api.Errno) {
	t.Helper()
	t.Run(s[:min(len(s), 40)], func(t *testing.T) {
		refused(t, scan(t, s), 0, 4, place, want)
	})
}

// TestPrimaries: P7.1, each kind of primary.
func TestPrimaries(t *testing.T) {
	for _, c := range [][2]string{
		{"0.", "#0"},
		{"9223372036854775807.", "#9223372036854775807"},
		{"X.", "?0"},
		{"_.", "?0"},
		{"_a.", "?0"},
		{"(a).", "a"},
		{"((X)).", "?0"},
		{"(p :- q).", ":-(p q)"},
		{"f((p :- q)).", "f(:-(p q))"},
		{"[].", "[]"},
		{"[ ].", "[]"},
		{"[a].", ".(a [])"},
		{"[a,1,X].", ".(a .(#1 .(?0 [])))"},
		{"[[],[b]].", ".([] .(.(b []) []))"},
		{"[a|b].", ".(a b)"},
		{"[a,b|X].", ".(a .(b ?0))"},
		{"[a|[b]].", ".(a .(b []))"},
		{"[a|[]].", ".(a [])"},
		{"f(a).", "f(a)"},
		{"f(a,B,3).", "f(a ?0 #3)"},
		{"'F x'(a).", "F x(a)"},
		{"'[]'(a).", "[](a)"},
		{"+(a,b).", "+(a b)"},
		{"mod(a).", "mod(a)"},
		{":-(a,b,c).", ":-(a b c)"},
		{"!(a).", "!(a)"},
		{"-1.", "#-1"},
		{"-0.", "#0"},
		{"\\+ a.", "\\+(a)"},
		{":- a.", ":-(a)"},
		{"- a.", "-(a)"},
		{"a.", "a"},
		{"'A b'.", "A b"},
		{"''.", ""},
		{"'.'.", "."},
		{"!.", "!"},
		{";.", ";"},
		{"is.", "is"},
		{"f(mod,*).", "f(mod *)"},
	} {
		reads(t, c[0], c[1])
	}
}

// TestNumbers: P7.1, 2^63 and the - ahead of a number, which is a sign only if it is bare, and the number Tight.
func TestNumbers(t *testing.T) {
	const big = "9223372036854775808"
	reads(t, "-"+big+".", "#-"+big)
	reads(t, "f(-"+big+",1).", "f(#-"+big+" #1)")
	reads(t, "- 1.", "-(#1)")
	reads(t, "-(1).", "-(#1)")
	reads(t, "- (1).", "-(#1)")
	reads(t, "-(-1).", "-(#-1)")
	reads(t, "1 -1.", "-(#1 #1)")
	reads(t, "1-1.", "-(#1 #1)")
	reads(t, "1 - -1.", "-(#1 #-1)")
	reads(t, "-1 - 1.", "-(#-1 #1)")
	reads(t, "f(-1).", "f(#-1)")
	reads(t, "[-1|-2].", ".(#-1 #-2)")
	reads(t, "- a-1.", "-(-(a) #1)")
	fails(t, big+".", 0, api.ErrRange)
	fails(t, "- "+big+".", 1, api.ErrRange)
	fails(t, "-("+big+").", 2, api.ErrRange)
	fails(t, "1-"+big+".", 2, api.ErrRange)
	fails(t, "f(a,"+big+").", 4, api.ErrRange)
	fails(t, "'-'1.", 1, api.ErrForm)
	fails(t, "'-' 1.", 1, api.ErrForm)
	fails(t, "+1.", 1, api.ErrForm)
	fails(t, "a -1 b.", 3, api.ErrForm)
	end := api.Token{Kind: api.TokEnd, S: "."}
	for _, n := range []int64{-1, -5, math.MinInt64} {
		refused(t, []api.Token{{Kind: api.TokInt, N: n}, end}, 0, 4, 0, api.ErrRange)
	}
}

// TestPrefix: P7.1, a prefix operator that stands alone, ahead of an infix operator, above the priority that is allowed, and ahead of each token that may begin its operand.
func TestPrefix(t *testing.T) {
	for _, c := range [][2]string{
		{"- .", "-"},
		{":- .", ":-"},
		{"f(-).", "f(-)"},
		{"f(-,\\+).", "f(- \\+)"},
		{"[-].", ".(- [])"},
		{"[-|-].", ".(- -)"},
		{"(-).", "-"},
		{"- = a.", "=(- a)"},
		{"a = - .", "=(a -)"},
		{"- - 1.", "-(- #1)"},
		{"- - a.", "-(- a)"},
		{"\\+ - a.", "-(\\+ a)"},
		{":- - a.", "-(:- a)"},
		{"- , a.", ",(- a)"},
		{"- mod 2.", "mod(- #2)"},
		{"f(:-, a).", "f(:- a)"},
		{"\\+ \\+ a.", "\\+(\\+(a))"},
		{"- \\+ .", "-(\\+)"},
		{"- (- a).", "-(-(a))"},
		{"- 1.", "-(#1)"},
		{"- X.", "-(?0)"},
		{"- (a).", "-(a)"},
		{"- [a].", "-(.(a []))"},
		{"- 'b'.", "-(b)"},
		{"- '='.", "-(=)"},
		{"- 'mod' = a.", "=(-(mod) a)"},
		{"- f(a).", "-(f(a))"},
		{"- !.", "-(!)"},
		{":- \\+ a.", ":-(\\+(a))"},
		{":- a, b.", ":-(,(a b))"},
		{"\\+ a = b.", "\\+(=(a b))"},
		{"\\+ a, b.", ",(\\+(a) b)"},
		{"- a - b.", "-(-(a) b)"},
		{"- a * b.", "*(-(a) b)"},
		{"- a@1.", "-(a@1)"},
		{"a - - b.", "-(a -(b))"},
		{"a - - .", "-(a -)"},
		{"a = \\+ .", "=(a \\+)"},
		{"a , :- .", ",(a :-)"},
		{"a * - b.", "*(a -(b))"},
		{"a , \\+ b.", ",(a \\+(b))"},
	} {
		reads(t, c[0], c[1])
	}
	fails(t, "\\+ = .", 2, api.ErrForm)
	fails(t, "'-' a.", 1, api.ErrForm)
	fails(t, "'\\\\+' a.", 1, api.ErrForm)
	fails(t, "f(:- a).", 3, api.ErrForm)
	fails(t, "[:- a].", 2, api.ErrForm)
	fails(t, "[a|:- a].", 4, api.ErrForm)
	fails(t, "a = \\+ b.", 3, api.ErrForm)
	fails(t, "a@ - b.", 3, api.ErrForm)
	fails(t, ":- :- a, b :- c.", 5, api.ErrForm)
	fails(t, "- | .", 1, api.ErrForm)
	fails(t, "- ) .", 1, api.ErrForm)
	fails(t, "- f g.", 2, api.ErrForm)
	fails(t, ":- (:- a) :- b.", 5, api.ErrForm)
}

// TestInfix: P7.1, the operators between two operands, with x and y on each side.
func TestInfix(t *testing.T) {
	for _, c := range [][2]string{
		{"1 - 2 - 3.", "-(-(#1 #2) #3)"},
		{"1 - (2 - 3).", "-(#1 -(#2 #3))"},
		{"1 + 2 - 3 + 4.", "+(-(+(#1 #2) #3) #4)"},
		{"1 + 2 * 3.", "+(#1 *(#2 #3))"},
		{"1 * 2 + 3.", "+(*(#1 #2) #3)"},
		{"(1 + 2) * 3.", "*(+(#1 #2) #3)"},
		{"a // b mod c * d.", "*(mod(//(a b) c) d)"},
		{"a , b , c.", ",(a ,(b c))"},
		{"(a , b) , c.", ",(,(a b) c)"},
		{"a ; b ; c.", ";(a ;(b c))"},
		{"a -> b -> c.", "->(a ->(b c))"},
		{"a -> b ; c -> d.", ";(->(a b) ->(c d))"},
		{"p :- q ; r -> s, t.", ":-(p ;(q ->(r ,(s t))))"},
		{"3 :: p :- q.", ":-(::(#3 p) q)"},
		{"p :- 3 :: q.", ":-(p ::(#3 q))"},
		{"a = (b = c).", "=(a =(b c))"},
		{"(a = b) = c.", "=(=(a b) c)"},
		{"X is Y mod 2.", "is(?0 mod(?1 #2))"},
		{"a \\= b, c \\== d.", ",(\\=(a b) \\==(c d))"},
		{"a =< b, c >= d.", ",(=<(a b) >=(c d))"},
		{"a =:= b ; c =\\= d.", ";(=:=(a b) =\\=(c d))"},
		{"a @< b -> c < d , e > f.", "->(@<(a b) ,(<(c d) >(e f)))"},
		{"a == b.", "==(a b)"},
		{"= = = .", "=(= =)"},
		{"mod mod mod.", "mod(mod mod)"},
		{"f(a = b, c).", "f(=(a b) c)"},
		{"f((a , b), c).", "f(,(a b) c)"},
		{"[a , b].", ".(a .(b []))"},
		{"[(a , b)].", ".(,(a b) [])"},
		{"[a = b , c|d - e].", ".(=(a b) .(c -(d e)))"},
		{"a=b.", "=(a b)"},
		{"a= b.", "=(a b)"},
		{"1 -(2).", "-(#1 #2)"},
		{"1 +(2) * 3.", "+(#1 *(#2 #3))"},
		{"a = -(b).", "=(a -(b))"},
	} {
		reads(t, c[0], c[1])
	}
	for _, c := range []struct {
		s     string
		place int
	}{
		{"a = b = c.", 3},
		{"a :- b :- c.", 3},
		{"a :: b :: c.", 3},
		{"1@1@1.", 3},
		{"a < b > c.", 3},
		{"a '=' b.", 1},
		{"a 'mod' b.", 1},
		{"a foo b.", 1},
		{"a b.", 1},
		{"a \\+ b.", 1},
		{"a = .", 2},
		{"a , .", 2},
		{"a , , b.", 2},
		{", a.", 0},
		{"a | b.", 1},
		{"f(a :- b).", 3},
		{"f(a :: b).", 3},
		{"f(a ; b).", 3},
		{"f(a -> b).", 3},
		{"[a :- b].", 2},
		{"[a|b , c].", 4},
		{"[a|b :- c].", 4},
		{"a 1.", 1},
		{"a X.", 1},
		{"1 2.", 1},
		{"a (b).", 1},
		{"X(a).", 1},
		{"1(a).", 1},
		{"[](a).", 2},
		{"(a)(b).", 3},
	} {
		fails(t, c.s, c.place, api.ErrForm)
	}
}

// TestOddOperators: P7.1, an operator is a bare TokName or the TokPunct , and no other punctuation, whatever else the token says.
func TestOddOperators(t *testing.T) {
	a, end := api.Token{Kind: api.TokName, S: "a"}, api.Token{Kind: api.TokEnd}
	for _, c := range []struct {
		between api.Token
		want    string
	}{
		{api.Token{Kind: api.TokName, S: ","}, ",(a a)"},
		{api.Token{Kind: api.TokPunct, S: ",", Quoted: true, Tight: true, N: 7}, ",(a a)"},
		{api.Token{Kind: api.TokName, S: ",", Quoted: true}, ""},
		{api.Token{Kind: api.TokPunct, S: "="}, ""},
		{api.Token{Kind: api.TokPunct, S: ""}, ""},
		{api.Token{Kind: api.TokVar, S: "="}, ""},
		{api.Token{Kind: api.TokInt, S: "="}, ""},
		{api.Token{Kind: api.TokEnd, S: "="}, ""},
		{api.Token{Kind: 0, S: ","}, ""},
		{api.Token{Kind: 6, S: "="}, ""},
	} {
		l := []api.Token{a, c.between, a, end}
		if c.between.Kind == api.TokEnd {
			x, _, next, e := Read(l, 0, 4)
			if show(x) != "a" || next != 2 || e != api.OK {
				t.Error(l, show(x), next, e)
			}
			continue
		}
		if c.want == "" {
			refused(t, l, 0, 4, 1, api.ErrForm)
			continue
		}
		if x, _, next, e := Read(l, 0, 4); show(x) != c.want || next != 4 || e != api.OK {
			t.Error(l, show(x), next, e)
		}
	}
}

// TestNames: P7.1, the numbers and the names of variables.
func TestNames(t *testing.T) {
	for _, c := range []struct {
		s, want string
		names   []string
	}{
		{"a.", "a", nil},
		{"X.", "?0", []string{"X"}},
		{"f(X,Y,X).", "f(?0 ?1 ?0)", []string{"X", "Y"}},
		{"f(Y,X,Y,Z).", "f(?0 ?1 ?0 ?2)", []string{"Y", "X", "Z"}},
		{"f(_,_).", "f(?0 ?1)", []string{"_", "_"}},
		{"f(_,X,_,X,Y).", "f(?0 ?1 ?2 ?1 ?3)", []string{"_", "X", "_", "Y"}},
		{"f(_a,_,_a,__,__).", "f(?0 ?1 ?0 ?2 ?2)", []string{"_a", "_", "__"}},
		{"[X|Y] = f(Y).", "=(.(?0 ?1) f(?1))", []string{"X", "Y"}},
		{"p(X) :- q(Y), r(X).", ":-(p(?0) ,(q(?1) r(?0)))", []string{"X", "Y"}},
	} {
		l := scan(t, c.s)
		x, names, next, e := Read(l, 0, 1)
		if e != api.OK || next != len(l) || show(x) != c.want || !slices.Equal(names, c.names) {
			t.Error(c.s, show(x), names, next, e)
		}
	}
	l := scan(t, "f(X,Y). g(Y,_).")
	x, names, next, e := Read(l, 7, 1)
	if show(x) != "g(?0 ?1)" || !slices.Equal(names, []string{"Y", "_"}) || next != len(l) || e != api.OK {
		t.Error(show(x), names, next, e)
	}
	odd := []api.Token{{Kind: api.TokName, S: "f"}, {Kind: api.TokPunct, S: "(", Tight: true}, {Kind: api.TokVar}, {Kind: api.TokPunct, S: ","}, {Kind: api.TokVar, S: "a"}, {Kind: api.TokPunct, S: ","}, {Kind: api.TokVar}, {Kind: api.TokPunct, S: ")"}, {Kind: api.TokEnd}}
	x, names, _, e = Read(odd, 0, 1)
	if show(x) != "f(?0 ?1 ?0)" || !slices.Equal(names, []string{"", "a"}) || e != api.OK {
		t.Error(show(x), names, e)
	}
}

// TestSeals: P7.1, a Fun @ with two Kids becomes a Seal, or is an error at the token after it.
func TestSeals(t *testing.T) {
	for _, c := range [][2]string{
		{"a@2.", "a@2"},
		{"a@0.", "a@0"},
		{"a@3.", "a@3"},
		{"f(a@2).", "f(a@2)"},
		{"f(a)@1.", "f(a)@1"},
		{"'@'(a,1).", "a@1"},
		{"@(a,1).", "a@1"},
		{"@((a:-b),(1)).", ":-(a b)@1"},
		{"(a@1)@2.", "a@1@2"},
		{"a@(1).", "a@1"},
		{"1@1.", "#1@1"},
		{"-1@1.", "#-1@1"},
		{"- 1@1.", "-(#1@1)"},
		{"[a]@1.", ".(a [])@1"},
		{"[a@1|b@2].", ".(a@1 b@2)"},
		{"a@1 + b@2 * c@3.", "+(a@1 *(b@2 c@3))"},
		{"f(X) :- a@1.", ":-(f(?0) a@1)"},
		{"@ .", "@"},
		{"@(a).", "@(a)"},
		{"@(a,X,1).", "@(a ?0 #1)"},
		{"f(@,a).", "f(@ a)"},
	} {
		reads(t, c[0], c[1])
	}
	for _, c := range []struct {
		s     string
		place int
	}{
		{"a@4.", 3},
		{"a@ -1.", 4},
		{"a@b.", 3},
		{"a@(b).", 5},
		{"a@X.", 3},
		{"a@f(1).", 6},
		{"a@[].", 4},
		{"a@(1@1).", 7},
		{"X@1.", 3},
		{"_@1.", 3},
		{"f(g(a),[X])@1.", 13},
		{"f(a,X)@1 = b.", 8},
		{"f(X@1,b).", 5},
		{"g(X@9,(1 = .", 5},
		{"@(a,4).", 6},
		{"'@'(X,1).", 6},
		{"@(1,a) b.", 6},
		{"f(a, '@'(b, c), X@1).", 10},
		{"a@9223372036854775807.", 3},
		{"a@ -9223372036854775808.", 4},
		{"X@1", 3},
	} {
		fails(t, c.s, c.place, api.ErrForm)
	}
	fails(t, "a@9223372036854775808.", 2, api.ErrRange)
}

// TestLevels: P7.1, which levels there are, for any number of them.
func TestLevels(t *testing.T) {
	for _, levels := range []int{math.MinInt, -1, 0, 1, 2, 16, 17, math.MaxInt} {
		for _, n := range []int64{0, 1, 2, 15, 16, 17, math.MaxInt64 - 1, math.MaxInt64} {
			l := scan(t, "f(X,a@"+strconv.FormatInt(n, 10)+").")
			if n >= int64(levels) {
				refused(t, l, 0, levels, 7, api.ErrForm)
				continue
			}
			x, names, next, e := Read(l, 0, levels)
			if show(x) != "f(?0 a@"+strconv.FormatInt(n, 10)+")" || len(names) != 1 || next != len(l) || e != api.OK {
				t.Error(levels, n, show(x), names, next, e)
			}
		}
		if x, names, next, e := Read(scan(t, "f(X,1)."), 0, levels); show(x) != "f(?0 #1)" || len(names) != 1 || next != 7 || e != api.OK {
			t.Error(levels, show(x), names, next, e)
		}
		if all, at, e := All("a. f(X).", levels); len(all) != 2 || at != 0 || e != api.OK {
			t.Error(levels, all, at, e)
		}
	}
}

// TestAt: P7.1, where a sentence may begin, and where the next one does.
func TestAt(t *testing.T) {
	l := scan(t, "a. f(X). 1 + 2.")
	for _, at := range []int{math.MinInt, -1, len(l) + 1, len(l) + 2, math.MaxInt} {
		refused(t, l, at, 4, 0, api.ErrArg)
		refused(t, nil, at, 4, 0, api.ErrArg)
	}
	refused(t, nil, 1, 4, 0, api.ErrArg)
	refused(t, l, len(l), 4, len(l), api.ErrForm)
	refused(t, nil, 0, 4, 0, api.ErrForm)
	refused(t, []api.Token{}, 0, 4, 0, api.ErrForm)
	for _, c := range []struct {
		at   int
		want string
		next int
	}{{0, "a", 2}, {2, "f(?0)", 7}, {4, "", 5}, {7, "+(#1 #2)", 11}, {9, "#2", 11}, {8, "", 9}, {1, "", 1}, {10, "", 10}} {
		x, _, next, e := Read(l, c.at, 4)
		if (e != api.OK) != (c.want == "") || next != c.next || c.want != "" && show(x) != c.want {
			t.Error(c.at, show(x), next, e)
		}
	}
}

// TestMissing: P7.1, an end that is missing, brackets that don't close, and what can't begin a term.
func TestMissing(t *testing.T) {
	for _, c := range []struct {
		s     string
		place int
	}{
		{"a", 1},
		{"f(a)", 4},
		{"a = b", 3},
		{"-1", 2},
		{"(a.", 2},
		{"(a", 2},
		{"(", 1},
		{"(.", 1},
		{"()", 1},
		{"().", 1},
		{"f(.", 2},
		{"f(", 2},
		{"f().", 2},
		{"f(a.", 3},
		{"f(a", 3},
		{"f(a,.", 4},
		{"f(a,).", 4},
		{"f(,a).", 2},
		{"f(a].", 3},
		{"f(a|b).", 3},
		{"[.", 1},
		{"[", 1},
		{"[a.", 2},
		{"[a", 2},
		{"[a).", 2},
		{"[a,.", 3},
		{"[a,].", 3},
		{"[,a].", 1},
		{"[|a].", 1},
		{"[a|.", 3},
		{"[a|].", 3},
		{"[a|b", 4},
		{"[a|b.", 4},
		{"[a|b|c].", 4},
		{"[a|b,c].", 4},
		{"(a].", 2},
		{"(a,b.", 4},
		{"a).", 1},
		{"a].", 1},
		{").", 0},
		{"].", 0},
		{"|.", 0},
		{",.", 0},
		{". a.", 0},
		{"- (.", 2},
		{"a = (b.", 4},
	} {
		fails(t, c.s, c.place, api.ErrForm)
	}
}

// TestWrongTokens: P7.1, tokens that no text has.
func TestWrongTokens(t *testing.T) {
	end := api.Token{Kind: api.TokEnd}
	for _, kind := range []int{math.MinInt, -1, 0, 6, math.MaxInt} {
		for _, s := range []string{"", "a", "(", ".", "X"} {
			wrong := api.Token{Kind: kind, S: s}
			refused(t, []api.Token{wrong, end}, 0, 4, 0, api.ErrForm)
			refused(t, []api.Token{{Kind: api.TokName, S: "a"}, wrong, end}, 0, 4, 1, api.ErrForm)
			refused(t, []api.Token{{Kind: api.TokName, S: "-"}, wrong, end}, 0, 4, 1, api.ErrForm)
			refused(t, []api.Token{{Kind: api.TokName, S: "f"}, {Kind: api.TokPunct, S: "(", Tight: true}, wrong}, 0, 4, 2, api.ErrForm)
		}
	}
	for _, s := range []string{"", ".", "((", "{", "a", "=", "X"} {
		refused(t, []api.Token{{Kind: api.TokPunct, S: s}, end}, 0, 4, 0, api.ErrForm)
		refused(t, []api.Token{{Kind: api.TokName, S: "-"}, {Kind: api.TokPunct, S: s}, end}, 0, 4, 1, api.ErrForm)
	}
	for _, l := range [][]api.Token{
		{{Kind: api.TokName, S: "f"}, {Kind: api.TokName, S: "(", Tight: true}, {Kind: api.TokName, S: "a"}, end},
		{{Kind: api.TokName, S: "f"}, {Kind: api.TokPunct, S: "(", Quoted: true}, {Kind: api.TokName, S: "a"}, {Kind: api.TokPunct, S: ")"}, end},
		{{Kind: api.TokName, S: "f"}, {Kind: api.TokPunct, S: "[", Tight: true}, {Kind: api.TokPunct, S: "]"}, end},
	} {
		refused(t, l, 0, 4, 1, api.ErrForm)
	}
	x, _, next, e := Read([]api.Token{{Kind: api.TokEnd, S: "x"}, {Kind: api.TokInt, N: 3, S: "y", Quoted: true, Tight: true}, {Kind: api.TokEnd, S: "", N: 9}}, 1, 4)
	if show(x) != "#3" || next != 3 || e != api.OK {
		t.Error(show(x), next, e)
	}
}

// nested is a text that nests by opening so many times.
func nested(open string, many int, inner, shut string) string {
	return strings.Repeat(open, many) + inner + strings.Repeat(shut, many)
}

// TestDeep: P7.1, 60 and 61 terms and primaries, one within another, and ErrDeep ahead of the token's own error.
func TestDeep(t *testing.T) {
	const big = "9223372036854775808"
	for _, c := range []struct {
		open, shut  string
		size, inner int // how many tokens open, and which of them begins the first term within
		wrong       []string
	}{
		{"(", ")", 1, 1, []string{"", ")", "]", "|", ",", big}},
		{"f(", ")", 2, 2, []string{"", ")", "]", "|", ",", big}},
		{"[", "]", 1, 1, []string{")", "|", ",", big}},
		{"[a|", "]", 3, 1, []string{"", ")", "]", "|", ",", big}},
		{"f(a,", ")", 4, 2, []string{"", ")", "]", "|", ",", big}},
		{"\\+ ", "", 1, 1, []string{big}},
	} {
		good := scan(t, nested(c.open, 29, "a", c.shut)+".")
		if _, _, next, e := Read(good, 0, 4); next != len(good) || e != api.OK {
			t.Error(c.open, next, e)
		}
		place := 29*c.size + c.inner
		for _, inner := range append(c.wrong, "a", "1", "X") {
			fails(t, nested(c.open, 30, inner, c.shut)+".", place, api.ErrDeep)
			fails(t, nested(c.open, 40, inner, c.shut)+".", place, api.ErrDeep)
		}
		fails(t, nested(c.open, 29, big, c.shut)+".", 29*c.size, api.ErrRange)
		fails(t, nested(c.open, 29, "|", c.shut)+".", 29*c.size, api.ErrForm)
		refused(t, scan(t, strings.Repeat(c.open, 29)), 0, 4, 29*c.size, api.ErrForm)
		refused(t, scan(t, strings.Repeat(c.open, 31)), 0, 4, place, api.ErrDeep)
	}
	refused(t, scan(t, strings.Repeat("(", 30)), 0, 4, 30, api.ErrDeep)
	fails(t, nested("- (", 15, "a", ")")+".", 30, api.ErrDeep)
	good := scan(t, nested("- (", 14, "(a)", ")")+".")
	if _, _, next, e := Read(good, 0, 4); next != len(good) || e != api.OK {
		t.Error(next, e)
	}
}

// TestDeepOperands: P7.1, an operand is a term within a term, but what stands ahead of the operator is complete by then. A primary can be the 61st too.
func TestDeepOperands(t *testing.T) {
	for _, op := range []string{",", ";", "->"} {
		open := "a " + op + " "
		good := scan(t, nested(open, 58, "a", "")+".")
		if _, _, next, e := Read(good, 0, 4); next != len(good) || e != api.OK {
			t.Error(op, next, e)
		}
		for _, inner := range []string{"a", "9223372036854775808", ")", ""} {
			fails(t, nested(open, 59, inner, "")+".", 118, api.ErrDeep)
		}
		fails(t, nested(open, 58, ")", "")+".", 116, api.ErrForm)
		fails(t, nested(open, 58, "(", "")+".", 117, api.ErrDeep)
		refused(t, scan(t, strings.Repeat(open, 59)), 0, 4, 118, api.ErrDeep)
		refused(t, scan(t, strings.Repeat(open, 60)), 0, 4, 118, api.ErrDeep)
		refused(t, scan(t, strings.Repeat(open, 58)), 0, 4, 116, api.ErrForm)
	}
	fails(t, nested("(", 28, "a = b", ")")+", ( c.", 62, api.ErrForm)
	good := scan(t, nested("(", 29, "a", ")")+" = "+nested("(", 28, "a", ")")+".")
	if x, _, next, e := Read(good, 0, 4); show(x) != "=(a a)" || next != len(good) || e != api.OK {
		t.Error(show(x), next, e)
	}
	fails(t, "a = "+nested("(", 29, "a", ")")+".", 2+29, api.ErrDeep)
}

// TestBeside: P7.1, terms that are read one beside another are not within one another.
func TestBeside(t *testing.T) {
	eight := strings.Repeat("a,", 7) + "a"
	wide := "f(" + strings.Repeat("g("+eight+"),", 7) + "g(" + eight + "))"
	l := scan(t, wide+".")
	if x, _, next, e := Read(l, 0, 4); term.Size(x) != 1+8*9 || next != len(l) || e != api.OK {
		t.Error(show(x), next, e)
	}
	if all, _, e := All(strings.Repeat("(f([a,\\+ b])). ", 100), 4); len(all) != 100 || e != api.OK {
		t.Error(len(all), e)
	}
}

// TestCheck: P7.1, the error of term.Check is returned last, with the index after the end.
func TestCheck(t *testing.T) {
	list := func(many int) string { return "[" + strings.Repeat("a,", many-1) + "a]" }
	sum := func(many int) string { return strings.Repeat("1-", many-1) + "1" }
	for _, c := range []struct {
		s    string
		want api.Errno
	}{
		{list(59), api.OK},
		{list(60), api.ErrDeep},
		{list(499), api.ErrDeep},
		{list(500), api.ErrFull},
		{sum(60), api.OK},
		{sum(61), api.ErrDeep},
		{sum(501), api.ErrFull},
		{"f(1,2,3,4,5,6,7,8)", api.OK},
		{"f(1,2,3,4,5,6,7,8,9)", api.ErrForm},
		{"g(f(1,2,3,4,5,6,7,8,9)," + list(60) + ")", api.ErrDeep},
		{"f(" + strings.Repeat("a,", 998) + "a)", api.ErrForm},
		{"f(" + strings.Repeat("a,", 999) + "a)", api.ErrFull},
		{"(" + sum(61) + ")@1", api.ErrDeep},
	} {
		l := scan(t, c.s+". a.")
		if c.want != api.OK {
			refused(t, l, 0, 4, len(l)-2, c.want)
			refused(t, l[:len(l)-3], 0, 4, len(l)-3, api.ErrForm)
			continue
		}
		if _, _, next, e := Read(l, 0, 4); next != len(l)-2 || e != api.OK {
			t.Errorf("%.40s: %d %v", c.s, next, e)
		}
	}
	end := api.Token{Kind: api.TokEnd}
	for _, size := range []int{64, 65} {
		for _, quoted := range []bool{false, true} {
			l := []api.Token{{Kind: api.TokName, S: strings.Repeat("a", size), Quoted: quoted}, end}
			if _, _, next, e := Read(l, 0, 4); next != 2 || (e == api.OK) != (size == 64) {
				t.Error(size, quoted, next, e)
			}
		}
	}
	refused(t, []api.Token{{Kind: api.TokName, S: strings.Repeat("a", 65)}, end}, 0, 4, 2, api.ErrForm)
	x, names, _, e := Read([]api.Token{{Kind: api.TokVar, S: strings.Repeat("A", 65)}, end}, 0, 4)
	if show(x) != "?0" || len(names) != 1 || len(names[0]) != 65 || e != api.OK {
		t.Error(show(x), names, e)
	}
}

// TestAll: P7.2.
func TestAll(t *testing.T) {
	for _, c := range []struct {
		s    string
		want []string
	}{
		{"", nil},
		{" \n% nothing\n", nil},
		{"a.", []string{"a"}},
		{"a. b. c.", []string{"a", "b", "c"}},
		{"p(X,Y).\nq(Y,X) :- p(X,Y). % back\n- 1 .", []string{"p(?0 ?1)", ":-(q(?0 ?1) p(?1 ?0))", "-(#1)"}},
		{"p(a)@1. 3 :: q.", []string{"p(a)@1", "::(#3 q)"}},
	} {
		all, at, e := All(c.s, 4)
		var shown []string
		for _, x := range all {
			shown = append(shown, show(x))
		}
		if !slices.Equal(shown, c.want) || at != 0 || e != api.OK {
			t.Error(c.s, shown, at, e)
		}
	}
	for _, c := range []struct {
		s    string
		at   int
		want api.Errno
	}{
		{"a", 1, api.ErrForm},
		{"a. b", 3, api.ErrForm},
		{"a. b. f(a b). c.", 7, api.ErrForm},
		{"a. 9223372036854775808. c.", 2, api.ErrRange},
		{"a. f(1,2,3,4,5,6,7,8,9). c.", 2 + 21, api.ErrForm},
		{"a. X@1. ) .", 5, api.ErrForm},
		{"a. b@4.", 5, api.ErrForm},
		{"a. " + strings.Repeat("(", 40), 2 + 30, api.ErrDeep},
		{". a.", 0, api.ErrForm},
		{"a. . b.", 2, api.ErrForm},
		{"a. {", 3, api.ErrForm},
		{"f(. {", 4, api.ErrForm},
		{"a. 'b", 3, api.ErrForm},
		{"a. 1.5.", 3, api.ErrForm},
		{"a.   9223372036854775809.", 5, api.ErrRange},
		{") " + strings.Repeat("a", 65) + ".", 2, api.ErrFull},
		{strings.Repeat("a", 65) + ". )", 0, api.ErrFull},
		{strings.Repeat(" ", 4096) + "a", 0, api.ErrFull},
	} {
		if all, at, e := All(c.s, 4); len(all) != 0 || at != c.at || e != c.want {
			t.Errorf("%.40q: %v at %d, %v; want %v at %d", c.s, all, at, e, c.want, c.at)
		}
	}
	long := strings.Repeat("a.\n", 1365)
	if all, at, e := All(long+" ", 4); len(all) != 1365 || at != 0 || e != api.OK {
		t.Error(len(all), at, e)
	}
}

// A second way to read, to hold Read against: it has operators of its own, carries its errors in its answers, and numbers the variables ahead of reading.
var (
	infixes = map[string][3]int{
		":-": {1199, 1200, 1199}, "::": {1149, 1150, 1149}, ";": {1099, 1100, 1100}, "->": {1049, 1050, 1050}, ",": {999, 1000, 1000},
		"=": {699, 700, 699}, "\\=": {699, 700, 699}, "==": {699, 700, 699}, "\\==": {699, 700, 699}, "@<": {699, 700, 699}, "is": {699, 700, 699},
		"=:=": {699, 700, 699}, "=\\=": {699, 700, 699}, "<": {699, 700, 699}, ">": {699, 700, 699}, "=<": {699, 700, 699}, ">=": {699, 700, 699},
		"+": {500, 500, 499}, "-": {500, 500, 499}, "*": {400, 400, 399}, "//": {400, 400, 399}, "mod": {400, 400, 399}, "@": {189, 190, 189},
	}
	prefixes = map[string][2]int{":-": {1200, 1199}, "\\+": {900, 900}, "-": {200, 200}}
)

// input is what is read, with a number for each variable.
type input struct {
	l       []api.Token
	numbers []int
	levels  int
}

// result is what was read, its priority, and where it ends, or an error and where it is.
type result struct {
	t    api.Term
	pri  int
	next int
	e    api.Errno
}

// wrong is the result of an error.
func wrong(e api.Errno, at int) result {
	return result{next: at, e: e}
}

// is reports whether at that index is a token of that kind and text.
func (in input) is(at, kind int, s string) bool {
	return at < len(in.l) && in.l[at].Kind == kind && in.l[at].S == s
}

// wantTerm is a term of at most most, with so many terms and primaries around it.
func wantTerm(in input, at, most, around int) result {
	if around == 60 {
		return wrong(api.ErrDeep, at)
	}
	left := wantPrimary(in, at, most, around+1)
	for left.e == api.OK && left.next < len(in.l) {
		k := in.l[left.next]
		op, known := infixes[k.S]
		usable := k.Kind == api.TokName && !k.Quoted || k.Kind == api.TokPunct && k.S == ","
		if !known || !usable || op[1] > most || left.pri > op[0] {
			return left
		}
		right := wantTerm(in, left.next+1, op[2], around+1)
		if right.e != api.OK {
			return right
		}
		left = wantFun(in, k.S, []api.Term{left.t, right.t}, op[1], right.next)
	}
	return left
}

// wantFun is a Fun, or a Seal.
func wantFun(in input, name string, kids []api.Term, pri, next int) result {
	if name == "@" && len(kids) == 2 {
		if kids[1].Kind != api.Int || kids[1].N < 0 || kids[1].N > int64(in.levels)-1 || strings.Contains(show(kids[0]), "?") {
			return wrong(api.ErrForm, next)
		}
		return result{api.Term{Kind: api.Seal, N: kids[1].N, Kids: kids[:1]}, pri, next, api.OK}
	}
	return result{api.Term{Kind: api.Fun, S: name, Kids: kids}, pri, next, api.OK}
}

// wantPrimary is a primary of at most most.
func wantPrimary(in input, at, most, around int) result {
	switch {
	case around == 60:
		return wrong(api.ErrDeep, at)
	case at >= len(in.l):
		return wrong(api.ErrForm, at)
	}
	k := in.l[at]
	switch {
	case k.Kind == api.TokInt && k.N < 0:
		return wrong(api.ErrRange, at)
	case k.Kind == api.TokInt:
		return result{term.Num(k.N), 0, at + 1, api.OK}
	case k.Kind == api.TokVar:
		return result{term.Let(in.numbers[at]), 0, at + 1, api.OK}
	case k.Kind == api.TokName:
		return wantNamed(in, at, most, around)
	case in.is(at, api.TokPunct, "("):
		inner := wantTerm(in, at+1, 1200, around+1)
		if inner.e == api.OK && !in.is(inner.next, api.TokPunct, ")") {
			return wrong(api.ErrForm, inner.next)
		}
		if inner.e == api.OK {
			inner.pri, inner.next = 0, inner.next+1
		}
		return inner
	case in.is(at, api.TokPunct, "[") && in.is(at+1, api.TokPunct, "]"):
		return result{term.Atom("[]"), 0, at + 2, api.OK}
	case in.is(at, api.TokPunct, "["):
		return wantList(in, at+1, around)
	}
	return wrong(api.ErrForm, at)
}

// wantList is the list whose first element, or whose rest's first element, is at that index.
func wantList(in input, at, around int) result {
	first := wantTerm(in, at, 999, around+1)
	if first.e != api.OK {
		return first
	}
	rest := result{term.Atom("[]"), 0, first.next, api.OK}
	switch {
	case in.is(first.next, api.TokPunct, ","):
		rest = wantList(in, first.next+1, around)
		if rest.e == api.OK {
			return wantFun(in, ".", []api.Term{first.t, rest.t}, 0, rest.next)
		}
	case in.is(first.next, api.TokPunct, "|"):
		rest = wantTerm(in, first.next+1, 999, around+1)
	}
	if rest.e != api.OK {
		return rest
	}
	if !in.is(rest.next, api.TokPunct, "]") {
		return wrong(api.ErrForm, rest.next)
	}
	return wantFun(in, ".", []api.Term{first.t, rest.t}, 0, rest.next+1)
}

// wantNamed is what begins with a name.
func wantNamed(in input, at, most, around int) result {
	k := in.l[at]
	var follows api.Token
	if at+1 < len(in.l) {
		follows = in.l[at+1]
	}
	if in.is(at+1, api.TokPunct, "(") && follows.Tight {
		return wantCall(in, at, around)
	}
	if k.S == "-" && !k.Quoted && follows.Kind == api.TokInt && follows.Tight {
		return result{term.Num(-follows.N), 0, at + 2, api.OK}
	}
	op, known := prefixes[k.S]
	_, between := infixes[follows.S]
	begins := follows.Kind == api.TokInt || follows.Kind == api.TokVar || in.is(at+1, api.TokPunct, "(") || in.is(at+1, api.TokPunct, "[") || follows.Kind == api.TokName && (follows.Quoted || !between)
	if known && !k.Quoted && op[0] <= most && begins {
		kid := wantTerm(in, at+1, op[1], around+1)
		if kid.e != api.OK {
			return kid
		}
		return wantFun(in, k.S, []api.Term{kid.t}, op[0], kid.next)
	}
	return result{term.Atom(k.S), 0, at + 1, api.OK}
}

// wantCall is a name with its arguments.
func wantCall(in input, at, around int) result {
	var kids []api.Term
	for next := at + 2; ; {
		kid := wantTerm(in, next, 999, around+1)
		if kid.e != api.OK {
			return kid
		}
		kids = append(kids, kid.t)
		switch {
		case in.is(kid.next, api.TokPunct, ")"):
			return wantFun(in, in.l[at].S, kids, 0, kid.next+1)
		case !in.is(kid.next, api.TokPunct, ","):
			return wrong(api.ErrForm, kid.next)
		}
		next = kid.next + 1
	}
}

// wantRead is what Read returns.
func wantRead(l []api.Token, at, levels int) (api.Term, []string, int, api.Errno) {
	in := input{l, make([]int, len(l)), levels}
	var names []string
	for k := at; k < len(l); k++ {
		if l[k].Kind != api.TokVar {
			continue
		}
		in.numbers[k] = slices.Index(names, l[k].S)
		if l[k].S == "_" || in.numbers[k] < 0 {
			in.numbers[k] = len(names)
			names = append(names, l[k].S)
		}
	}
	r := wantTerm(in, at, 1200, 0)
	if r.e == api.OK && (r.next >= len(l) || l[r.next].Kind != api.TokEnd) {
		r = wrong(api.ErrForm, r.next)
	}
	if r.e != api.OK {
		return api.Term{}, nil, r.next, r.e
	}
	if e := term.Check(r.t, levels); e != api.OK {
		return api.Term{}, nil, r.next + 1, e
	}
	return r.t, names[:countNames(l[at:r.next])], r.next + 1, api.OK
}

// countNames is how many variables these tokens have.
func countNames(l []api.Token) int {
	seen := map[string]int{}
	many := 0
	for _, k := range l {
		if k.Kind == api.TokVar && (k.S == "_" || seen[k.S] == 0) {
			many++
			seen[k.S] = many
		}
	}
	return many
}

// anyToken is a token at random.
func anyToken(r *rand.Rand) api.Token {
	tight := r.Intn(2) == 0
	pick := func(all ...string) string { return all[r.Intn(len(all))] }
	switch r.Intn(12) {
	case 0, 1:
		return api.Token{Kind: api.TokName, S: pick("a", "b", "f", "!"), Tight: tight}
	case 2:
		return api.Token{Kind: api.TokName, S: pick("-", "=", "@", "\\+", "a", ":-", ",", "("), Quoted: true, Tight: tight}
	case 3, 4:
		return api.Token{Kind: api.TokName, S: pick(":-", "::", ";", "->", "=", "\\=", "==", "\\==", "@<", "is", "=:=", "=\\=", "<", ">", "=<", ">=", "+", "-", "*", "//", "mod", "@", "@", "@"), Tight: tight}
	case 5:
		return api.Token{Kind: api.TokName, S: pick(":-", "\\+", "-", "-"), Tight: tight}
	case 6:
		return api.Token{Kind: api.TokVar, S: pick("X", "Y", "_", "_"), Tight: tight}
	case 7, 8:
		return api.Token{Kind: api.TokInt, N: []int64{0, 1, 2, 3, 4, math.MaxInt64, math.MinInt64}[r.Intn(7)], Tight: tight}
	case 9:
		return api.Token{Kind: api.TokEnd, S: ".", Tight: tight}
	}
	return api.Token{Kind: api.TokPunct, S: pick("(", "(", ")", ")", "[", "]", "]", ",", ",", "|"), Tight: tight}
}

// sameRead holds Read to the second way, and returns the error.
func sameRead(t *testing.T, l []api.Token, at, levels int) api.Errno {
	t.Helper()
	x, names, next, e := Read(l, at, levels)
	wantX, wantNames, wantNext, wantE := wantRead(l, at, levels)
	if !term.Same(x, wantX) || !slices.Equal(names, wantNames) || next != wantNext || e != wantE {
		t.Fatalf("%v from %d on, %d levels: %s %v %d %v; want %s %v %d %v", l, at, levels, show(x), names, next, e, show(wantX), wantNames, wantNext, wantE)
	}
	return e
}

// TestAnyTokens: P7.1, tokens at random.
func TestAnyTokens(t *testing.T) {
	r := rand.New(rand.NewSource(7))
	many := map[api.Errno]int{}
	for range 300000 {
		l := make([]api.Token, r.Intn(12))
		for k := range l {
			l[k] = anyToken(r)
		}
		if r.Intn(4) > 0 {
			l = append(l, api.Token{Kind: api.TokEnd})
		}
		many[sameRead(t, l, r.Intn(len(l)+1), r.Intn(6)-1)]++
	}
	for _, e := range []api.Errno{api.OK, api.ErrForm, api.ErrRange} {
		if many[e] < 1000 {
			t.Error(e, many[e])
		}
	}
}

// sentence is tokens that are a term of at most most, by a random way through the document's words, with that many chances left to nest.
func sentence(r *rand.Rand, most, chances int) []api.Token {
	name := func(s string) api.Token { return api.Token{Kind: api.TokName, S: s, Tight: r.Intn(2) == 0} }
	punct := func(s string) api.Token { return api.Token{Kind: api.TokPunct, S: s} }
	if chances <= 0 {
		switch r.Intn(4) {
		case 0:
			return []api.Token{{Kind: api.TokInt, N: int64(r.Intn(4))}}
		case 1:
			return []api.Token{{Kind: api.TokVar, S: []string{"X", "Y", "_"}[r.Intn(3)]}}
		}
		return []api.Token{name([]string{"a", "b", "[]"}[r.Intn(3)])}
	}
	chances--
	switch r.Intn(7) {
	case 0:
		return slices.Concat([]api.Token{punct("(")}, sentence(r, 1200, chances), []api.Token{punct(")")})
	case 1:
		open := api.Token{Kind: api.TokPunct, S: "(", Tight: true}
		return slices.Concat([]api.Token{name("f"), open}, sentence(r, 999, chances), []api.Token{punct(",")}, sentence(r, 999, chances-2), []api.Token{punct(")")})
	case 2:
		return slices.Concat([]api.Token{punct("[")}, sentence(r, 999, chances), []api.Token{punct([]string{",", "|"}[r.Intn(2)])}, sentence(r, 999, chances-2), []api.Token{punct("]")})
	case 3:
		for _, s := range slices.Sorted(maps.Keys(prefixes)) {
			op := prefixes[s]
			if op[0] <= most && r.Intn(2) == 0 {
				return slices.Concat([]api.Token{name(s)}, sentence(r, op[1], chances))
			}
		}
	case 4:
		return slices.Concat([]api.Token{punct("(")}, sentence(r, 0, chances), []api.Token{punct(")"), name("@"), {Kind: api.TokInt, N: int64(r.Intn(4))}})
	}
	for _, k := range r.Perm(len(infixes)) {
		s := slices.Sorted(maps.Keys(infixes))[k]
		op := infixes[s]
		if op[1] > most || s == "@" {
			continue
		}
		between := name(s)
		if s == "," {
			between = punct(",")
		}
		return slices.Concat(sentence(r, op[0], chances), []api.Token{between}, sentence(r, op[2], chances-1))
	}
	return sentence(r, most, 0)
}

// TestSentences: P7.1, tokens that are a sentence, or nearly: cut off, and with one of them changed.
func TestSentences(t *testing.T) {
	r := rand.New(rand.NewSource(8))
	many := map[api.Errno]int{}
	for k := range 20000 {
		l := append(sentence(r, 1200, k%5), api.Token{Kind: api.TokEnd})
		many[sameRead(t, l, 0, 4)]++
		many[sameRead(t, l[:r.Intn(len(l))], 0, 4)]++
		l[r.Intn(len(l))] = anyToken(r)
		many[sameRead(t, l, 0, 4)]++
	}
	for _, e := range []api.Errno{api.OK, api.ErrForm, api.ErrRange} {
		if many[e] < 100 {
			t.Error(e, many[e])
		}
	}
}

// TestAnyDeep: P7.1, openings of several kinds, one within another, at random.
func TestAnyDeep(t *testing.T) {
	r := rand.New(rand.NewSource(10))
	openings := [][2]string{{"(", ")"}, {"f(", ")"}, {"[", "]"}, {"- (", ")"}, {"f(a,", ")"}, {"[a|", "]"}, {"(a,", ")"}, {"(a = ", ")"}, {"(b -> c ; ", ")"}, {"(\\+ ", ")"}, {"(", "@1)"}, {"f(X,", ")"}}
	many := map[api.Errno]int{}
	for range 5000 {
		open, shut := "", ""
		for range 10 + r.Intn(25) {
			c := openings[r.Intn(len(openings))]
			open, shut = open+c[0], c[1]+shut
		}
		l := scan(t, open+[]string{"a", "1", "[]", "X"}[r.Intn(4)]+shut+".")
		many[sameRead(t, l, 0, 4)]++
		l[r.Intn(len(l))] = anyToken(r)
		many[sameRead(t, l, 0, 4)]++
	}
	for _, e := range []api.Errno{api.OK, api.ErrForm, api.ErrDeep} {
		if many[e] < 100 {
			t.Error(e, many[e])
		}
	}
}

// written is a term as text, in parentheses wherever they may be needed and sometimes where not, and with blanks between all tokens, or few.
func written(r *rand.Rand, t api.Term, blank func() string) string {
	var kids []string
	for _, kid := range t.Kids {
		s := written(r, kid, blank)
		for range r.Intn(3) {
			s = "(" + blank() + s + blank() + ")"
		}
		kids = append(kids, s)
	}
	_, between := infixes[t.S]
	switch {
	case t.Kind == api.Var:
		return "V" + strconv.FormatInt(t.N, 10)
	case t.Kind == api.Int:
		return strconv.FormatInt(t.N, 10)
	case t.Kind == api.Seal:
		return "(" + kids[0] + ")" + blank() + "@" + blank() + strconv.FormatInt(t.N, 10)
	case len(kids) == 0:
		return token.Quote(t.S)
	case len(kids) == 2 && between && r.Intn(2) == 0:
		return "((" + kids[0] + ")" + blank() + t.S + blank() + "(" + kids[1] + "))"
	case len(kids) == 2 && t.S == "." && r.Intn(2) == 0:
		return "[" + blank() + "(" + kids[0] + ")" + blank() + "|" + blank() + "(" + kids[1] + ")" + blank() + "]"
	}
	for k, kid := range kids {
		kids[k] = blank() + "(" + kid + ")" + blank()
	}
	return token.Quote(t.S) + "(" + strings.Join(kids, ",") + ")"
}

// anyTerm is a term at random, valid for four levels; its variables are numbered as they first occur.
func anyTerm(r *rand.Rand, deep int, vars *int, bare bool) api.Term {
	switch r.Intn(8) {
	case 0:
		return term.Num(r.Int63n(20) - 10)
	case 1:
		if !bare {
			n := r.Intn(*vars + 1)
			*vars = max(*vars, n+1)
			return term.Let(n)
		}
	case 2:
		if deep > 0 {
			return api.Term{Kind: api.Seal, N: r.Int63n(4), Kids: []api.Term{anyTerm(r, deep-1, vars, true)}}
		}
	}
	if deep == 0 || r.Intn(4) == 0 {
		return term.Atom([]string{"a", "b c", "[]", "X", "don't", "f"}[r.Intn(6)])
	}
	kids := make([]api.Term, 1+r.Intn(3))
	for k := range kids {
		kids[k] = anyTerm(r, deep-1, vars, bare)
	}
	return term.Make([]string{"f", "g h", ".", "-", "+", ":-", ",", "=", "mod", "\\+"}[r.Intn(10)], kids...)
}

// TestRoundTrip: P7.3, a term that is written is read as it was, whatever blanks and parentheses there are, and is valid.
func TestRoundTrip(t *testing.T) {
	r := rand.New(rand.NewSource(9))
	blanks := []string{" ", "\n", "\t\r ", " % then\n"}
	rich := func() string { return blanks[r.Intn(len(blanks))] }
	poor := func() string { return "" }
	for range 5000 {
		vars := 0
		x := anyTerm(r, 3, &vars, false)
		for _, blank := range []func() string{rich, poor} {
			s := written(r, x, blank) + " ."
			if len(s) > api.MaxText {
				continue
			}
			all, at, e := All(s, 4)
			if e != api.OK || at != 0 || len(all) != 1 || !term.Same(all[0], x) {
				t.Fatalf("%q: %v at %d, %v; want %s", s, all, at, e, show(x))
			}
			if term.Check(all[0], 4) != api.OK {
				t.Fatal(s)
			}
		}
	}
}

// TestBlanks: P7.3, blanks between tokens change nothing where Tight has no meaning, nor do parentheses around a term.
func TestBlanks(t *testing.T) {
	for _, c := range [][]string{
		{"p(X):-q(X,Y),r(Y).", "p( X ) :- q( X , Y ) , r( Y ) .", "(p(X) :- (q(X, Y), r(Y))).", "(((p((X)))) :- (((q((X),(Y)))), (r((Y))))) .", "% first\np(X) :-\n\tq(X,Y), % then\n\tr(Y).\n"},
		{"[a,b|X].", "[ a , b | X ] .", "([(a),(b)|(X)]).", "[a|[b|X]].", "[a|([b|X])]."},
		{"1-2-3.", "1 - 2 - 3 .", "1 -2 -3.", "(1-2)-3.", "((1)-(2))-(3)."},
		{"a@1.", "a @ 1 .", "(a)@(1).", "(a@1).", "@( a , 1 )."},
		{"- a.", "-(a).", "- (a).", "(- a).", "-  a."},
	} {
		want, _, e := All(c[0], 4)
		if e != api.OK || len(want) != 1 {
			t.Fatal(c[0], e)
		}
		for _, s := range c[1:] {
			if all, _, e := All(s, 4); e != api.OK || len(all) != 1 || !term.Same(all[0], want[0]) {
				t.Error(s, all, e)
			}
		}
	}
}

// TestMemory: R3, tokens aren't changed, and what is returned shares no memory with them or with anything else.
func TestMemory(t *testing.T) {
	const s = "f(X,[a,b|Y],g(1,2)@1,-3,X - Y, _) :- a, b. "
	l := scan(t, s+s)
	before := slices.Clone(l)
	x, names, next, e := Read(l, 0, 4)
	if e != api.OK || !slices.Equal(l, before) {
		t.Fatal(e, l)
	}
	want, wantNames := show(x), slices.Clone(names)
	y, others, _, e := Read(l, next, 4)
	if e != api.OK || show(y) != want || !slices.Equal(others, wantNames) {
		t.Fatal(show(y), others, e)
	}
	spoil(&x)
	for k := range names {
		names[k] = "spoilt"
	}
	clear(l[:next])
	if show(y) != want || !slices.Equal(others, wantNames) || !slices.Equal(l[next:], before[next:]) {
		t.Error(show(y), others, l[next:])
	}
	all, _, e := All(s+s, 4)
	if e != api.OK || len(all) != 2 {
		t.Fatal(all, e)
	}
	spoil(&all[0])
	if show(all[1]) != want {
		t.Error(show(all[1]))
	}
	if z, _, _, e := Read(before, 0, 4); show(z) != want || e != api.OK {
		t.Error(show(z), e)
	}
	lists(t, y)
}

// spoil changes each part of a term, and what its lists have room for.
func spoil(t *api.Term) {
	for k := range t.Kids {
		spoil(&t.Kids[k])
	}
	room := t.Kids[:cap(t.Kids)]
	for k := range room {
		room[k] = api.Term{Kind: api.Int, N: 99}
	}
	t.Kids = nil
}

// lists holds a term to lists that share no memory: what is done to one is seen in no other.
func lists(t *testing.T, x api.Term) {
	t.Helper()
	var all [][]api.Term
	var find func(api.Term)
	find = func(x api.Term) {
		if len(x.Kids) > 0 {
			all = append(all, x.Kids[:cap(x.Kids)])
		}
		for _, kid := range x.Kids {
			find(kid)
		}
	}
	find(x)
	for k := range all {
		for j := range all[k] {
			all[k][j].N = int64(k + 1000)
		}
	}
	for k := range all {
		for j := range all[k] {
			if all[k][j].N != int64(k+1000) {
				t.Fatal("lists share memory")
			}
		}
	}
}

// TestNothingKept: R4, what was read before changes nothing, errors and names among it.
func TestNothingKept(t *testing.T) {
	texts := []string{"f(X,Y).", "f(Y,X", "f(_,Z) = X.", strings.Repeat("(", 40), "a@9.", "9223372036854775808.", "g(X@1)."}
	first := map[string]string{}
	tell := func(s string) string {
		x, names, next, e := Read(scan(t, s), 0, 4)
		return show(x) + strings.Join(names, " ") + strconv.Itoa(next) + e.Error()
	}
	for _, s := range texts {
		first[s] = tell(s)
	}
	for _, a := range texts {
		for _, b := range texts {
			tell(a)
			if got := tell(b); got != first[b] {
				t.Errorf("%q after %q: %s, but %s at first", b, a, got, first[b])
			}
		}
	}
}

// TestLong: P1, tokens in great numbers, that are no term but for their number.
func TestLong(t *testing.T) {
	const many = 300000
	one, end := api.Token{Kind: api.TokInt, N: 1}, api.Token{Kind: api.TokEnd}
	minus, comma := api.Token{Kind: api.TokName, S: "-"}, api.Token{Kind: api.TokPunct, S: ","}
	chain := func(between api.Token) []api.Token {
		l := []api.Token{one}
		for range many {
			l = append(l, between, one)
		}
		return l
	}
	punct := func(s string, tight bool) api.Token { return api.Token{Kind: api.TokPunct, S: s, Tight: tight} }
	at := []api.Token{{Kind: api.TokName, S: "@"}, one, end}
	sum := slices.Concat([]api.Token{punct("(", false)}, chain(minus), []api.Token{punct(")", false)}, at)
	refused(t, sum, 0, 4, len(sum), api.ErrFull)
	list := slices.Concat([]api.Token{punct("[", false)}, chain(comma), []api.Token{punct("]", false)}, at)
	refused(t, list, 0, 4, len(list), api.ErrFull)
	call := slices.Concat([]api.Token{minus, punct("(", true)}, chain(comma), []api.Token{punct(")", true), end})
	refused(t, call, 0, 4, len(call), api.ErrFull)
	open := slices.Repeat([]api.Token{punct("(", false)}, many)
	refused(t, open, 0, 4, 30, api.ErrDeep)
	refused(t, slices.Repeat([]api.Token{minus}, many), 0, 4, many, api.ErrForm)
}

// TestOwnPanics: only what a parser itself gave up with is an answer; another panic isn't hidden.
func TestOwnPanics(t *testing.T) {
	defer func() {
		if recover() == nil {
			t.Error("a panic that isn't a parser's own was hidden")
		}
	}()
	p := parser{tokens: []api.Token{{Kind: api.TokVar, S: "X"}, {Kind: api.TokEnd}}, levels: 4}
	p.sentence()
}
