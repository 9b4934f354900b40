package data

import (
	"fmt"
	"math"
	"math/rand"
	"reflect"
	"slices"
	"sync"
	"testing"
	"time"

	"torchere/api"
	"torchere/copyt"
	"torchere/latt"
	"torchere/term"
)

// v, f, a and truth are short, as most terms here are made of them.
var (
	v   = term.Let
	f   = term.Make
	a   = term.Atom("a")
	truth = term.Atom("true")
)

// odd is a term of that Kind, which need not be one that there is, with all fields filled.
func odd(kind int, n int64, s string, kids ...api.Term) api.Term {
	return api.Term{Kind: kind, N: n, S: s, Kids: kids}
}

// sealed is a Seal of that number around these, as they are and not copied.
func sealed(n int64, kids ...api.Term) api.Term {
	return odd(api.Seal, n, "", kids...)
}

// at is a term with a level.
func at(level int64, x api.Term) api.Term {
	return f("::", term.Num(level), x)
}

// when is a head and a body.
func when(head, body api.Term) api.Term {
	return f(":-", head, body)
}

// some is a list of that many atoms.
func some(n int) []api.Term {
	return slices.Repeat([]api.Term{a}, n)
}

// lattice is one of those pairs.
func lattice(t *testing.T, n int, below ...[2]int) *latt.Lattice {
	t.Helper()
	l, e := latt.New(n, below)
	if e != api.OK {
		t.Fatal(n, below, e)
	}
	return l
}

// diamond is 0 below 1 and 2, and these below 3.
func diamond(t *testing.T) *latt.Lattice {
	return lattice(t, 4, [2]int{0, 1}, [2]int{0, 2}, [2]int{1, 3}, [2]int{2, 3})
}

// turned is 2 below 0 and 3, and these below 1, so that no level is where its number tells.
func turned(t *testing.T) *latt.Lattice {
	return lattice(t, 4, [2]int{2, 0}, [2]int{2, 3}, [2]int{0, 1}, [2]int{3, 1})
}

// chain is that many levels, each below the next.
func chain(t *testing.T, n int) *latt.Lattice {
	var below [][2]int
	for k := range n - 1 {
		below = append(below, [2]int{k, k + 1})
	}
	return lattice(t, n, below...)
}

// lattices are some of each shape.
func lattices(t *testing.T) []*latt.Lattice {
	return []*latt.Lattice{lattice(t, 1), chain(t, 2), diamond(t), turned(t), chain(t, 16)}
}

// strange are numbers at the edges, and some whose last bits are those of a level.
func strange() []int64 {
	return []int64{math.MinInt64, math.MinInt64 + 1, math.MinInt32, -1 << 32, -4096, -17, -16, -1, 16, 17, 4096, math.MaxInt32, 1 << 32, 1<<32 + 1, math.MaxInt64 - 1, math.MaxInt64}
}

// predicates are the known ones, as the document tells them.
func predicates() map[string]int {
	return map[string]int{
		",": 2, ";": 2, "->": 2, `\+`: 1, "!": 0, "call": 1, "true": 0, "fail": 0, "=": 2, `\=`: 2, "==": 2, `\==`: 2, "@<": 2, "is": 2, "<": 2, ">": 2,
		"=<": 2, ">=": 2, "=:=": 2, `=\=`: 2, "var": 1, "nonvar": 1, "atom": 1, "integer": 1, "copy_term": 2, "write": 2, "declassify": 4,
	}
}

// brief is how something begins, so that a fault of a great one can be read.
func brief(x any) string {
	return fmt.Sprintf("%.200q", fmt.Sprint(x))
}

// same reports whether two clauses are.
func same(c, d api.Clause) bool {
	return c.Level == d.Level && c.Vars == d.Vars && term.Same(c.Head, d.Head) && term.Same(c.Body, d.Body)
}

// alike holds clauses to these, in order.
func alike(t *testing.T, got, want []api.Clause) {
	t.Helper()
	if !slices.EqualFunc(got, want, same) {
		t.Errorf("%s, want %s", brief(got), brief(want))
	}
}

// parses holds Parse, and a base of that term alone, to that clause.
func parses(t *testing.T, l *latt.Lattice, x api.Term, level int, head, body api.Term, vars int) {
	t.Helper()
	want := api.Clause{Level: level, Head: head, Body: body, Vars: vars}
	if got, e := Parse(l, x); e != api.OK || !same(got, want) {
		t.Errorf("Parse of %s: %s, %v; want %s", brief(x), brief(got), e, brief(want))
	}
	b, k, e := New(l, []api.Term{x})
	if e != api.OK || k != 0 {
		t.Fatalf("New of %s: %d, %v", brief(x), k, e)
	}
	alike(t, b.All(), []api.Clause{want})
	alike(t, b.Get(head.S, len(head.Kids)), []api.Clause{want})
}

// parsesNot holds Parse, and New of that term behind another one, to that error, and nothing beside it.
func parsesNot(t *testing.T, l *latt.Lattice, x api.Term, want api.Errno) {
	t.Helper()
	if got, e := Parse(l, x); e != want || !reflect.DeepEqual(got, api.Clause{}) {
		t.Errorf("Parse of %s: %s, %v; want %v", brief(x), brief(got), e, want)
	}
	newNot(t, l, []api.Term{a, x, a}, 1, want)
}

// newNot holds New to that index and that error, and no base beside it.
func newNot(t *testing.T, l *latt.Lattice, ts []api.Term, at int, want api.Errno) {
	t.Helper()
	if b, k, e := New(l, ts); b != nil || k != at || e != want {
		t.Errorf("New of %s: %v, %d, %v; want %d, %v", brief(ts), b, k, e, at, want)
	}
}

// base is that of these terms.
func base(t *testing.T, l *latt.Lattice, ts ...api.Term) *Base {
	t.Helper()
	b, k, e := New(l, ts)
	if b == nil || k != 0 || e != api.OK {
		t.Fatal(brief(ts), k, e)
	}
	return b
}

// soon fails if a call does not end.
func soon(t *testing.T, call func()) {
	t.Helper()
	done := make(chan struct{})
	go func() {
		defer close(done)
		call()
	}()
	select {
	case <-done:
	case <-time.After(time.Minute):
		t.Fatal("there is no end")
	}
}

// spoil changes every part of a term where it stands, and what there is room for behind its lists.
func spoil(x *api.Term) {
	for k := range x.Kids {
		spoil(&x.Kids[k])
	}
	room := x.Kids[:cap(x.Kids)]
	for k := range room {
		room[k] = odd(99, 99, "spoilt")
	}
	*x = odd(99, 99, "spoilt")
}

// spoilAll changes clauses where they stand, their terms, and what there is room for behind them.
func spoilAll(cs []api.Clause) {
	for k := range cs {
		spoil(&cs[k].Head)
		spoil(&cs[k].Body)
	}
	room := cs[:cap(cs)]
	for k := range room {
		room[k] = api.Clause{Level: 99, Vars: 99}
	}
}

// TestExample: P14.1, the chapter's example.
func TestExample(t *testing.T) {
	parses(t, diamond(t), when(f("p", v(0)), f("q", v(0), v(1))), 0, f("p", v(0)), f("q", v(0), v(1)), 2)
	parses(t, diamond(t), when(f("p", v(5)), f("q", v(5), v(2))), 0, f("p", v(0)), f("q", v(0), v(1)), 2)
}

// TestKnown: P14.1, each known predicate is known with its number of arguments, and with no other.
func TestKnown(t *testing.T) {
	if len(predicates()) != 27 {
		t.Fatal(len(predicates()))
	}
	for name, many := range predicates() {
		for _, n := range []int{math.MinInt, -1, 0, 1, 2, 3, 4, 5, 8, math.MaxInt, many - 1, many, many + 1, many + 1<<8, many + 1<<32} {
			if Known(name, n) != (n == many) {
				t.Error(name, n)
			}
		}
	}
}

// TestKnownNot: P14.1, other names are not known, however near to those that are.
func TestKnownNot(t *testing.T) {
	names := []string{"", " ", "p", "a", ":-", "::", "+", "-", "*", "//", "mod", "@", "@>", "@=<", "<=", "=>", "true ", "True", "TRUE", "halt", "not", "abs", "assert", "nl", "fact", "\\", "copyterm", "false", "!!", ";;", "[]", ".", "\x00"}
	for name := range predicates() {
		names = append(names, name+" ", " "+name, name+"\x00", name+name, name+"x", "'"+name+"'")
	}
	for _, name := range names {
		if _, is := predicates()[name]; is {
			continue
		}
		for n := -1; n < 6; n++ {
			if Known(name, n) {
				t.Error(name, n)
			}
		}
	}
}

// TestParseFacts: P14.1, a term that is no rule is a head, with the body true.
func TestParseFacts(t *testing.T) {
	for _, l := range lattices(t) {
		for _, x := range []api.Term{
			a, term.Atom(""), f("p", a), f("p", a, term.Num(1), f("q", a)), f("p", truth), f("p", sealed(1, a)), f("p", f(":-", a, a), f("::", a, a), f(",", a, a)),
			f("p", some(9)...), f("true", a), f("+", a, a), f("-", a), term.Atom("is"), f("call", a, a), f("call"),
			f(":-"), f(":-", a), f(":-", a, a, a), f("::"), f("::", a), f("::", a, a, a), f("::", term.Num(0), a, a), f("::", term.Num(99)), f(":-", term.Num(1)),
		} {
			parses(t, l, x, l.Bottom(), x, truth, 0)
			parses(t, l, at(0, x), 0, x, truth, 0)
		}
	}
}

// TestParseRules: P14.1, a Fun :- with two Kids is a head and a body, and the body may be any term.
func TestParseRules(t *testing.T) {
	for _, l := range lattices(t) {
		for _, head := range []api.Term{a, f("p", a), f(":-", a), f(":-", a, a, a), f("::", a), f("::", a, a, a), f("p", f(":-", a, a))} {
			for _, body := range []api.Term{
				a, truth, f("q", a), f(",", a, f(";", a, a)), term.Num(7), term.Num(-7), sealed(1, a), f("call", f("call", a)),
				f(":-", a, a), f(":-", a), f("::", term.Num(1), a), f("::", term.Num(99), a), f(":-", term.Num(1), a), term.Atom("fail"), api.Term{}, odd(9, 9, "x", a), sealed(99),
			} {
				parses(t, l, when(head, body), l.Bottom(), head, body, 0)
				parses(t, l, at(0, when(head, body)), 0, head, body, 0)
			}
		}
	}
}

// around are all the ways in which a term may be the head of a clause.
func around(head api.Term) []api.Term {
	return []api.Term{head, when(head, a), when(head, v(1)), when(head, head), at(0, head), at(0, when(head, a)), at(0, when(head, f(":-", a, a)))}
}

// TestParseType: P14.1, a head that is not a Fun is an error, whatever Kind it is, and whatever it is called.
func TestParseType(t *testing.T) {
	for _, l := range append(lattices(t), nil) {
		heads := []api.Term{
			v(0), v(4095), v(-1), term.Num(0), term.Num(-5), sealed(0, a), sealed(1, f("p", a)), sealed(0, f("call", a)), sealed(1), sealed(0, a, a), api.Term{},
			odd(math.MinInt, 0, "p"), odd(-1, 0, "p"), odd(5, 0, "p", a), odd(math.MaxInt, 0, "p", a),
		}
		for _, kind := range []int{0, api.Var, api.Int, api.Seal, 5, -3} {
			heads = append(heads, odd(kind, 1, "p", a), odd(kind, 1, "true"), odd(kind, 1, "call", a), odd(kind, 1, ":-", a, a), odd(kind, 1, "::", term.Num(0), a))
		}
		for _, head := range heads {
			for k, x := range around(head) {
				if l != nil || k < 4 {
					parsesNot(t, l, x, api.ErrType)
				}
			}
		}
	}
}

// TestParseThere: P14.1, a head that is a known predicate is an error, and one with another number of arguments is none.
func TestParseThere(t *testing.T) {
	l := diamond(t)
	for name, many := range predicates() {
		for _, x := range around(odd(api.Fun, 0, name, some(many)...)) {
			parsesNot(t, l, x, api.ErrThere)
		}
		for _, x := range around(odd(api.Fun, 5, name, some(many)...)) {
			parsesNot(t, l, x, api.ErrThere)
		}
		for _, n := range []int{many - 1, many + 1, 7} {
			if n >= 0 {
				head := f(name, some(n)...)
				parses(t, l, head, 0, head, truth, 0)
				parses(t, l, when(head, a), 0, head, a, 0)
				parses(t, l, at(1, when(head, head)), 1, head, head, 0)
			}
		}
	}
}

// TestParseForms: P14.1, a head that is a Fun :- or :: with two Kids is an error: each is looked at once only, the level ahead of the rule.
func TestParseForms(t *testing.T) {
	l := diamond(t)
	for _, x := range []api.Term{
		when(when(a, a), a), when(when(a, when(a, a)), a), at(1, when(when(a, a), a)), when(when(v(0), v(1)), v(2)), when(when(term.Num(1), a), a),
		when(at(1, a), a), when(at(99, a), a), when(f("::", a, a), a), when(at(1, when(a, a)), a), at(1, when(at(1, a), a)), at(1, when(f("::", v(0), v(1)), a)),
		at(1, at(1, a)), at(1, at(2, when(a, a))), at(1, at(99, a)), at(1, f("::", a, a)), at(0, at(0, at(0, a))), at(1, f("::", v(0), v(1))),
	} {
		parsesNot(t, l, x, api.ErrThere)
	}
	parses(t, l, at(1, when(a, at(2, a))), 1, a, at(2, a), 0)
	parses(t, l, when(a, at(2, when(a, a))), 0, a, at(2, when(a, a)), 0)
	parses(t, l, when(a, when(a, a)), 0, a, when(a, a), 0)
}

// TestParseLevels: P14.1, each level is one, and no other number.
func TestParseLevels(t *testing.T) {
	for _, l := range lattices(t) {
		n := l.Len()
		parses(t, l, f("p", v(3)), l.Bottom(), f("p", v(0)), truth, 1)
		for level := range n {
			parses(t, l, at(int64(level), f("p", v(3))), level, f("p", v(0)), truth, 1)
			parses(t, l, at(int64(level), when(a, v(3))), level, a, v(0), 1)
		}
		for _, level := range append(strange(), int64(n), int64(n)+1, 1<<32+int64(n)-1, 1<<16, 1<<8) {
			parsesNot(t, l, at(level, a), api.ErrRange)
			parsesNot(t, l, at(level, when(f("p", v(0)), a)), api.ErrRange)
		}
	}
	parses(t, chain(t, 16), at(15, a), 15, a, truth, 0)
	parsesNot(t, chain(t, 16), at(16, a), api.ErrRange)
}

// TestParseLevelKinds: P14.1, a level that is no Int is an error, whatever number it has; an Int is one, whatever else it has.
func TestParseLevelKinds(t *testing.T) {
	l := diamond(t)
	for _, level := range []api.Term{
		v(1), v(0), a, term.Atom("1"), f("-", term.Num(1)), sealed(1, term.Num(1)), sealed(0, term.Num(0)), f("p", term.Num(1)), api.Term{},
		odd(api.Fun, 1, "1"), odd(0, 1, ""), odd(5, 1, ""), odd(-2, 1, ""), odd(math.MaxInt, 1, ""), odd(math.MinInt, 1, ""), f("+", term.Num(0), term.Num(1)),
	} {
		parsesNot(t, l, f("::", level, a), api.ErrRange)
		parsesNot(t, l, f("::", level, when(a, a)), api.ErrRange)
	}
	for _, level := range []api.Term{odd(api.Int, 2, "x"), odd(api.Int, 2, "", a), odd(api.Int, 2, "::", a, v(1))} {
		parses(t, l, f("::", level, when(f("p", v(7)), a)), 2, f("p", v(0)), a, 1)
	}
	parses(t, l, odd(api.Fun, 5, "::", term.Num(2), odd(api.Fun, 6, ":-", f("p", v(7)), v(8))), 2, f("p", v(0)), v(1), 2)
	for _, kind := range []int{0, api.Var, api.Int, api.Seal, 5} {
		parsesNot(t, l, odd(kind, 0, "::", term.Num(1), a), api.ErrType)
		parsesNot(t, l, odd(kind, 0, ":-", a, a), api.ErrType)
	}
}

// TestParseFirst: P14.1 and R1, the level's error goes ahead of the head's.
func TestParseFirst(t *testing.T) {
	l := diamond(t)
	for _, x := range []api.Term{v(0), term.Num(1), sealed(1, a), truth, f("call", a), when(v(0), a), when(truth, a), when(when(a, a), a), at(1, a), at(4, a)} {
		parsesNot(t, l, at(4, x), api.ErrRange)
		parsesNot(t, l, f("::", a, x), api.ErrRange)
	}
	parsesNot(t, l, at(3, v(0)), api.ErrType)
	parsesNot(t, l, at(3, truth), api.ErrThere)
}

// TestParseVars: P14.1, variables are renamed over head and body together, the head first, and counted.
func TestParseVars(t *testing.T) {
	l := diamond(t)
	parses(t, l, f("p", v(7), v(3), v(7)), 0, f("p", v(0), v(1), v(0)), truth, 2)
	parses(t, l, when(a, v(7)), 0, a, v(0), 1)
	parses(t, l, when(a, f("q", v(7), v(3), v(7))), 0, a, f("q", v(0), v(1), v(0)), 2)
	parses(t, l, when(f("p", v(9)), a), 0, f("p", v(0)), a, 1)
	parses(t, l, when(f("p", v(9)), v(9)), 0, f("p", v(0)), v(0), 1)
	parses(t, l, when(f("p", v(9)), v(8)), 0, f("p", v(0)), v(1), 2)
	parses(t, l, when(f("p", v(3), v(2)), f("q", v(0), v(2), v(1), v(3))), 0, f("p", v(0), v(1)), f("q", v(2), v(1), v(3), v(0)), 4)
	parses(t, l, at(1, when(f("p", f("g", v(5)), sealed(2, v(4))), f(",", f("q", v(4)), f("r", v(6), v(5))))), 1, f("p", f("g", v(0)), sealed(2, v(1))), f(",", f("q", v(1)), f("r", v(2), v(0))), 3)
	// A level's own variables are no part of the clause.
	parses(t, l, f("::", odd(api.Int, 1, "", v(8)), when(f("p", v(9)), v(8))), 1, f("p", v(0)), v(1), 2)
	for _, n := range append(strange(), 0, 1, 4094, 4095) {
		x := odd(api.Var, n, "")
		parses(t, l, f("p", x), 0, f("p", v(0)), truth, 1)
		parses(t, l, when(a, x), 0, a, v(0), 1)
		parses(t, l, when(f("p", v(77), x), f("q", x, v(78))), 0, f("p", v(0), v(1)), f("q", v(1), v(2)), 3)
	}
	var all, want []api.Term
	for k, n := range strange() {
		all, want = append(all, odd(api.Var, n, "")), append(want, v(k))
	}
	parses(t, l, when(f("p", all...), f("q", all...)), 0, f("p", want...), f("q", want...), len(all))
	parses(t, l, when(f("p", all[3]), f("q", all[3], all[0])), 0, f("p", v(0)), f("q", v(0), v(1)), 2)
	var lets []api.Term
	for n := range 5000 {
		lets = append(lets, v(n))
	}
	parses(t, l, when(f("p", lets...), f("q", lets...)), 0, f("p", lets...), f("q", lets...), 5000)
}

// TestParseNorm: P14.1, head and body are those of what copyt.Norm makes of them together.
func TestParseNorm(t *testing.T) {
	l := turned(t)
	head, body := f("p", v(4), f("g", v(-1), a), sealed(7, v(2))), f(",", f("q", v(2), v(5000)), f("r", v(4), v(6)))
	norm, vars := copyt.Norm(when(head, body))
	parses(t, l, when(head, body), 2, norm.Kids[0], norm.Kids[1], vars)
	norm, vars = copyt.Norm(when(head, truth))
	parses(t, l, at(3, head), 3, norm.Kids[0], norm.Kids[1], vars)
}

// TestNilLattice: P14.1 and P14.2, where there are no levels none can be given, and Bottom is what it is for no lattice.
func TestNilLattice(t *testing.T) {
	parses(t, nil, when(f("p", v(7)), v(8)), -1, f("p", v(0)), v(1), 2)
	parses(t, nil, f("p", sealed(0, a)), -1, f("p", sealed(0, a)), truth, 0)
	for _, level := range append(strange(), 0, 1, 2) {
		parsesNot(t, nil, at(level, a), api.ErrRange)
	}
	parsesNot(t, nil, at(0, v(0)), api.ErrRange)
	for _, ts := range [][]api.Term{nil, {a}, {a, f("p", sealed(0, a))}} {
		if got := base(t, nil, ts...).Top(); got != -1 {
			t.Error(brief(ts), got)
		}
	}
	newNot(t, nil, some(201), 0, api.ErrFull)
}

// TestNewMost: P14.2, there may be 200 terms and not one more.
func TestNewMost(t *testing.T) {
	l := diamond(t)
	for _, n := range []int{0, 1, 2, 199, 200} {
		b := base(t, l, some(n)...)
		if len(b.All()) != n || len(b.Get("a", 0)) != n || b.Top() != 0 {
			t.Error(n, len(b.All()), len(b.Get("a", 0)), b.Top())
		}
	}
	for _, n := range []int{201, 202, 400, 100000} {
		newNot(t, l, some(n), 0, api.ErrFull)
		newNot(t, l, make([]api.Term, n), 0, api.ErrFull)
		newNot(t, l, append([]api.Term{at(99, a)}, some(n)...), 0, api.ErrFull)
	}
	if b := base(t, l, []api.Term{}...); len(b.All()) != 0 || len(b.Get("a", 0)) != 0 || b.Top() != 0 {
		t.Error(b)
	}
}

// TestNewFirst: P14.2, of terms that are refused the first one's error and index are told.
func TestNewFirst(t *testing.T) {
	l := diamond(t)
	wrong := []api.Term{at(4, a), v(0), truth}
	errs := []api.Errno{api.ErrRange, api.ErrType, api.ErrThere}
	for _, k := range []int{0, 1, 7, 198, 199} {
		for n := range wrong {
			ts := some(200)
			ts[k] = wrong[n]
			newNot(t, l, ts, k, errs[n])
			if k < 199 {
				ts[199] = wrong[(n+1)%3]
				newNot(t, l, ts, k, errs[n])
			}
			for j := k + 1; j < 200; j++ {
				ts[j] = wrong[(n+j)%3]
			}
			newNot(t, l, ts, k, errs[n])
		}
	}
}

// program is some terms of several predicates in turn, each told apart by its number.
func program() []api.Term {
	var ts []api.Term
	for k := range int64(40) {
		n := term.Num(k)
		ts = append(ts, f("p", n), when(f("p", n, v(3)), f("q", v(2))), at(k%4, f("q", n)), at(1, when(f("r", n), f("p", v(9)))), f("p", n, n, n))
	}
	return ts
}

// TestGet: P14.2, the clauses of a name with that many arguments, in order, and no others.
func TestGet(t *testing.T) {
	l := diamond(t)
	b := base(t, l, program()...)
	var p1, p2, p3, q1, r1 []api.Clause
	for k := range 40 {
		n := term.Num(int64(k))
		p1 = append(p1, api.Clause{Head: f("p", n), Body: truth})
		p2 = append(p2, api.Clause{Head: f("p", n, v(0)), Body: f("q", v(1)), Vars: 2})
		q1 = append(q1, api.Clause{Level: k % 4, Head: f("q", n), Body: truth})
		r1 = append(r1, api.Clause{Level: 1, Head: f("r", n), Body: f("p", v(0)), Vars: 1})
		p3 = append(p3, api.Clause{Head: f("p", n, n, n), Body: truth})
	}
	for range 2 {
		alike(t, b.Get("p", 1), p1)
		alike(t, b.Get("p", 2), p2)
		alike(t, b.Get("p", 3), p3)
		alike(t, b.Get("q", 1), q1)
		alike(t, b.Get("r", 1), r1)
	}
}

// TestGetNone: P14.2, a name with no clauses, or with another number of arguments, has an empty list; so has a known predicate, even if bodies call it.
func TestGetNone(t *testing.T) {
	b := base(t, diamond(t), append(program()[:50], a, when(f("c", v(0)), f(",", f("call", v(0)), truth)), f("true", a), f(":-", a))...)
	for _, many := range []int{math.MinInt, -1, 0, 4, 5, math.MaxInt, 1<<32 + 1, 1<<8 + 1} {
		for _, name := range []string{"p", "q", "r"} {
			if got := b.Get(name, many); len(got) != 0 {
				t.Error(name, many, got)
			}
		}
	}
	for _, name := range []string{"", "P", "p ", "pp", "s", "::", "1", "p\x00", "a"} {
		for many := -1; many < 5; many++ {
			if got := b.Get(name, many); (len(got) != 0) != (name == "a" && many == 0) {
				t.Error(name, many, got)
			}
		}
	}
	for name, many := range predicates() {
		if got := b.Get(name, many); len(got) != 0 {
			t.Error(name, many, got)
		}
	}
	if len(b.Get("true", 1)) != 1 || len(b.Get(":-", 1)) != 1 || len(b.Get(":-", 2)) != 0 {
		t.Error(b.Get("true", 1), b.Get(":-", 1), b.Get(":-", 2))
	}
}

// TestGetNames: P14.2, a name is held against the whole name, whatever bytes it has, and an argument's name is not one.
func TestGetNames(t *testing.T) {
	names := []string{"", " ", "a", "ab", "b", "A", "é", "\x00", "\xff", "a\x00", "p/1", "'a'"}
	var ts []api.Term
	for _, name := range names {
		ts = append(ts, f(name), f(name, f("in", a)))
	}
	b := base(t, diamond(t), ts...)
	for _, name := range names {
		alike(t, b.Get(name, 0), []api.Clause{{Head: f(name), Body: truth}})
		alike(t, b.Get(name, 1), []api.Clause{{Head: f(name, f("in", a)), Body: truth}})
		if len(b.Get("in", 1)) != 0 || len(b.Get(name, 2)) != 0 {
			t.Errorf("%q", name)
		}
	}
}

// TestAll: P14.2, all clauses in the order of their terms, each as Parse has it.
func TestAll(t *testing.T) {
	l := turned(t)
	var want []api.Clause
	for _, x := range program() {
		c, e := Parse(l, x)
		if e != api.OK {
			t.Fatal(brief(x), e)
		}
		want = append(want, c)
	}
	b := base(t, l, program()...)
	alike(t, b.All(), want)
	alike(t, b.All(), want)
	ts := program()
	slices.Reverse(ts)
	slices.Reverse(want)
	alike(t, base(t, l, ts...).All(), want)
	if got := base(t, l).All(); len(got) != 0 {
		t.Error(got)
	}
}

// tops holds the Top of these terms to a level, in any order of them.
func tops(t *testing.T, l *latt.Lattice, want int, ts ...api.Term) {
	t.Helper()
	for range max(len(ts), 1) {
		if got := base(t, l, ts...).Top(); got != want {
			t.Errorf("Top of %s: %d, want %d", brief(ts), got, want)
		}
		if len(ts) > 0 {
			ts = append(slices.Clone(ts[1:]), ts[0])
		}
	}
}

// TestTop: P14.2, the join of the levels of all clauses, and of all Seals in heads and in bodies.
func TestTop(t *testing.T) {
	l := diamond(t)
	tops(t, l, 0)
	tops(t, l, 0, a)
	tops(t, l, 0, a, when(f("p", v(0)), v(1)), term.Atom("b"))
	tops(t, l, 0, at(0, a), f("p", sealed(0, a)))
	for level := range int64(4) {
		top := int(level)
		tops(t, l, top, at(level, a))
		tops(t, l, top, at(level, when(a, a)), a, a)
		tops(t, l, top, f("p", sealed(level, a)), a)
		tops(t, l, top, when(f("p", f("g", a, sealed(level, a))), a))
		tops(t, l, top, a, when(a, sealed(level, a)))
		tops(t, l, top, when(a, f(",", a, f("q", f("g", sealed(level, a))))))
		tops(t, l, top, f("p", sealed(0, f("g", sealed(level, a)))), a)
		tops(t, l, top, when(a, sealed(level, sealed(0, a))))
		tops(t, l, top, f("p", sealed(level)), f("p", sealed(level, a, a)))
		// A level that is told in a body is no level of a Seal, nor is a number.
		tops(t, l, 0, when(a, at(level, a)), f("p", term.Num(level)), odd(api.Fun, level, "p"))
	}
}

// TestTopJoins: P14.2, of two levels that neither is above, their join, wherever each of them is.
func TestTopJoins(t *testing.T) {
	l := diamond(t)
	one := func(x api.Term) []api.Term {
		return []api.Term{at(1, x), when(x, sealed(1, a)), f("p", x, sealed(1, a))}
	}
	two := func(x api.Term) []api.Term {
		return []api.Term{at(2, x), when(x, f("q", sealed(2, a))), f("p", x, f("g", sealed(2, a)))}
	}
	for _, x := range one(f("p", a)) {
		tops(t, l, 1, x, x, a)
		for _, y := range two(f("p", a)) {
			tops(t, l, 2, y, y, a)
			tops(t, l, 3, x, y)
			tops(t, l, 3, x, a, y, x)
		}
	}
	tops(t, l, 3, at(1, f("p", sealed(2, a))))
	tops(t, l, 3, at(1, when(f("p", a), sealed(2, a))))
	tops(t, l, 3, when(f("p", sealed(1, a)), sealed(2, a)))
	tops(t, l, 3, f("p", sealed(1, sealed(2, a))))
	tops(t, l, 3, f("p", sealed(2, sealed(1, a))))
	tops(t, l, 1, at(1, when(f("p", sealed(1, a)), sealed(1, a))))
}

// TestTopOrder: P14.2, what is above counts, not what has the greater number; Bottom need not be 0.
func TestTopOrder(t *testing.T) {
	l := turned(t)
	tops(t, l, 2)
	tops(t, l, 2, a)
	tops(t, l, 2, at(2, a))
	tops(t, l, 0, at(0, a), a)
	tops(t, l, 3, at(3, a), at(2, a))
	tops(t, l, 1, at(1, a), at(3, a))
	tops(t, l, 1, at(0, a), at(3, a))
	tops(t, l, 1, f("p", sealed(0, a)), when(a, sealed(3, a)))
	tops(t, l, 0, f("p", sealed(0, a)), when(a, sealed(2, a)))
	// A Seal whose number is no level is at Top, of whatever the numbers are.
	for _, n := range append(strange(), 4) {
		tops(t, l, 1, f("p", sealed(n, a)))
		tops(t, l, 1, when(a, sealed(n)), at(2, a))
	}
	tops(t, chain(t, 16), 15, at(15, a), at(3, a))
	tops(t, lattice(t, 1), 0, at(0, f("p", sealed(1, a))), a)
}

// TestNilBase: P14.2, no base has no clauses, and its Top is 0.
func TestNilBase(t *testing.T) {
	var b *Base
	for _, many := range []int{math.MinInt, -1, 0, 1, 2, math.MaxInt} {
		for _, name := range []string{"", "p", "true", "::"} {
			if got := b.Get(name, many); len(got) != 0 {
				t.Error(name, many, got)
			}
		}
	}
	if len(b.All()) != 0 || b.Top() != 0 {
		t.Error(b.All(), b.Top())
	}
}

// holds holds a base to its clauses in order: each belongs to just one predicate, and those of one are in the order of all.
func holds(t *testing.T, b *Base) {
	t.Helper()
	all := b.All()
	many := 0
	seen := map[string]bool{}
	for _, c := range all {
		key := fmt.Sprintf("%q/%d", c.Head.S, len(c.Head.Kids))
		if seen[key] {
			continue
		}
		seen[key] = true
		var want []api.Clause
		for _, d := range all {
			if d.Head.S == c.Head.S && len(d.Head.Kids) == len(c.Head.Kids) {
				want = append(want, d)
			}
		}
		alike(t, b.Get(c.Head.S, len(c.Head.Kids)), want)
		many += len(want)
	}
	if many != len(all) {
		t.Errorf("%d clauses of predicates, %d in all", many, len(all))
	}
}

// TestOrder: P14.3, the clauses of a predicate are in their original order, and each is of one predicate.
func TestOrder(t *testing.T) {
	l := diamond(t)
	holds(t, base(t, l, program()...))
	ts := program()
	rand.New(rand.NewSource(1)).Shuffle(len(ts), func(i, k int) { ts[i], ts[k] = ts[k], ts[i] })
	holds(t, base(t, l, ts...))
	// Clauses that are the same are still several; neither the levels nor the names count.
	n := 0
	for _, level := range []int64{3, 0, 2, 1, 3, 0} {
		ts[n], ts[n+1], ts[n+2] = at(level, f("z", term.Num(9-level))), at(level, f("b", term.Num(level))), f("z", a)
		n += 3
	}
	b := base(t, l, ts[:n]...)
	holds(t, b)
	z := func(level int, x api.Term) api.Clause {
		return api.Clause{Level: level, Head: f("z", x), Body: truth}
	}
	alike(t, b.Get("z", 1), []api.Clause{
		z(3, term.Num(6)), z(0, a), z(0, term.Num(9)), z(0, a), z(2, term.Num(7)), z(0, a),
		z(1, term.Num(8)), z(0, a), z(3, term.Num(6)), z(0, a), z(0, term.Num(9)), z(0, a),
	})
}

// mixed are terms of all forms that make clauses.
func mixed() []api.Term {
	return []api.Term{
		a, f("p", v(5), f("g", v(4), sealed(1, a))), when(f("p", v(7), v(8)), f(",", f("q", v(8)), f("r", v(6), sealed(2, f("h", a))))),
		at(2, f("p", v(1), a)), at(1, when(f("q", f("g", v(3))), f("p", v(3), v(2)))), when(a, v(9)), at(3, a), odd(api.Fun, 7, "p", odd(9, 9, "x", v(2)), sealed(9)),
	}
}

// TestUnchanged: R3, no call changes its terms, nor does what is done to a result.
func TestUnchanged(t *testing.T) {
	l := diamond(t)
	for k := range mixed() {
		x, want := mixed()[k], mixed()[k]
		c, e := Parse(l, x)
		if e != api.OK || !reflect.DeepEqual(x, want) {
			t.Errorf("Parse changed %s to %s, %v", brief(want), brief(x), e)
		}
		spoilAll([]api.Clause{c})
		if !reflect.DeepEqual(x, want) {
			t.Errorf("Parse shares with %s", brief(want))
		}
	}
	ts := mixed()
	b := base(t, l, ts...)
	for _, call := range []func() []api.Clause{func() []api.Clause { return nil }, b.All, func() []api.Clause { return b.Get("p", 2) }} {
		spoilAll(call())
		if !reflect.DeepEqual(ts, mixed()) {
			t.Errorf("changed to %s", brief(ts))
		}
	}
	for _, x := range []api.Term{at(9, when(f("p", v(3)), v(4))), when(v(3), v(4)), at(1, when(f("call", v(3)), v(4))), at(1, at(1, v(3)))} {
		keep := term.Shift(x, 0)
		Parse(l, x)
		New(l, []api.Term{a, x})
		if !reflect.DeepEqual(x, keep) {
			t.Errorf("refused, and changed: %s to %s", brief(keep), brief(x))
		}
	}
}

// TestRoomBehind: R3, what stands behind a list that is given, where there is room for more, stays as it is.
func TestRoomBehind(t *testing.T) {
	l := diamond(t)
	kids := []api.Term{f("p", v(3)), v(4), v(5), v(6)}
	x := odd(api.Fun, 0, ":-", kids[:2]...)
	parses(t, l, x, 0, f("p", v(0)), v(1), 2)
	ts := []api.Term{x, a, a, a}
	spoilAll(base(t, l, ts[:2]...).All())
	for k, want := range []api.Term{f("p", v(3)), v(4), v(5), v(6)} {
		if !term.Same(kids[k], want) {
			t.Error(k, kids[k])
		}
	}
	if !term.Same(ts[2], a) || !term.Same(ts[3], a) {
		t.Error(ts)
	}
}

// TestGiven: R3 and R4, a base stays as it was, whatever becomes of the terms that it was made of.
func TestGiven(t *testing.T) {
	l := diamond(t)
	ts := mixed()
	b, want := base(t, l, ts...), base(t, l, mixed()...)
	for k := range ts {
		spoil(&ts[k])
	}
	unspoilt(t, b, want)
}

// TestGot: R3 and R4, a base stays as it was, whatever becomes of the clauses that it gave.
func TestGot(t *testing.T) {
	l := diamond(t)
	b, want := base(t, l, mixed()...), base(t, l, mixed()...)
	kept := b.All()
	for _, call := range []func() []api.Clause{b.All, func() []api.Clause { return b.Get("p", 2) }, func() []api.Clause { return b.Get("q", 1) }, func() []api.Clause { return b.Get("a", 0) }} {
		got := call()
		if len(got) == 0 {
			t.Fatal("no clauses")
		}
		got = append(got, api.Clause{Level: 3})
		spoilAll(got)
		unspoilt(t, b, want)
	}
	alike(t, kept, want.All())
}

// unspoilt holds a base to being as another one.
func unspoilt(t *testing.T, b, want *Base) {
	t.Helper()
	alike(t, b.All(), want.All())
	for _, name := range []string{"p", "q", "a", "spoilt", ""} {
		for many := range 4 {
			alike(t, b.Get(name, many), want.Get(name, many))
		}
	}
	if b.Top() != want.Top() {
		t.Error(b.Top(), want.Top())
	}
}

// TestListsApart: R3, no two lists of an answer are the same memory, also where they are in what was given.
func TestListsApart(t *testing.T) {
	l := diamond(t)
	both := f("g", v(3), a)
	x := odd(api.Fun, 0, ":-", both, both)
	want := f("g", v(0), a)
	c, _ := Parse(l, x)
	spoil(&c.Head)
	if !term.Same(c.Body, want) {
		t.Error(brief(c))
	}
	b := base(t, l, x, x, x)
	for _, got := range [][]api.Clause{b.All(), b.Get("g", 2)} {
		spoil(&got[1].Head)
		alike(t, []api.Clause{got[0], got[2]}, []api.Clause{{Head: want, Body: want, Vars: 1}, {Head: want, Body: want, Vars: 1}})
		if !term.Same(got[1].Body, want) {
			t.Error(brief(got))
		}
	}
	alike(t, b.All(), slices.Repeat([]api.Clause{{Head: want, Body: want, Vars: 1}}, 3))
}

// TestBasesApart: R4, bases have nothing in common, whatever they were made of.
func TestBasesApart(t *testing.T) {
	l, m := diamond(t), turned(t)
	one := base(t, l, a, at(1, f("p", v(3))))
	two := base(t, m, f("p", a), f("p", f("g", sealed(3, a))))
	newNot(t, l, []api.Term{f("p", v(1)), v(0)}, 1, api.ErrType)
	alike(t, one.All(), []api.Clause{{Head: a, Body: truth}, {Level: 1, Head: f("p", v(0)), Body: truth, Vars: 1}})
	alike(t, two.All(), []api.Clause{{Level: 2, Head: f("p", a), Body: truth}, {Level: 2, Head: f("p", f("g", sealed(3, a))), Body: truth}})
	alike(t, one.Get("p", 1), []api.Clause{{Level: 1, Head: f("p", v(0)), Body: truth, Vars: 1}})
	if one.Top() != 1 || two.Top() != 3 {
		t.Error(one.Top(), two.Top())
	}
}

// TestTogether: R4, calls that run at the same time, on one base too, answer as they do alone.
func TestTogether(t *testing.T) {
	l := diamond(t)
	b, want := base(t, l, mixed()...), base(t, l, mixed()...)
	var wait sync.WaitGroup
	for range 8 {
		wait.Add(1)
		go func() {
			defer wait.Done()
			for range 50 {
				unspoilt(t, b, want)
				spoilAll(b.All())
				spoilAll(b.Get("p", 2))
				alike(t, base(t, l, program()[:10]...).Get("r", 1), []api.Clause{{Level: 1, Head: f("r", term.Num(0)), Body: f("p", v(0)), Vars: 1}, {Level: 1, Head: f("r", term.Num(1)), Body: f("p", v(0)), Vars: 1}})
			}
		}()
	}
	wait.Wait()
}

// TestDeep: P1, terms as deep as they may come, and as wide, end soon.
func TestDeep(t *testing.T) {
	l := diamond(t)
	deep := odd(api.Fun, 0, "p", v(1<<16))
	for k := range 1 << 16 {
		deep = odd(api.Fun, 0, "p", deep, v(k))
	}
	many := make([]api.Term, 1<<17)
	for k := range many {
		many[k] = v(3 * k)
	}
	soon(t, func() {
		for _, x := range []api.Term{deep, odd(api.Fun, 0, "p", many...), odd(api.Fun, 0, "p", v(0), sealed(3, many...))} {
			norm, vars := copyt.Norm(x)
			parses(t, l, x, 0, norm, truth, vars)
			parses(t, l, when(x, x), 0, norm, norm, vars)
			parses(t, l, at(1, when(a, x)), 1, a, norm, vars)
			parsesNot(t, l, at(4, x), api.ErrRange)
			parsesNot(t, l, when(sealed(1, x), x), api.ErrType)
			parsesNot(t, l, when(f("call", x), x), api.ErrThere)
		}
		ends := a
		for range 1 << 16 {
			ends = odd(api.Fun, 0, ":-", a, ends)
		}
		parses(t, l, ends, 0, a, ends.Kids[1], 0)
	})
}

// TestRefusedSoon: P1, what is refused is refused ahead of any copy, however great the term is that lists which are shared make.
func TestRefusedSoon(t *testing.T) {
	l := diamond(t)
	x := v(0)
	for range 18 {
		x = odd(api.Fun, 0, "p", x, x)
	}
	for _, c := range []struct {
		x    api.Term
		want api.Errno
	}{
		{odd(api.Fun, 0, "::", x, x), api.ErrRange}, {odd(api.Fun, 0, "::", term.Num(4), x), api.ErrRange},
		{odd(api.Fun, 0, ":-", sealed(1, x), x), api.ErrType}, {odd(api.Fun, 0, ":-", v(0), x), api.ErrType}, {sealed(1, x), api.ErrType},
		{odd(api.Fun, 0, ",", x, x), api.ErrThere}, {odd(api.Fun, 0, ":-", truth, x), api.ErrThere}, {odd(api.Fun, 0, "::", term.Num(1), odd(api.Fun, 0, "::", x, x)), api.ErrThere},
	} {
		n := testing.AllocsPerRun(1, func() {
			if _, e := Parse(l, c.x); e != c.want {
				t.Error(e, c.want)
			}
			if _, k, e := New(l, []api.Term{c.x, x}); e != c.want || k != 0 {
				t.Error(k, e, c.want)
			}
		})
		if n > 1000 {
			t.Error("pieces of memory:", n, c.want)
		}
	}
	full := append([]api.Term{x}, some(200)...)
	if n := testing.AllocsPerRun(1, func() { newNot(t, l, full, 0, api.ErrFull) }); n > 1000 {
		t.Error("pieces of memory:", n)
	}
}

// wantParse is the chapter's word for a clause, sentence by sentence, without Norm.
func wantParse(l *latt.Lattice, t api.Term) (api.Clause, api.Errno) {
	level := l.Bottom()
	if t.Kind == api.Fun && t.S == "::" && len(t.Kids) == 2 {
		first := t.Kids[0]
		is := false
		for k := range l.Len() {
			is = is || first.Kind == api.Int && first.N == int64(k)
		}
		if !is {
			return api.Clause{}, api.ErrRange
		}
		level, t = int(first.N), t.Kids[1]
	}
	head, body := t, api.Term{Kind: api.Fun, S: "true"}
	if t.Kind == api.Fun && t.S == ":-" && len(t.Kids) == 2 {
		head, body = t.Kids[0], t.Kids[1]
	}
	if head.Kind != api.Fun {
		return api.Clause{}, api.ErrType
	}
	if many, is := predicates()[head.S]; is && many == len(head.Kids) {
		return api.Clause{}, api.ErrThere
	}
	if (head.S == ":-" || head.S == "::") && len(head.Kids) == 2 {
		return api.Clause{}, api.ErrThere
	}
	var vars []int64
	head = wantNamed(head, &vars)
	body = wantNamed(body, &vars)
	return api.Clause{Level: level, Head: head, Body: body, Vars: len(vars)}, api.OK
}

// wantNamed is x with each variable as its place among those met so far.
func wantNamed(x api.Term, vars *[]int64) api.Term {
	if x.Kind == api.Var {
		if !slices.Contains(*vars, x.N) {
			*vars = append(*vars, x.N)
		}
		x.N = int64(slices.Index(*vars, x.N))
	}
	x.Kids = slices.Clone(x.Kids)
	for k := range x.Kids {
		x.Kids[k] = wantNamed(x.Kids[k], vars)
	}
	return x
}

// wantTop is the join of the levels of clauses and of the Seals in them, level by level.
func wantTop(l *latt.Lattice, cs []api.Clause) int {
	top := l.Bottom()
	var seals func(api.Term)
	seals = func(x api.Term) {
		if x.Kind == api.Seal && x.N >= 0 && x.N < int64(l.Len()) {
			top = l.Join(top, int(x.N))
		} else if x.Kind == api.Seal {
			top = l.Top()
		}
		for _, kid := range x.Kids {
			seals(kid)
		}
	}
	for _, c := range cs {
		top = l.Join(top, c.Level)
		seals(c.Head)
		seals(c.Body)
	}
	return top
}

// maker makes terms at random, of so few names and numbers that they are often alike.
type maker struct {
	*rand.Rand
}

// term makes a term that is at most so deep, often of the forms that a clause may have.
func (m maker) term(deep int) api.Term {
	switch kind := m.Intn(12); {
	case kind == 0:
		return odd(m.Intn(7)-1, m.number(), m.name(), m.kids(deep)...)
	case kind == 1:
		return odd(api.Var, m.number(), "")
	case kind == 2:
		return term.Num(m.number())
	case kind == 3 && deep > 1:
		return sealed(m.number(), m.term(deep-1))
	case kind < 6 && deep > 1:
		return when(m.term(deep-1), m.term(deep-1))
	case kind < 8 && deep > 1:
		return at(m.number(), m.term(deep-1))
	}
	return odd(api.Fun, 0, m.name(), m.kids(deep)...)
}

// name is one that is mostly free.
func (m maker) name() string {
	return []string{"p", "q", "r", "p", "q", "", ":-", "::", "true", ",", "call", "write"}[m.Intn(12)]
}

// number is mostly that of a level.
func (m maker) number() int64 {
	if m.Intn(12) == 0 {
		return strange()[m.Intn(len(strange()))]
	}
	return int64(m.Intn(4))
}

// kids are some terms that are less deep.
func (m maker) kids(deep int) []api.Term {
	if deep <= 1 {
		return nil
	}
	kids := make([]api.Term, m.Intn(3))
	for k := range kids {
		kids[k] = m.term(deep - 1)
	}
	return kids
}

// TestAnyParse: P14.1, Parse of any term, as the words tell it.
func TestAnyParse(t *testing.T) {
	m := maker{rand.New(rand.NewSource(1))}
	ls := lattices(t)
	counts := map[api.Errno]int{}
	for k := range 60000 {
		l, x := ls[k%len(ls)], m.term(5)
		want, e := wantParse(l, x)
		counts[e]++
		got, g := Parse(l, x)
		if g != e || !same(got, want) || e != api.OK && !reflect.DeepEqual(got, api.Clause{}) {
			t.Fatalf("Parse of %s: %s, %v; want %s, %v", brief(x), brief(got), g, brief(want), e)
		}
	}
	for _, e := range []api.Errno{api.OK, api.ErrRange, api.ErrType, api.ErrThere} {
		if counts[e] < 1000 {
			t.Error(counts)
		}
	}
}

// TestAnyBase: P14.2 and P14.3, a base of any terms, as the words tell it.
func TestAnyBase(t *testing.T) {
	m := maker{rand.New(rand.NewSource(2))}
	ls := lattices(t)
	made := 0
	for k := range 6000 {
		l := ls[k%len(ls)]
		var ts []api.Term
		var cs []api.Clause
		first, wrong := 0, api.OK
		for range m.Intn(12) {
			x := m.term(4)
			c, e := wantParse(l, x)
			if e != api.OK && m.Intn(8) != 0 {
				continue
			}
			if e != api.OK && wrong == api.OK {
				first, wrong = len(ts), e
			}
			ts, cs = append(ts, x), append(cs, c)
		}
		if wrong != api.OK {
			newNot(t, l, ts, first, wrong)
			continue
		}
		made++
		b := base(t, l, ts...)
		alike(t, b.All(), cs)
		holds(t, b)
		if got, want := b.Top(), wantTop(l, cs); got != want {
			t.Errorf("Top of %s: %d, want %d", brief(ts), got, want)
		}
	}
	if made < 2000 || made > 5500 {
		t.Error("made:", made)
	}
}
