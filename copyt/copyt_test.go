package copyt

import (
	"fmt"
	"math"
	"math/rand"
	"reflect"
	"slices"
	"sync"
	"testing"
	"time"

	"torchere/api"
	"torchere/store"
	"torchere/term"
)

// v, f and a are short, as most terms here are made of them.
var (
	v = term.Let
	f = term.Make
	a = term.Atom("a")
)

// sealed is a Seal of that number around these, as they are and not copied.
func sealed(n int64, kids ...api.Term) api.Term {
	return api.Term{Kind: api.Seal, N: n, Kids: kids}
}

// odd is a term of that Kind, which need not be one that there is, with all fields filled.
func odd(kind int, n int64, s string, kids ...api.Term) api.Term {
	return api.Term{Kind: kind, N: n, S: s, Kids: kids}
}

// wide is a Fun f of these Kids, which may be more than term.Make would be given.
func wide(kids ...api.Term) api.Term {
	return odd(api.Fun, 0, "f", kids...)
}

// some is a list of that many atoms.
func some(n int) []api.Term {
	return slices.Repeat([]api.Term{a}, n)
}

// lets is a list of that many variables, from a first one on.
func lets(first, n int) []api.Term {
	l := make([]api.Term, n)
	for k := range l {
		l[k] = v(first + k)
	}
	return l
}

// nest is core with that many Funs of one Kid around it.
func nest(deep int, core api.Term) api.Term {
	for range deep {
		core = odd(api.Fun, 0, "n", core)
	}
	return core
}

// brief is how a term begins, so that a fault of a great one can be read.
func brief(x api.Term) string {
	return fmt.Sprintf("%.200q", fmt.Sprint(x))
}

// spoil changes every part of a term where it stands, and what there is room for behind its lists.
func spoil(x *api.Term) {
	for k := range x.Kids {
		spoil(&x.Kids[k])
	}
	room := x.Kids[:cap(x.Kids)]
	for k := range room {
		room[k] = odd(99, 99, "spoilt")
	}
	*x = odd(99, 99, "spoilt")
}

// soon fails if a call does not end.
func soon(t *testing.T, call func()) {
	t.Helper()
	done := make(chan struct{})
	go func() {
		defer close(done)
		call()
	}()
	select {
	case <-done:
	case <-time.After(time.Minute):
		t.Fatal("there is no end")
	}
}

// with is a store of that many variables, of which the first ones are bound to these, in order.
func with(t *testing.T, n int, values ...api.Term) *store.Store {
	t.Helper()
	s := store.New()
	if _, e := s.Fresh(n); e != api.OK {
		t.Fatal(n, e)
	}
	for n, x := range values {
		if e := s.Bind(n, x); e != api.OK {
			t.Fatal(n, brief(x), e)
		}
	}
	return s
}

// counts holds a store to that many variables.
func counts(t *testing.T, s *store.Store, want int) {
	t.Helper()
	if n, e := s.Fresh(0); n != want || e != api.OK {
		t.Errorf("there are %d variables, %v; want %d", n, e, want)
	}
}

// count is how many variables a store has.
func count(s *store.Store) int {
	n, _ := s.Fresh(0)
	return n
}

// norms holds Norm to that term and that number.
func norms(t *testing.T, x, want api.Term, vars int) {
	t.Helper()
	if got, n := Norm(x); !term.Same(got, want) || n != vars {
		t.Errorf("Norm of %s: %s, %d; want %s, %d", brief(x), brief(got), n, brief(want), vars)
	}
}

// varies holds Variant to that answer, either way round.
func varies(t *testing.T, x, y api.Term, want bool) {
	t.Helper()
	if got := Variant(x, y); got != want {
		t.Errorf("Variant of %s and %s: %v", brief(x), brief(y), got)
	}
	if got := Variant(y, x); got != want {
		t.Errorf("Variant of %s and %s: %v", brief(y), brief(x), got)
	}
}

// freshens holds Fresh to that term, and the store to that many variables behind it.
func freshens(t *testing.T, s *store.Store, x api.Term, vars int, want api.Term, behind int) {
	t.Helper()
	if got, e := Fresh(s, x, vars); !term.Same(got, want) || e != api.OK {
		t.Errorf("Fresh of %s, %d: %s, %v; want %s", brief(x), vars, brief(got), e, brief(want))
	}
	counts(t, s, behind)
}

// freshensNot holds Fresh to that error, no term beside it, and no change.
func freshensNot(t *testing.T, s *store.Store, x api.Term, vars int, e api.Errno) {
	t.Helper()
	behind := count(s)
	if got, g := Fresh(s, x, vars); !reflect.DeepEqual(got, api.Term{}) || g != e {
		t.Errorf("Fresh of %s, %d: %s, %v; want %v", brief(x), vars, brief(got), g, e)
	}
	if n := count(s); n != behind {
		t.Errorf("Fresh of %s, %d: from %d to %d variables", brief(x), vars, behind, n)
	}
}

// copies holds Copy to that term, and the store to that many variables behind it.
func copies(t *testing.T, s *store.Store, x, want api.Term, behind int) {
	t.Helper()
	if got, e := Copy(s, x); !term.Same(got, want) || e != api.OK {
		t.Errorf("Copy of %s: %s, %v; want %s", brief(x), brief(got), e, brief(want))
	}
	counts(t, s, behind)
}

// copiesNot holds Copy to that error, no term beside it, and no change.
func copiesNot(t *testing.T, s *store.Store, x api.Term, e api.Errno) {
	t.Helper()
	behind, mark := count(s), s.Mark()
	if got, g := Copy(s, x); !reflect.DeepEqual(got, api.Term{}) || g != e {
		t.Errorf("Copy of %s: %s, %v; want %v", brief(x), brief(got), g, e)
	}
	if n, m := count(s), s.Mark(); n != behind || m != mark {
		t.Errorf("Copy of %s: from %d to %d variables, from %d to %d bound", brief(x), behind, n, mark, m)
	}
}

// strange are numbers of variables at the edges, within a store and far from it.
func strange() []int64 {
	return []int64{0, 1, -1, 4094, 4095, 4096, 4097, -4095, -4096, math.MaxInt32, math.MinInt32, math.MaxInt64 - 1, math.MaxInt64, math.MinInt64 + 1, math.MinInt64}
}

// TestExample: P13.1, the chapter's example.
func TestExample(t *testing.T) {
	norms(t, f("f", v(7), v(3), v(7)), f("f", v(0), v(1), v(0)), 2)
}

// TestNormGround: P13.1, a term without variables is as it was, whatever its other numbers are.
func TestNormGround(t *testing.T) {
	for _, n := range strange() {
		for _, x := range []api.Term{
			term.Num(n), a, f("f", a, term.Num(n)), sealed(n, a), sealed(n), f("g", sealed(n, f("f", term.Num(n)))),
			odd(api.Int, n, "x", a), odd(api.Fun, n, "x", a), odd(api.Seal, n, "x", a, a), odd(0, n, "x", a), odd(5, n, "x", a), odd(-1, n, "x"),
			odd(int(n)|8, n, "x", a),
		} {
			norms(t, x, x, 0)
		}
	}
	norms(t, api.Term{}, api.Term{}, 0)
}

// TestNormNumbers: P13.1, a variable may have any number, and is 0 if it is the only one.
func TestNormNumbers(t *testing.T) {
	for _, n := range strange() {
		x := odd(api.Var, n, "")
		norms(t, x, v(0), 1)
		norms(t, f("f", a, x, f("g", x), x), f("f", a, v(0), f("g", v(0)), v(0)), 1)
		for _, m := range strange() {
			if m != n {
				y := odd(api.Var, m, "")
				norms(t, f("f", x, y), f("f", v(0), v(1)), 2)
				norms(t, f("f", x, x, y, x, y), f("f", v(0), v(0), v(1), v(0), v(1)), 2)
			}
		}
	}
	var all, want []api.Term
	for k, n := range strange() {
		all = append(all, odd(api.Var, n, ""))
		want = append(want, v(k))
	}
	norms(t, wide(all...), wide(want...), len(want))
	slices.Reverse(all)
	norms(t, wide(all...), wide(want...), len(want))
	norms(t, wide(append(all, all...)...), wide(append(want, want...)...), len(want))
}

// TestNormOften: P13.1, a variable counts once, however often it occurs.
func TestNormOften(t *testing.T) {
	norms(t, wide(slices.Repeat(lets(4095, 1), 500)...), wide(slices.Repeat(lets(0, 1), 500)...), 1)
	norms(t, wide(slices.Repeat(lets(9, 3), 300)...), wide(slices.Repeat(lets(0, 3), 300)...), 3)
}

// TestNormOrder: P13.1, the numbers go by where a variable first occurs: a part ahead of its Kids, the Kids in order.
func TestNormOrder(t *testing.T) {
	norms(t, f("f", f("g", v(5), f("h", v(4))), v(3), f("g", v(4), v(5), v(2))), f("f", f("g", v(0), f("h", v(1))), v(2), f("g", v(1), v(0), v(3))), 4)
	norms(t, f("f", v(1), v(0)), f("f", v(0), v(1)), 2)
	norms(t, f("f", v(1), v(2), v(0)), f("f", v(0), v(1), v(2)), 3)
	norms(t, f("f", v(2), v(0), v(1)), f("f", v(0), v(1), v(2)), 3)
	// What is 0 by now must not be taken for the variable that was 0.
	norms(t, f("f", v(1), v(0), v(1), v(0)), f("f", v(0), v(1), v(0), v(1)), 2)
	norms(t, f("f", v(2), v(0), v(1), v(2), v(1), v(0)), f("f", v(0), v(1), v(2), v(0), v(2), v(1)), 3)
	l := lets(0, 900)
	slices.Reverse(l)
	norms(t, wide(l...), wide(lets(0, 900)...), 900)
}

// TestNormWithin: P13.1, variables are renamed in Kids of Kids, within Seals and in the Kids of any part, a variable's too.
func TestNormWithin(t *testing.T) {
	norms(t, nest(50, v(7)), nest(50, v(0)), 1)
	norms(t, f("f", sealed(7, v(7)), v(9), sealed(9, f("g", v(9), v(8)))), f("f", sealed(7, v(0)), v(1), sealed(9, f("g", v(1), v(2)))), 3)
	norms(t, sealed(1, sealed(2, v(3), v(4)), v(3)), sealed(1, sealed(2, v(0), v(1)), v(0)), 2)
	norms(t, odd(api.Var, 7, "X", v(6), odd(api.Var, 7, "Y", v(5))), odd(api.Var, 0, "X", v(1), odd(api.Var, 0, "Y", v(2))), 3)
	norms(t, odd(api.Int, 7, "X", v(6)), odd(api.Int, 7, "X", v(0)), 1)
	norms(t, odd(9, 7, "X", v(6), odd(0, 6, "", v(6), v(7))), odd(9, 7, "X", v(0), odd(0, 6, "", v(0), v(1))), 2)
}

// TestNormVars: P13.1, each variable becomes its index in what term.Vars returns, and the number is how many that are.
func TestNormVars(t *testing.T) {
	x := f("f", v(12), sealed(1, v(-3)), f("g", v(12), v(5000), v(0)), v(-3))
	vars := term.Vars(x)
	want := f("f", v(slices.Index(vars, 12)), sealed(1, v(slices.Index(vars, -3))), f("g", v(slices.Index(vars, 12)), v(slices.Index(vars, 5000)), v(slices.Index(vars, 0))), v(slices.Index(vars, -3)))
	norms(t, x, want, len(vars))
}

// TestNormTwice: P13.1, Norm of what Norm returned is the same term and the same number.
func TestNormTwice(t *testing.T) {
	for _, x := range append(samples(), a, wide(lets(90, 900)...), wide(lets(-5, 10)...)) {
		once, vars := Norm(x)
		norms(t, once, once, vars)
	}
}

// TestVariant: P13.1, terms are variants if one is the other with its variables called otherwise.
func TestVariant(t *testing.T) {
	varies(t, v(0), v(4095), true)
	varies(t, a, a, true)
	varies(t, f("f", v(1), v(2)), f("f", v(2), v(1)), true)
	varies(t, f("f", v(1), v(2)), f("f", v(-1), v(5000)), true)
	varies(t, f("f", v(1), v(2), v(1)), f("f", v(2), v(1), v(2)), true)
	varies(t, sealed(1, v(3)), sealed(1, v(4)), true)
	varies(t, odd(api.Var, 3, "X", v(3)), odd(api.Var, 4, "X", v(4)), true)
	for _, n := range strange() {
		for _, m := range strange() {
			varies(t, odd(api.Var, n, ""), odd(api.Var, m, ""), true)
			varies(t, f("f", odd(api.Var, n, ""), odd(api.Var, m, "")), f("f", v(1), v(2)), n != m)
			varies(t, f("f", odd(api.Var, n, ""), odd(api.Var, m, "")), f("f", v(1), v(1)), n == m)
		}
	}
	for _, x := range samples() {
		varies(t, x, x, true)
		varies(t, x, term.Shift(x, 100), true)
		norm, _ := Norm(x)
		varies(t, x, norm, true)
	}
}

// TestVariantNot: P13.1, one difference of any kind is enough, wherever it is.
func TestVariantNot(t *testing.T) {
	around := []func(api.Term) api.Term{
		func(x api.Term) api.Term { return x },
		func(x api.Term) api.Term { return f("f", v(1), x) },
		func(x api.Term) api.Term { return f("f", v(1), f("g", x, v(2)), v(1)) },
		func(x api.Term) api.Term { return sealed(1, x) },
		func(x api.Term) api.Term { return odd(api.Var, 1, "", x) },
		func(x api.Term) api.Term { return nest(40, x) },
	}
	for _, in := range around {
		for _, p := range [][2]api.Term{
			{a, term.Atom("b")},
			{a, term.Atom("")},
			{a, term.Atom("a ")},
			{f("g", v(8)), f("h", v(8))},
			{term.Num(0), term.Num(1)},
			{term.Num(7), term.Num(-7)},
			{term.Num(math.MaxInt64), term.Num(math.MinInt64)},
			{term.Num(0), v(8)},
			{a, v(8)},
			{a, f("a", a)},
			{a, f("a", v(8))},
			{f("g", v(8), a), f("g", v(8))},
			{f("g", v(8), v(9)), f("g", v(8))},
			{f("g", v(8), a), f("g", a, v(8))},
			{sealed(1, a), sealed(2, a)},
			{sealed(1, a), a},
			{sealed(1, v(8)), sealed(0, v(8))},
			{sealed(1, a), sealed(1, term.Atom("b"))},
			{sealed(1, a), sealed(1, a, a)},
			{odd(api.Fun, 1, "a"), a},
			{odd(api.Var, 8, "X"), v(8)},
			{odd(api.Var, 8, "", a), v(8)},
			{odd(api.Int, 8, "x"), term.Num(8)},
			{odd(9, 8, ""), odd(10, 8, "")},
			{odd(9, 8, ""), odd(9, 9, "")},
			{odd(0, 1, ""), v(8)},
			{f("g", v(8), v(8)), f("g", v(8), v(9))},
			{f("g", v(8), v(9), v(8)), f("g", v(8), v(9), v(9))},
			{f("g", v(8), v(9), v(8)), f("g", v(9), v(8), v(8))},
			{f("g", v(8), v(9), v(8)), f("g", v(8), v(8), v(9))},
			{f("g", v(8), v(9), v(9), v(8)), f("g", v(8), v(9), v(8), v(9))},
			{f("g", v(8), v(9), v(10)), f("g", v(8), v(9), v(9))},
		} {
			varies(t, in(p[0]), in(p[1]), false)
			varies(t, in(p[0]), in(p[0]), true)
		}
	}
}

// TestVariantNumbers: P13.1, what Norm makes of a variable is held against what it makes of the other, not against its number: 0 in one may be any in the other.
func TestVariantNumbers(t *testing.T) {
	varies(t, f("f", v(0), v(1)), f("f", v(1), v(0)), true)
	varies(t, f("f", v(0), v(1), v(0)), f("f", v(1), v(0), v(0)), false)
	varies(t, f("f", v(0), v(1), v(2)), f("f", v(1), v(2), v(0)), true)
	varies(t, f("f", v(0), v(1), v(2), v(0)), f("f", v(1), v(2), v(0), v(0)), false)
	varies(t, f("f", v(5), term.Num(0)), f("f", v(6), term.Num(0)), true)
	varies(t, f("f", v(5), term.Num(5)), f("f", v(6), term.Num(6)), false)
	varies(t, f("f", v(5), sealed(5, a)), f("f", v(6), sealed(6, a)), false)
}

// TestFresh: P13.2, the variables of the term are moved up to the new ones, which are as many as was asked for.
func TestFresh(t *testing.T) {
	s := store.New()
	x := f("f", v(0), v(1), f("g", v(0)), sealed(3, v(1)), term.Num(4), a)
	freshens(t, s, x, 2, x, 2)
	freshens(t, s, x, 2, f("f", v(2), v(3), f("g", v(2)), sealed(3, v(3)), term.Num(4), a), 4)
	freshens(t, s, x, 0, f("f", v(4), v(5), f("g", v(4)), sealed(3, v(5)), term.Num(4), a), 4)
	freshens(t, s, x, 7, f("f", v(4), v(5), f("g", v(4)), sealed(3, v(5)), term.Num(4), a), 11)
	freshens(t, s, a, 0, a, 11)
	freshens(t, s, a, 1, a, 12)
	freshens(t, s, term.Num(5), 0, term.Num(5), 12)
	freshens(t, s, api.Term{}, 0, api.Term{}, 12)
}

// TestFreshBound: P13.2, Fresh moves a term as it is and follows no binding; the new variables are free, the old ones as they were.
func TestFreshBound(t *testing.T) {
	s := with(t, 3, a, f("g", v(2)))
	freshens(t, s, f("f", v(0), v(1)), 2, f("f", v(3), v(4)), 5)
	if s.Mark() != 2 {
		t.Error("on the trail:", s.Mark())
	}
	for n, want := range []api.Term{a, f("g", v(2)), v(2), v(3), v(4)} {
		if got := s.Walk(v(n)); !term.Same(got, want) {
			t.Error(n, got)
		}
	}
}

// TestFreshNumbers: P13.2, a variable of any number is moved, whether there will be such a one or not.
func TestFreshNumbers(t *testing.T) {
	for _, n := range strange() {
		want := odd(api.Var, n+10, "X", odd(api.Var, n+10, ""))
		freshens(t, with(t, 10), odd(api.Var, n, "X", odd(api.Var, n, "")), 1, want, 11)
		freshens(t, with(t, 10), odd(api.Int, n, "X", v(1)), 0, odd(api.Int, n, "X", v(11)), 10)
		freshens(t, with(t, 10), sealed(n, v(1)), 0, sealed(n, v(11)), 10)
	}
}

// TestFreshMost: P13.2, there may be as many new variables as there is room for, and not one more; the error leaves the store as it was.
func TestFreshMost(t *testing.T) {
	x := f("f", v(0))
	for _, have := range []int{0, 1, 10, 4000, 4095, 4096} {
		room := 4096 - have
		freshensNot(t, with(t, have), x, room+1, api.ErrFull)
		freshensNot(t, with(t, have), x, math.MaxInt, api.ErrFull)
		freshensNot(t, with(t, have), x, math.MaxInt-have, api.ErrFull)
		s := with(t, have)
		freshens(t, s, x, room, f("f", v(have)), 4096)
		freshensNot(t, s, x, 1, api.ErrFull)
		freshens(t, s, x, 0, f("f", v(4096)), 4096)
	}
}

// TestFreshBelow: P13.2, a number below 0 is an error, also where there is no room.
func TestFreshBelow(t *testing.T) {
	for _, vars := range []int{-1, -2, -4096, -4097, math.MinInt + 1, math.MinInt} {
		for _, have := range []int{0, 1, 4096} {
			freshensNot(t, with(t, have), a, vars, api.ErrArg)
			freshensNot(t, with(t, have), f("f", v(0)), vars, api.ErrArg)
		}
	}
}

// TestCopy: P13.2, free variables become new ones, as they first occur, each one the same wherever it is.
func TestCopy(t *testing.T) {
	s := with(t, 10)
	copies(t, s, a, a, 10)
	copies(t, s, term.Num(3), term.Num(3), 10)
	copies(t, s, v(4), v(10), 11)
	copies(t, s, v(4), v(11), 12)
	copies(t, s, f("f", v(7), v(3), v(7), f("g", v(3), v(1), a)), f("f", v(12), v(13), v(12), f("g", v(13), v(14), a)), 15)
	copies(t, s, sealed(2, f("g", v(5)), v(4)), sealed(2, f("g", v(15)), v(16)), 17)
	copies(t, s, v(15), v(17), 18)
	if s.Mark() != 0 {
		t.Error("on the trail:", s.Mark())
	}
}

// TestCopyBound: P13.2, bound variables are replaced by their values, over as many bindings as there are, and only what is free then counts.
func TestCopyBound(t *testing.T) {
	s := with(t, 9, a, f("g", v(7), v(2)), v(3), v(4), f("h", v(8), v(0)), sealed(2, f("h", v(8), v(1))))
	copies(t, s, v(0), a, 9)
	copies(t, s, v(6), v(9), 10)
	copies(t, s, v(3), f("h", v(10), a), 11)
	copies(t, s, v(2), f("h", v(11), a), 12)
	copies(t, s, v(1), f("g", v(12), f("h", v(13), a)), 14)
	copies(t, s, v(5), sealed(2, f("h", v(14), f("g", v(15), f("h", v(14), a)))), 16)
	copies(t, s, f("f", v(0), v(8), v(2), v(7), v(1), v(6)), f("f", a, v(16), f("h", v(16), a), v(17), f("g", v(17), f("h", v(16), a)), v(18)), 19)
	if s.Mark() != 6 {
		t.Error("on the trail:", s.Mark())
	}
	for n, want := range []api.Term{a, f("g", v(7), v(2)), f("h", v(8), v(0)), f("h", v(8), v(0)), f("h", v(8), v(0)), sealed(2, f("h", v(8), v(1))), v(6), v(7), v(8)} {
		if got := s.Walk(v(n)); !term.Same(got, want) {
			t.Error(n, got)
		}
	}
	for n := range 10 {
		if got := s.Walk(v(9 + n)); !term.Same(got, v(9+n)) {
			t.Error(9+n, got)
		}
	}
}

// TestCopyFar: P13.2, the longest way over bindings that there may be ends in one new variable, or in none.
func TestCopyFar(t *testing.T) {
	s := with(t, 4095, lets(1, 4094)...)
	copies(t, s, f("f", v(0), v(4094), v(2000)), f("f", v(4095), v(4095), v(4095)), 4096)
	copiesNot(t, s, v(0), api.ErrFull)
	if e := s.Bind(4094, a); e != api.OK {
		t.Fatal(e)
	}
	copies(t, s, f("f", v(0), v(4094), v(2000)), f("f", a, a, a), 4096)
}

// TestCopyUndone: P13.2, what was undone is free again, and copied as that; new variables are not undone.
func TestCopyUndone(t *testing.T) {
	s := with(t, 2, a)
	copies(t, s, f("f", v(0), v(1)), f("f", a, v(2)), 3)
	s.Undo(0)
	copies(t, s, f("f", v(0), v(1)), f("f", v(3), v(4)), 5)
}

// TestCopyNumbers: P13.2, variables that the store has none of are free ones too, and become new ones; the other numbers stay.
func TestCopyNumbers(t *testing.T) {
	for _, n := range strange() {
		s := with(t, 3)
		x := odd(api.Var, n, "")
		copies(t, s, x, v(3), 4)
		copies(t, s, f("f", x, v(2), x, term.Num(n), sealed(n, x)), f("f", v(4), v(5), v(4), term.Num(n), sealed(n, v(4))), 6)
	}
	s := with(t, 3, a)
	copies(t, s, odd(api.Var, 1, "X", v(0), v(2), v(1)), odd(api.Var, 3, "X", a, v(4), v(3)), 5)
	copies(t, s, odd(9, 1, "X", v(0), v(2), v(1)), odd(9, 1, "X", a, v(5), v(6)), 7)
	copies(t, s, api.Term{}, api.Term{}, 7)
}

// TestCopyDeep: P13.2, a term that is too deep when it is full is refused, whether it is so itself or by what its variables are bound to.
func TestCopyDeep(t *testing.T) {
	s := with(t, 4, nest(58, v(3)), nest(59, v(3)), v(1))
	copies(t, s, nest(59, v(3)), nest(59, v(4)), 5)
	copiesNot(t, s, nest(60, v(3)), api.ErrDeep)
	copiesNot(t, s, nest(60, a), api.ErrDeep)
	copies(t, s, f("f", v(0)), f("f", nest(58, v(5))), 6)
	copies(t, s, v(2), nest(59, v(6)), 7)
	copiesNot(t, s, f("f", v(1)), api.ErrDeep)
	copiesNot(t, s, f("f", v(2)), api.ErrDeep)
	copiesNot(t, s, f("f", v(3), f("g", v(0))), api.ErrDeep)
	// A variable may be bound to a Seal of itself.
	copiesNot(t, with(t, 1, sealed(1, v(0))), v(0), api.ErrDeep)
}

// TestCopyGreat: P13.2, a term that has too many parts when it is full is refused, whether it is so itself or by what its variables are bound to.
func TestCopyGreat(t *testing.T) {
	s := with(t, 4, wide(some(497)...), wide(some(498)...), v(0))
	copies(t, s, wide(some(999)...), wide(some(999)...), 4)
	copiesNot(t, s, wide(some(1000)...), api.ErrFull)
	copies(t, s, wide(v(0), v(2), a, a, v(3)), wide(wide(some(497)...), wide(some(497)...), a, a, v(4)), 5)
	copies(t, s, wide(v(1), v(2), a, v(3)), wide(wide(some(498)...), wide(some(497)...), a, v(5)), 6)
	copiesNot(t, s, wide(v(1), v(2), a, v(3), a), api.ErrFull)
	copiesNot(t, s, wide(v(1), v(1), v(3), v(3)), api.ErrFull)
	copies(t, s, wide(v(1), v(1), v(3)), wide(wide(some(498)...), wide(some(498)...), v(6)), 7)
	// Doubled so often, a few variables lead to a great many parts.
	double := make([]api.Term, 20)
	for n := range double {
		double[n] = f("f", v(n+1), v(n+1))
	}
	s = with(t, 21, double...)
	little(t, func() { copiesNot(t, s, v(0), api.ErrFull) })
}

// TestCopyMost: P13.2, there may be as many new variables as there is room for, and not one more; those that are bound need no room.
func TestCopyMost(t *testing.T) {
	for _, vars := range []int{1, 2, 10, 999} {
		x, want := wide(lets(10, vars)...), wide(lets(4096-vars, vars)...)
		copies(t, with(t, 4096-vars), x, want, 4096)
		copiesNot(t, with(t, 4096-vars+1), x, api.ErrFull)
		copiesNot(t, with(t, 4096), x, api.ErrFull)
	}
	// The same one often needs room for one.
	copies(t, with(t, 4095), wide(slices.Repeat(lets(10, 1), 999)...), wide(slices.Repeat(lets(4095, 1), 999)...), 4096)
	s := with(t, 4096, a, f("g", v(0)))
	copies(t, s, f("f", v(1), v(0)), f("f", f("g", a), a), 4096)
	copiesNot(t, s, f("f", v(1), v(2)), api.ErrFull)
	copies(t, with(t, 4095, a), f("f", v(0), v(1)), f("f", a, v(4095)), 4096)
}

// TestCopyFirst: P13.2, the error of Full goes ahead of that of Fresh.
func TestCopyFirst(t *testing.T) {
	s := with(t, 4096)
	copiesNot(t, s, nest(60, v(3)), api.ErrDeep)
	copiesNot(t, s, f("f", v(1), nest(59, v(3))), api.ErrDeep)
	copiesNot(t, s, nest(59, v(3)), api.ErrFull)
}

// TestCopyTold: P13.2, Copy is Fresh of Norm of Full, with the number that Norm returns.
func TestCopyTold(t *testing.T) {
	for _, x := range samples() {
		s, o := with(t, 20, a, f("g", v(9)), v(1)), with(t, 20, a, f("g", v(9)), v(1))
		full, e := o.Full(x)
		if e != api.OK {
			t.Fatal(brief(x), e)
		}
		norm, vars := Norm(full)
		want, e := Fresh(o, norm, vars)
		if e != api.OK {
			t.Fatal(brief(x), e)
		}
		copies(t, s, x, want, count(o))
	}
}

// shared is a small value that is a term of a great many parts, as its lists are shared.
func shared() api.Term {
	x := v(0)
	for range 18 {
		x = wide(x, x)
	}
	return x
}

// little holds a call to far less memory than a copy of what shared returns would take.
func little(t *testing.T, call func()) {
	t.Helper()
	if n := testing.AllocsPerRun(1, call); n > 10000 {
		t.Error("pieces of memory:", n)
	}
}

// TestNilStore: P13.2, no store is an error, ahead of any other, and soon found, however great the term is.
func TestNilStore(t *testing.T) {
	for _, x := range append(samples(), a, nest(60, v(0)), wide(some(1000)...), shared()) {
		little(t, func() { copiesNot(t, nil, x, api.ErrNone) })
		for _, vars := range []int{0, 1, -1, 4096, 4097, math.MaxInt, math.MinInt} {
			little(t, func() { freshensNot(t, nil, x, vars, api.ErrNone) })
		}
	}
}

// TestRefusedSoon: P1, what is refused is refused soon, however great the term is.
func TestRefusedSoon(t *testing.T) {
	s, x := with(t, 1), shared()
	little(t, func() { freshensNot(t, s, x, 4096, api.ErrFull) })
	little(t, func() { freshensNot(t, s, x, -1, api.ErrArg) })
	little(t, func() { copiesNot(t, s, x, api.ErrFull) })
}

// whole is the full term of a store.
func whole(t *testing.T, s *store.Store, x api.Term) api.Term {
	t.Helper()
	full, e := s.Full(x)
	if e != api.OK {
		t.Fatal(brief(x), e)
	}
	return full
}

// isCopy holds a copy to being a variant of the full term, with variables only that were not there before.
func isCopy(t *testing.T, s *store.Store, x api.Term) {
	t.Helper()
	full, before := whole(t, s, x), count(s)
	y, e := Copy(s, x)
	if e != api.OK {
		t.Fatal(brief(x), e)
	}
	if !Variant(y, full) || !Variant(full, y) {
		t.Errorf("%s is no variant of %s", brief(y), brief(full))
	}
	vars := term.Vars(y)
	for k, n := range vars {
		if n != before+k || !term.Same(s.Walk(v(n)), v(n)) {
			t.Errorf("copy of %s with %d variables: variable %d is %d", brief(x), before, k, n)
		}
	}
	counts(t, s, before+len(vars))
	if again := whole(t, s, y); !term.Same(again, y) {
		t.Errorf("%s is full as %s", brief(y), brief(again))
	}
}

// TestCopyIs: P13.3, a copy is a variant of the full term, of new variables.
func TestCopyIs(t *testing.T) {
	s := with(t, 20, a, f("g", v(9)), v(1), sealed(1, v(8)))
	for range 3 {
		for _, x := range append(samples(), v(0), v(1), v(2), v(3), v(4), a) {
			isCopy(t, s, x)
		}
	}
}

// TestCopyApart: P13.3, what is bound in a copy is not so in what it is a copy of, nor the other way, nor in another copy.
func TestCopyApart(t *testing.T) {
	b, c, d := term.Atom("b"), term.Atom("c"), term.Atom("d")
	bind := func(s *store.Store, n int, x api.Term) {
		if e := s.Bind(n, x); e != api.OK {
			t.Fatal(n, e)
		}
	}
	full := func(s *store.Store, x, want api.Term) {
		t.Helper()
		if got := whole(t, s, x); !term.Same(got, want) {
			t.Error(brief(x), brief(got))
		}
	}
	s := with(t, 4, a, f("g", v(2)))
	x := f("f", v(0), v(1), v(3), v(2))
	copies(t, s, x, f("f", a, f("g", v(4)), v(5), v(4)), 6)
	copies(t, s, x, f("f", a, f("g", v(6)), v(7), v(6)), 8)
	one, two := f("f", a, f("g", v(4)), v(5), v(4)), f("f", a, f("g", v(6)), v(7), v(6))
	bind(s, 4, b)
	full(s, one, f("f", a, f("g", b), v(5), b))
	full(s, x, f("f", a, f("g", v(2)), v(3), v(2)))
	full(s, two, two)
	bind(s, 2, c)
	full(s, one, f("f", a, f("g", b), v(5), b))
	full(s, x, f("f", a, f("g", c), v(3), c))
	full(s, two, two)
	bind(s, 7, d)
	full(s, one, f("f", a, f("g", b), v(5), b))
	full(s, x, f("f", a, f("g", c), v(3), c))
	full(s, two, f("f", a, f("g", v(6)), d, v(6)))
	// A copy of a copy, and what was bound behind the copy undone.
	copies(t, s, one, f("f", a, f("g", b), v(8), b), 9)
	s.Undo(2)
	full(s, x, f("f", a, f("g", v(2)), v(3), v(2)))
	full(s, one, one)
	full(s, two, two)
	// What was bound as it was copied is there for good.
	s.Undo(0)
	full(s, x, x)
	full(s, one, one)
}

// TestCopyTwo: P13.3, two copies, one behind the other, are variants of each other and have no variable in common.
func TestCopyTwo(t *testing.T) {
	for _, x := range samples() {
		s := with(t, 20, a, f("g", v(9)))
		one, e := Copy(s, x)
		two, g := Copy(s, x)
		if e != api.OK || g != api.OK || !Variant(one, two) || !Variant(two, one) {
			t.Error(brief(x), brief(one), e, brief(two), g)
		}
		for _, n := range term.Vars(one) {
			if slices.Contains(term.Vars(two), n) || slices.Contains(term.Vars(x), n) {
				t.Error(brief(x), brief(one), brief(two), n)
			}
		}
	}
}

// samples are terms of all kinds, with variables.
func samples() []api.Term {
	return []api.Term{
		v(5), f("f", v(7), v(3), v(7)), f("f", v(0), v(1), v(2), v(3)), f("f", a, f("g", v(2), sealed(2, f("h", v(9)))), term.Num(7)),
		odd(api.Var, 6, "X", v(1), odd(9, 6, "Y", v(6))), nest(30, f("f", v(4), v(4), v(-4))), sealed(7, v(8), v(1)), f("f", v(5000), v(-1), v(5000)),
		wide(lets(3, 17)...),
	}
}

// TestUnchanged: R3, no call changes its terms, nor does what is done to a result.
func TestUnchanged(t *testing.T) {
	for k := range samples() {
		for name, call := range map[string]func(api.Term) *api.Term{
			"Norm":    func(x api.Term) *api.Term { y, _ := Norm(x); return &y },
			"Fresh":   func(x api.Term) *api.Term { y, _ := Fresh(with(t, 30), x, 5); return &y },
			"Fresh 0": func(x api.Term) *api.Term { y, _ := Fresh(store.New(), x, 0); return &y },
			"Copy":    func(x api.Term) *api.Term { y, _ := Copy(with(t, 30, a, f("g", v(9))), x); return &y },
			"Variant": func(x api.Term) *api.Term { Variant(x, x); Variant(x, a); Variant(a, x); return &api.Term{} },
		} {
			x, want := samples()[k], samples()[k]
			y := call(x)
			if !reflect.DeepEqual(x, want) {
				t.Errorf("%s changed %s to %s", name, brief(want), brief(x))
			}
			spoil(y)
			if !reflect.DeepEqual(x, want) {
				t.Errorf("%s shares with %s", name, brief(want))
			}
		}
	}
}

// TestRoomBehind: R3, what stands behind a list of Kids, where there is room for more, stays as it is.
func TestRoomBehind(t *testing.T) {
	kids := []api.Term{v(3), v(4), v(5), v(6)}
	x := wide(kids[:2]...)
	Norm(x)
	Variant(x, a)
	Fresh(with(t, 9), x, 2)
	Copy(with(t, 9, v(7)), x)
	for k, kid := range kids {
		if !term.Same(kid, v(3+k)) {
			t.Error(k, kid)
		}
	}
}

// TestListsApart: R3, no two lists of one result are the same memory, also where they are in what was given.
func TestListsApart(t *testing.T) {
	both := f("g", v(3), a)
	x := wide(both, both, both)
	for name, y := range map[string]api.Term{"Norm": first(Norm(x)), "Fresh": first(Fresh(store.New(), x, 0)), "Copy": first(Copy(with(t, 4), x))} {
		want := f("g", y.Kids[0].Kids[0], a)
		spoil(&y.Kids[1])
		if !term.Same(y.Kids[0], want) || !term.Same(y.Kids[2], want) {
			t.Error(name, brief(y))
		}
	}
}

// first is the first one of two results.
func first[A, B any](x A, _ B) A {
	return x
}

// TestNothingKept: R3 and R4, a result does not change with what was given, and a store not with either.
func TestNothingKept(t *testing.T) {
	s := with(t, 9, f("g", v(8)))
	x := f("f", v(0), v(5), sealed(1, v(5)))
	norm, _ := Norm(x)
	y, _ := Copy(s, x)
	z, _ := Fresh(s, x, 3)
	spoil(&x)
	for k, p := range [][2]api.Term{{norm, f("f", v(0), v(1), sealed(1, v(1)))}, {y, f("f", f("g", v(9)), v(10), sealed(1, v(10)))}, {z, f("f", v(11), v(16), sealed(1, v(16)))}} {
		if !term.Same(p[0], p[1]) {
			t.Error(k, brief(p[0]))
		}
	}
	spoil(&norm)
	spoil(&y)
	spoil(&z)
	if got := s.Walk(v(0)); !term.Same(got, f("g", v(8))) {
		t.Error(brief(got))
	}
	copies(t, s, v(0), f("g", v(14)), 15)
}

// TestStoresApart: R4, what is done with one store changes nothing in another.
func TestStoresApart(t *testing.T) {
	one, two := with(t, 2, a), with(t, 5)
	x := f("f", v(0), v(1))
	for k := range 5 {
		copies(t, one, x, f("f", a, v(2+k)), 3+k)
		copies(t, two, x, f("f", v(5+3*k), v(6+3*k)), 7+3*k)
		freshens(t, two, v(0), 1, v(7+3*k), 8+3*k)
	}
}

// TestTogether: R4, calls that run at the same time, on stores of their own, answer as they do alone.
func TestTogether(t *testing.T) {
	x := f("f", v(3), f("g", v(0), v(2)), v(3), v(-1))
	var wait sync.WaitGroup
	for range 8 {
		wait.Add(1)
		go func() {
			defer wait.Done()
			for range 100 {
				s := store.New()
				s.Fresh(4)
				s.Bind(0, a)
				copies(t, s, x, f("f", v(4), f("g", a, v(5)), v(4), v(6)), 7)
				norms(t, x, f("f", v(0), f("g", v(1), v(2)), v(0), v(3)), 4)
				varies(t, x, f("f", v(0), f("g", v(1), v(2)), v(0), v(2)), false)
			}
		}()
	}
	wait.Wait()
}

// TestDeep: P1, terms as deep as they may come, and as wide, end soon.
func TestDeep(t *testing.T) {
	deep := v(9)
	for k := range 1 << 16 {
		deep = wide(deep, v(k))
	}
	many := make([]api.Term, 1<<17)
	for k := range many {
		many[k] = v(3 * k)
	}
	for _, x := range []api.Term{deep, wide(many...)} {
		soon(t, func() {
			norm, vars := Norm(x)
			if want := len(term.Vars(x)); vars != want || len(term.Vars(norm)) != want {
				t.Error(vars, want)
			}
			for k, n := range term.Vars(norm) {
				if n != k {
					t.Fatal(n, k)
				}
			}
			varies(t, x, norm, true)
			varies(t, x, wide(x), false)
			y, e := Fresh(with(t, 7), x, 9)
			if e != api.OK || !term.Same(y, term.Shift(x, 7)) {
				t.Error(e)
			}
		})
	}
	soon(t, func() {
		copiesNot(t, with(t, 7), deep, api.ErrDeep)
		copiesNot(t, with(t, 7), wide(many...), api.ErrFull)
	})
}

// wantVars are the variables of a term as chapter 3 tells it, found without a map.
func wantVars(x api.Term, vars []int64) []int64 {
	if x.Kind == api.Var && !slices.Contains(vars, x.N) {
		vars = append(vars, x.N)
	}
	for _, kid := range x.Kids {
		vars = wantVars(kid, vars)
	}
	return vars
}

// wantNorm is x with each variable as what its index among vars is.
func wantNorm(x api.Term, vars []int64) api.Term {
	if x.Kind == api.Var {
		x.N = int64(slices.Index(vars, x.N))
	}
	x.Kids = slices.Clone(x.Kids)
	for k := range x.Kids {
		x.Kids[k] = wantNorm(x.Kids[k], vars)
	}
	return x
}

// wantVariant reports whether each variable of x stands where one of y does, and all else is the same; pairs are the variables met so far.
func wantVariant(x, y api.Term, pairs *[][2]int64) bool {
	if x.Kind != y.Kind || x.S != y.S || len(x.Kids) != len(y.Kids) {
		return false
	}
	if x.Kind != api.Var && x.N != y.N {
		return false
	}
	if x.Kind == api.Var {
		for _, p := range *pairs {
			if (p[0] == x.N) != (p[1] == y.N) {
				return false
			}
		}
		*pairs = append(*pairs, [2]int64{x.N, y.N})
	}
	for k := range x.Kids {
		if !wantVariant(x.Kids[k], y.Kids[k], pairs) {
			return false
		}
	}
	return true
}

// maker makes terms at random, of so few names and numbers that they are often alike.
type maker struct {
	*rand.Rand
}

// term makes a term that is at most so deep; plain ones are valid, but for variables within Seals.
func (m maker) term(deep int, plain bool) api.Term {
	kind := m.Intn(7)
	switch {
	case !plain && m.Intn(12) == 0:
		return odd(m.Intn(7)-1, m.number(), []string{"", "a", "X"}[m.Intn(3)], m.kids(deep)...)
	case kind < 3 || deep <= 1 && kind < 5:
		return odd(api.Var, m.number(), "")
	case kind == 3 || deep <= 1:
		return []api.Term{a, term.Atom("b"), term.Num(0), term.Num(1)}[m.Intn(4)]
	case kind == 4:
		return sealed(int64(m.Intn(2)), m.term(deep-1, plain))
	}
	return odd(api.Fun, 0, []string{"f", "g"}[m.Intn(2)], m.kids(deep)...)
}

// number is that of a variable, mostly one that a store of 6 has.
func (m maker) number() int64 {
	if m.Intn(10) == 0 {
		return strange()[m.Intn(len(strange()))]
	}
	return int64(m.Intn(6))
}

// kids are some terms that are less deep.
func (m maker) kids(deep int) []api.Term {
	if deep <= 1 {
		return nil
	}
	kids := make([]api.Term, m.Intn(4))
	for k := range kids {
		kids[k] = m.term(deep-1, m.Intn(2) == 0)
	}
	return kids
}

// great makes a term that has some Kids, of which each is at most so deep.
func (m maker) great(deep int, plain bool) api.Term {
	kids := make([]api.Term, 1+m.Intn(4))
	for k := range kids {
		kids[k] = m.term(deep, plain)
	}
	return wide(kids...)
}

// like is x with its variables called otherwise, and now and then with one of its parts changed.
func (m maker) like(x api.Term, to []int) api.Term {
	if m.Intn(20) == 0 {
		return m.term(2, false)
	}
	if x.Kind == api.Var && x.N >= 0 && x.N < int64(len(to)) {
		x.N = int64(to[x.N])
	}
	x.Kids = slices.Clone(x.Kids)
	for k := range x.Kids {
		x.Kids[k] = m.like(x.Kids[k], to)
	}
	return x
}

// store is one of 6 variables or more, some of which are bound.
func (m maker) store(t *testing.T) *store.Store {
	t.Helper()
	s := with(t, 6+m.Intn(3))
	for range m.Intn(6) {
		s.Bind(m.Intn(6), m.term(3, true))
	}
	return s
}

// TestAnyNorm: P13.1, Norm and Variant of any terms, as the words tell it.
func TestAnyNorm(t *testing.T) {
	m := maker{rand.New(rand.NewSource(1))}
	yes := 0
	for range 30000 {
		x := m.great(3, false)
		vars := wantVars(x, nil)
		norms(t, x, wantNorm(x, vars), len(vars))
		y := m.like(x, m.Perm(6))
		if m.Intn(3) == 0 {
			y = m.like(x, []int{0, 1, 2, 3, m.Intn(6), m.Intn(6)})
		}
		want := wantVariant(x, y, &[][2]int64{})
		varies(t, x, y, want)
		if want {
			yes++
		}
	}
	if yes < 5000 || yes > 25000 {
		t.Error("variants:", yes)
	}
}

// TestAnyCopy: P13.2 and P13.3, Copy of any term in any store, as the words tell it.
func TestAnyCopy(t *testing.T) {
	m := maker{rand.New(rand.NewSource(2))}
	errs := map[api.Errno]int{}
	for range 20000 {
		s, x := m.store(t), m.great(3, false)
		before, mark := count(s), s.Mark()
		full, e := s.Full(x)
		errs[e]++
		if e != api.OK {
			copiesNot(t, s, x, e)
			continue
		}
		vars := wantVars(full, nil)
		copies(t, s, x, term.Shift(wantNorm(full, vars), before), before+len(vars))
		if s.Mark() != mark {
			t.Error("on the trail:", s.Mark(), mark)
		}
		if again := whole(t, s, x); !term.Same(again, full) {
			t.Errorf("Copy of %s: it is full as %s; was %s", brief(x), brief(again), brief(full))
		}
		isCopy(t, s, x)
	}
	if errs[api.OK] < 10000 || errs[api.ErrDeep] == 0 {
		t.Error(errs)
	}
}

// TestAnyApart: P13.3, what is bound in a copy of any term leaves the full term as it was, and the other way round.
func TestAnyApart(t *testing.T) {
	m := maker{rand.New(rand.NewSource(3))}
	bound := 0
	for range 5000 {
		s, x := m.store(t), m.great(3, true)
		full, e := s.Full(x)
		if e != api.OK {
			continue
		}
		y, e := Copy(s, x)
		if e != api.OK {
			t.Fatal(brief(x), e)
		}
		mark := s.Mark()
		for _, n := range term.Vars(y) {
			if s.Bind(n, f("new", term.Num(int64(n)))) == api.OK {
				bound++
			}
		}
		if got := whole(t, s, x); !term.Same(got, full) {
			t.Errorf("bound in the copy: %s is %s; was %s", brief(x), brief(got), brief(full))
		}
		s.Undo(mark)
		for _, n := range term.Vars(full) {
			s.Bind(n, f("new", term.Num(int64(n))))
		}
		if got := whole(t, s, y); !term.Same(got, y) {
			t.Errorf("bound in the term: its copy %s is %s", brief(y), brief(got))
		}
	}
	if bound < 5000 {
		t.Error("bound:", bound)
	}
}
