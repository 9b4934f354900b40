package store

import (
	"fmt"
	"math"
	"math/rand"
	"reflect"
	"slices"
	"testing"
	"time"

	"torchere/api"
	"torchere/term"
)

// sealed is a Seal of that number around these, as they are and not copied.
func sealed(n int64, kids ...api.Term) api.Term {
	return api.Term{Kind: api.Seal, N: n, Kids: kids}
}

// odd is a term of that Kind, which need not be one that there is, with all fields filled.
func odd(kind int, n int64, s string, kids ...api.Term) api.Term {
	return api.Term{Kind: kind, N: n, S: s, Kids: kids}
}

// some is a list of that many atoms.
func some(n int) []api.Term {
	return slices.Repeat([]api.Term{term.Atom("a")}, n)
}

// nest is core with that many Funs of one Kid around it.
func nest(deep int, core api.Term) api.Term {
	for range deep {
		core = odd(api.Fun, 0, "n", core)
	}
	return core
}

// brief is how a term begins, so that a fault of a great one can be read.
func brief(x api.Term) string {
	return fmt.Sprintf("%.200q", fmt.Sprint(x))
}

// spoil changes every part of a term where it stands, and what there is room for behind its lists.
func spoil(x *api.Term) {
	for k := range x.Kids {
		spoil(&x.Kids[k])
	}
	room := x.Kids[:cap(x.Kids)]
	for k := range room {
		room[k] = odd(99, 99, "spoilt")
	}
	*x = odd(99, 99, "spoilt")
}

// soon fails if a call does not end.
func soon(t *testing.T, call func()) {
	t.Helper()
	done := make(chan struct{})
	go func() {
		defer close(done)
		call()
	}()
	select {
	case <-done:
	case <-time.After(time.Minute):
		t.Fatal("there is no end")
	}
}

// with is a new store of that many variables.
func with(t *testing.T, n int) *Store {
	t.Helper()
	s := New()
	freshens(t, s, n, 0, api.OK)
	return s
}

// bound is a new store of that many variables, of which the first ones are bound to these, in order.
func bound(t *testing.T, n int, values ...api.Term) *Store {
	t.Helper()
	s := with(t, n)
	for v, x := range values {
		binds(t, s, v, x, api.OK)
	}
	return s
}

// values are what the variables of a store lead to, and how many were bound.
func values(s *Store) ([]api.Term, int) {
	var l []api.Term
	for v := range api.MaxVars {
		if x := s.Walk(term.Let(v)); !term.Same(x, term.Let(v)) {
			l = append(l, term.Let(v), x)
		}
	}
	return l, s.Mark()
}

// freshens holds Fresh to that number and that error.
func freshens(t *testing.T, s *Store, n, want int, e api.Errno) {
	t.Helper()
	if first, got := s.Fresh(n); first != want || got != e {
		t.Errorf("Fresh of %d: %d, %v; want %d, %v", n, first, got, want, e)
	}
}

// binds holds Bind to that error, and to no change if it is one.
func binds(t *testing.T, s *Store, v int, x api.Term, e api.Errno) {
	t.Helper()
	mark := s.Mark()
	if got := s.Bind(v, x); got != e {
		t.Errorf("Bind of %d to %s: %v; want %v", v, brief(x), got, e)
	}
	if e == api.OK {
		mark++
	}
	if s.Mark() != mark {
		t.Errorf("Bind of %d to %s: the trail is %d long; want %d", v, brief(x), s.Mark(), mark)
	}
}

// walks holds Walk to that term.
func walks(t *testing.T, s *Store, x, want api.Term) {
	t.Helper()
	if got := s.Walk(x); !term.Same(got, want) {
		t.Errorf("Walk of %s: %s; want %s", brief(x), brief(got), brief(want))
	}
}

// fills holds Full to that term.
func fills(t *testing.T, s *Store, x, want api.Term) {
	t.Helper()
	if got, e := s.Full(x); e != api.OK || !term.Same(got, want) {
		t.Errorf("Full of %s: %s, %v; want %s", brief(x), brief(got), e, brief(want))
	}
}

// refuses holds Full to that error, and to no term beside it.
func refuses(t *testing.T, s *Store, x api.Term, e api.Errno) {
	t.Helper()
	if got, g := s.Full(x); g != e || !reflect.DeepEqual(got, api.Term{}) {
		t.Errorf("Full of %s: %s, %v; want %v", brief(x), brief(got), g, e)
	}
}

// has holds Has to that answer.
func has(t *testing.T, s *Store, x api.Term, v int, want bool) {
	t.Helper()
	if got := s.Has(x, v); got != want {
		t.Errorf("Has of %s and %d: %v", brief(x), v, got)
	}
}

// TestExample: P10.2, the chapter's example, in either order of binding.
func TestExample(t *testing.T) {
	x, y, a := term.Let(0), term.Let(1), term.Atom("a")
	s := with(t, 2)
	binds(t, s, 0, term.Make("f", y), api.OK)
	binds(t, s, 1, a, api.OK)
	fills(t, s, x, term.Make("f", a))
	s.Undo(0)
	binds(t, s, 1, a, api.OK)
	binds(t, s, 0, term.Make("f", y), api.OK)
	fills(t, s, x, term.Make("f", a))
}

// TestFresh: P10.1, numbers go up from 0, and each call returns the first one of its own.
func TestFresh(t *testing.T) {
	s := New()
	freshens(t, s, 0, 0, api.OK)
	freshens(t, s, 0, 0, api.OK)
	freshens(t, s, 3, 0, api.OK)
	freshens(t, s, 0, 3, api.OK)
	freshens(t, s, 1, 3, api.OK)
	freshens(t, s, 10, 4, api.OK)
	freshens(t, s, 1, 14, api.OK)
	for v := range 15 {
		walks(t, s, term.Let(v), term.Let(v))
		has(t, s, term.Let(v), v, true)
	}
	for v := range 15 {
		binds(t, s, v, term.Num(int64(v)), api.OK)
	}
	binds(t, s, 15, term.Num(15), api.ErrNone)
}

// TestFreshMost: P10.1, there may be 4096 variables and none more, however they come.
func TestFreshMost(t *testing.T) {
	freshens(t, New(), 4097, 0, api.ErrFull)
	freshens(t, New(), math.MaxInt, 0, api.ErrFull)
	s := New()
	freshens(t, s, 4097, 0, api.ErrFull)
	freshens(t, s, 4096, 0, api.OK)
	freshens(t, s, 0, 4096, api.OK)
	freshens(t, s, 1, 0, api.ErrFull)
	freshens(t, s, -1, 0, api.ErrArg)
	binds(t, s, 4095, term.Atom("a"), api.OK)
	binds(t, s, 4096, term.Atom("a"), api.ErrNone)
	s = with(t, 1)
	freshens(t, s, 4096, 0, api.ErrFull)
	freshens(t, s, math.MaxInt, 0, api.ErrFull)
	freshens(t, s, math.MaxInt-1, 0, api.ErrFull)
	freshens(t, s, 4095, 1, api.OK)
	freshens(t, s, 1, 0, api.ErrFull)
	s = New()
	for v := range 4096 {
		freshens(t, s, 1, v, api.OK)
	}
	freshens(t, s, 1, 0, api.ErrFull)
	freshens(t, s, math.MaxInt, 0, api.ErrFull)
}

// TestFreshBelow: P10.1, a number below 0 goes before all else, and changes nothing.
func TestFreshBelow(t *testing.T) {
	s := with(t, 2)
	for _, n := range []int{-1, -2, -4096, -4097, math.MinInt + 1, math.MinInt} {
		freshens(t, s, n, 0, api.ErrArg)
		freshens(t, New(), n, 0, api.ErrArg)
	}
	binds(t, s, 1, term.Atom("a"), api.OK)
	binds(t, s, 2, term.Atom("a"), api.ErrNone)
	freshens(t, s, 1, 2, api.OK)
}

// TestFreshAmong: P10.1, new variables are free and change nothing of those that there are; Undo takes none away.
func TestFreshAmong(t *testing.T) {
	a := term.Atom("a")
	s := bound(t, 2, a)
	freshens(t, s, 3, 2, api.OK)
	walks(t, s, term.Let(0), a)
	walks(t, s, term.Let(2), term.Let(2))
	binds(t, s, 4, term.Make("f", term.Let(0), term.Let(3)), api.OK)
	s.Undo(0)
	freshens(t, s, 1, 5, api.OK)
	for v := range 6 {
		binds(t, s, v, a, api.OK)
	}
}

// TestWalk: P10.1, a bound variable leads to its value, over as many bindings as there are, and no further than to it.
func TestWalk(t *testing.T) {
	f, a, v := term.Make, term.Atom("a"), term.Let
	x, y := f("f", v(3), v(9)), sealed(1, v(4))
	s := bound(t, 12, v(1), v(2), x, v(5), a, v(6), v(7), y, term.Num(-7))
	for n, want := range []api.Term{x, x, x, y, a, y, y, y, term.Num(-7), v(9), v(10), v(11)} {
		walks(t, s, v(n), want)
		// A variable's other fields don't count.
		if n < 9 {
			walks(t, s, odd(api.Var, int64(n), "X", v(4), a), want)
		}
	}
}

// TestWalkOthers: P10.1, what is no bound variable of the store is returned as it is, whatever is in it.
func TestWalkOthers(t *testing.T) {
	f, a, v := term.Make, term.Atom("a"), term.Let
	s := bound(t, 3, a, v(2))
	for _, x := range []api.Term{
		{}, a, term.Num(0), term.Num(1), v(2), v(3), v(4095), v(4096), v(-1), v(math.MaxInt), v(math.MinInt), odd(api.Var, 1<<32, ""), odd(api.Var, 1<<32+1, ""), odd(api.Var, -1<<32, ""),
		f("f", v(0), v(1)), sealed(0, v(0)), sealed(0), sealed(1, v(0), v(1)), odd(api.Int, 0, "", v(0)), odd(api.Fun, 0, ""), odd(api.Var, 2, "X", v(0)), odd(api.Var, 3, "", v(1)),
		odd(0, 0, ""), odd(5, 0, "", v(0)), odd(-1, 1, ""), odd(1<<32+api.Var, 0, ""), odd(1<<8+api.Var, 0, ""), odd(math.MinInt, 0, ""), odd(math.MaxInt, 1, "s", v(1)),
	} {
		walks(t, s, x, x)
	}
}

// TestWalkFar: P10.1, over as many bindings as there may be.
func TestWalkFar(t *testing.T) {
	s := with(t, 4096)
	for n := range 4095 {
		binds(t, s, n, term.Let(n+1), api.OK)
	}
	walks(t, s, term.Let(0), term.Let(4095))
	fills(t, s, term.Let(0), term.Let(4095))
	has(t, s, term.Let(0), 4095, true)
	binds(t, s, 4095, term.Let(0), api.ErrForm)
	binds(t, s, 4095, term.Atom("a"), api.OK)
	for n := range 4096 {
		walks(t, s, term.Let(n), term.Atom("a"))
	}
	fills(t, s, term.Make("f", term.Let(0), term.Let(2000)), term.Make("f", some(2)...))
}

// TestBindNone: P10.1, what is not the number of a variable can't be bound, and that goes before all else.
func TestBindNone(t *testing.T) {
	a := term.Atom("a")
	for _, v := range []int{0, 1, -1, 4095, 4096, math.MaxInt, math.MinInt} {
		binds(t, New(), v, a, api.ErrNone)
		binds(t, New(), v, term.Let(v), api.ErrNone)
	}
	s := bound(t, 3, a)
	for _, v := range []int{3, 4, -1, -2, -3, 4095, 4096, 1 << 32, 1<<32 + 1, math.MaxInt, math.MinInt} {
		binds(t, s, v, a, api.ErrNone)
		binds(t, s, v, term.Let(v), api.ErrNone)
		binds(t, s, v, term.Make("f", term.Let(v), term.Let(0)), api.ErrNone)
	}
	if l, mark := values(s); mark != 1 || !slices.EqualFunc(l, []api.Term{term.Let(0), a}, term.Same) {
		t.Error(l, mark)
	}
}

// TestBindThere: P10.1, a variable that is bound stays bound to what it is, whatever the new term is.
func TestBindThere(t *testing.T) {
	f, a, b, v := term.Make, term.Atom("a"), term.Atom("b"), term.Let
	s := bound(t, 4, a, v(3))
	for _, x := range []api.Term{a, b, v(0), v(1), v(2), v(3), f("f", v(0), v(1), v(3)), sealed(1, v(0)), {}} {
		binds(t, s, 0, x, api.ErrThere)
		binds(t, s, 1, x, api.ErrThere)
	}
	walks(t, s, v(0), a)
	walks(t, s, v(1), v(3))
	// The variable that it is bound to is another one.
	binds(t, s, 3, b, api.OK)
	walks(t, s, v(1), b)
	binds(t, s, 1, b, api.ErrThere)
	s.Undo(0)
	binds(t, s, 0, v(0), api.ErrForm)
	binds(t, s, 0, b, api.OK)
}

// TestBindForm: P10.1, no variable is bound to itself or to a term that has it, directly or through bindings.
func TestBindForm(t *testing.T) {
	f, a, v := term.Make, term.Atom("a"), term.Let
	s := bound(t, 9, v(4), f("g", a, v(5)), sealed(1, v(6)), f("h", v(0), f("i", v(1))))
	for n, terms := range map[int][]api.Term{
		4: {v(4), v(0), odd(api.Var, 4, "X", a), odd(api.Var, 0, "X", a), f("f", v(4)), f("f", a, f("f", v(7), v(0)), a), v(3), f("f", v(3)), odd(api.Int, 3, "", v(4)), odd(7, 3, "", a, v(0)), f("f", sealed(1, v(4)), v(4))},
		5: {v(5), v(1), v(3), f("f", v(5)), f("f", v(1)), f("f", v(2), v(3)), odd(-1, 0, "", v(3))},
		6: {v(6), f("f", v(6)), f("f", sealed(1, v(6)), v(6))},
		8: {v(8), f("f", a, a, a, a, a, a, a, v(8)), nest(100, v(8))},
	} {
		for _, x := range terms {
			before, mark := values(s)
			binds(t, s, n, x, api.ErrForm)
			if after, now := values(s); now != mark || !slices.EqualFunc(before, after, term.Same) {
				t.Fatalf("Bind of %d to %s has changed the store", n, brief(x))
			}
		}
	}
}

// TestBindSeals: P10.1, what is within Seals, or in the Kids of a variable, does not stop a binding.
func TestBindSeals(t *testing.T) {
	f, a, v := term.Make, term.Atom("a"), term.Let
	for _, x := range []api.Term{
		sealed(1, v(0)), sealed(1, sealed(2, v(0))), f("f", sealed(0, v(0))), f("f", a, f("f", sealed(0, f("f", a, v(0))))),
		sealed(1, v(0), a), sealed(-5, v(0)), v(2), f("f", v(2)), odd(api.Var, 1, "", v(0)), f("f", odd(api.Var, 7, "", f("f", v(0)))),
	} {
		s := with(t, 3)
		binds(t, s, 2, sealed(1, v(0)), api.OK)
		binds(t, s, 0, x, api.OK)
		walks(t, s, v(0), s.Walk(x))
		has(t, s, v(0), 0, false)
		binds(t, s, 0, a, api.ErrThere)
	}
}

// TestBindAny: P10.1, a variable is bound to a term of any form, and of any size and depth.
func TestBindAny(t *testing.T) {
	for _, x := range []api.Term{
		{}, term.Num(math.MinInt64), term.Atom(""), term.Let(1), term.Let(2), term.Let(-1), term.Let(math.MaxInt), sealed(0), sealed(99, term.Atom("a"), term.Let(1)), odd(9, 9, "s", term.Let(1)),
		odd(api.Int, 3, "s", term.Num(1)), odd(api.Fun, 3, string(slices.Repeat([]byte{'a'}, 1000))), nest(3000, term.Let(1)), term.Make("f", some(5000)...),
	} {
		s := bound(t, 2, x)
		walks(t, s, term.Let(0), x)
	}
}

// TestBindAhead: P10.1, a number that a term has ahead of there being that variable is that variable once there is.
func TestBindAhead(t *testing.T) {
	f, a, v := term.Make, term.Atom("a"), term.Let
	s := bound(t, 2, v(2), f("f", v(3), v(2)))
	walks(t, s, v(0), v(2))
	has(t, s, v(1), 3, true)
	binds(t, s, 2, a, api.ErrNone)
	freshens(t, s, 2, 2, api.OK)
	binds(t, s, 2, v(0), api.ErrForm)
	binds(t, s, 3, f("g", v(1)), api.ErrForm)
	binds(t, s, 2, a, api.OK)
	walks(t, s, v(0), a)
	binds(t, s, 3, v(0), api.OK)
	fills(t, s, v(1), f("f", a, a))
}

// TestMark: P10.2, the trail is as long as variables were bound; nothing else counts.
func TestMark(t *testing.T) {
	s := New()
	for k := range 5 {
		if s.Mark() != 0 {
			t.Error(k, s.Mark())
		}
		switch k {
		case 0:
			freshens(t, s, 10, 0, api.OK)
		case 1:
			binds(t, s, 10, term.Atom("a"), api.ErrNone)
		case 2:
			binds(t, s, 1, term.Let(1), api.ErrForm)
		case 3:
			s.Undo(0)
		}
	}
	for k, v := range []int{3, 9, 0, 5} {
		binds(t, s, v, term.Atom("a"), api.OK)
		binds(t, s, v, term.Atom("a"), api.ErrThere)
		if s.Mark() != k+1 {
			t.Error(v, s.Mark())
		}
	}
	s.Walk(term.Let(0))
	s.Full(term.Let(0))
	s.Has(term.Let(0), 0)
	if s.Mark() != 4 || New().Mark() != 0 {
		t.Error(s.Mark(), New().Mark())
	}
}

// order are variables in the order in which TestUndo binds them, which is not that of their numbers.
var order = []int{4, 0, 5, 2, 6, 1}

// ordered is a store in which these are bound, each to its own number.
func ordered(t *testing.T) *Store {
	t.Helper()
	s := with(t, 7)
	for _, v := range order {
		binds(t, s, v, term.Num(int64(v)), api.OK)
	}
	return s
}

// holds holds a store to have just the first of these variables bound.
func holds(t *testing.T, s *Store, first int) {
	t.Helper()
	if s.Mark() != first {
		t.Errorf("the trail is %d long; want %d", s.Mark(), first)
	}
	for k, v := range order {
		want := term.Let(v)
		if k < first {
			want = term.Num(int64(v))
		}
		walks(t, s, term.Let(v), want)
		fills(t, s, term.Let(v), want)
		has(t, s, term.Let(v), v, k >= first)
	}
	walks(t, s, term.Let(3), term.Let(3))
}

// TestUndo: P10.2 and P10.3, to each mark, once and twice: those that were bound first stay bound, the others are free.
func TestUndo(t *testing.T) {
	for mark := range 7 {
		s := ordered(t)
		for range 2 {
			s.Undo(mark)
			holds(t, s, mark)
		}
		for _, v := range order[mark:] {
			binds(t, s, v, term.Num(int64(v)), api.OK)
		}
		holds(t, s, 6)
		s.Undo(mark)
		holds(t, s, mark)
	}
}

// TestUndoBeyond: P10.2, a mark below 0 frees all, and one above the length of the trail none.
func TestUndoBeyond(t *testing.T) {
	for _, mark := range []int{-1, -2, -6, -7, math.MinInt, 0} {
		s := ordered(t)
		s.Undo(mark)
		holds(t, s, 0)
		s.Undo(mark)
		holds(t, s, 0)
	}
	for _, mark := range []int{6, 7, 8, 12, 4096, 1 << 32, math.MaxInt} {
		s := ordered(t)
		s.Undo(mark)
		holds(t, s, 6)
		s.Undo(2)
		s.Undo(mark)
		holds(t, s, 2)
	}
	for _, mark := range []int{-1, 0, 1, math.MaxInt} {
		New().Undo(mark)
		s := with(t, 7)
		s.Undo(mark)
		holds(t, s, 0)
	}
}

// TestUndoStep: P10.2 and P10.3, mark by mark down, with each state as it was.
func TestUndoStep(t *testing.T) {
	s := with(t, 7)
	var states [][]api.Term
	for _, v := range order {
		l, mark := values(s)
		if mark != len(states) {
			t.Fatal(mark)
		}
		states = append(states, l)
		binds(t, s, v, term.Make("f", term.Let(3), term.Num(int64(v))), api.OK)
	}
	for mark := len(states) - 1; mark >= 0; mark-- {
		s.Undo(mark)
		if l, now := values(s); now != mark || !slices.EqualFunc(l, states[mark], term.Same) {
			t.Error(mark, now, l, states[mark])
		}
	}
}

// TestUndoAnew: P10.3, what is bound after an Undo is as if what was undone had never been.
func TestUndoAnew(t *testing.T) {
	f, a, b, v := term.Make, term.Atom("a"), term.Atom("b"), term.Let
	s := bound(t, 5, f("f", v(1), v(2)), v(2), a)
	s.Undo(1)
	binds(t, s, 2, f("g", v(1)), api.OK)
	binds(t, s, 1, v(2), api.ErrForm)
	binds(t, s, 4, b, api.OK)
	binds(t, s, 1, v(4), api.OK)
	fills(t, s, v(0), f("f", b, f("g", b)))
	s.Undo(3)
	fills(t, s, v(0), f("f", v(1), f("g", v(1))))
	s.Undo(2)
	fills(t, s, f("h", v(0), v(4)), f("h", f("f", v(1), f("g", v(1))), v(4)))
	s.Undo(1)
	fills(t, s, v(0), f("f", v(1), v(2)))
	binds(t, s, 1, v(2), api.OK)
	binds(t, s, 2, a, api.OK)
	fills(t, s, v(0), f("f", a, a))
}

// TestHas: P10.2, by what a term is: a variable, what has none, and what has it in one of its Kids.
func TestHas(t *testing.T) {
	f, a, v := term.Make, term.Atom("a"), term.Let
	s := with(t, 3)
	for _, n := range []int{0, 1, 2, 3, 7, 4095, 4096, -1, math.MaxInt, math.MinInt} {
		other := n ^ 8
		for _, x := range []api.Term{
			v(n), odd(api.Var, int64(n), "X"), odd(api.Var, int64(n), "", v(other)), f("f", v(n)), f("f", a, v(other), v(n), a), f("f", f("f", f("f", a, v(n)))),
			odd(api.Int, 0, "", v(n)), odd(api.Fun, int64(other), "", v(n)), odd(0, 0, "", v(n)), odd(5, 0, "", f("f", v(n))), odd(-1, 0, "", a, v(n)), odd(math.MaxInt, 0, "", v(n)), odd(math.MinInt, 0, "", v(n)), odd(1<<32+api.Seal, 0, "", v(n)), odd(1<<32+api.Var, 0, "", v(n)),
			f("f", sealed(0, a), v(n)), f("f", v(n), sealed(0, v(n))), nest(1000, v(n)), f("f", append(some(2000), v(n))...), f("f", append([]api.Term{v(n)}, some(2000)...)...),
		} {
			has(t, s, x, n, true)
			has(t, s, x, n^1, false)
		}
		for _, x := range []api.Term{
			{}, a, v(other), term.Num(int64(n)), odd(api.Fun, int64(n), "X"), odd(api.Var, int64(other), "", v(n)), f("f", odd(api.Var, int64(other), "", v(n))),
			sealed(0, v(n)), sealed(int64(n)), sealed(int64(n), v(n), v(n)), sealed(0, sealed(0, v(n))), f("f", sealed(0, f("f", v(n))), a), odd(7, int64(n), "", a), f("f", some(2000)...),
		} {
			has(t, s, x, n, false)
		}
	}
}

// TestHasBound: P10.2, bindings are followed, but for those within Seals; a bound variable itself never occurs.
func TestHasBound(t *testing.T) {
	f, a, v := term.Make, term.Atom("a"), term.Let
	s := bound(t, 10, v(1), v(2), f("f", a, v(3), v(6)), f("g", v(4)), v(9), sealed(1, v(8)), v(5), odd(api.Var, 8, "", v(9)))
	for n, want := range map[int][]bool{
		0: {false, false, false, false, false, false, false, false, false, true},
		1: {false, false, false, false, false, false, false, false, false, true},
		3: {false, false, false, false, false, false, false, false, false, true},
		4: {false, false, false, false, false, false, false, false, false, true},
		5: {false, false, false, false, false, false, false, false, false, false},
		6: {false, false, false, false, false, false, false, false, false, false},
		7: {false, false, false, false, false, false, false, false, true, false},
		8: {false, false, false, false, false, false, false, false, true, false},
	} {
		for k, w := range want {
			has(t, s, v(n), k, w)
			has(t, s, f("h", a, v(n), a), k, w)
			has(t, s, f("h", v(n), f("h", v(n)), v(n)), k, w)
			has(t, s, odd(api.Var, int64(n), "X", v(9)), k, w)
			has(t, s, sealed(1, v(n)), k, false)
			has(t, s, odd(6, 0, "", v(5), v(n)), k, w)
		}
	}
	has(t, s, f("h", v(5), v(7), v(4)), 9, true)
	has(t, s, f("h", v(5), v(7), v(4)), 8, true)
	has(t, s, f("h", v(5), v(7), v(4)), 4, false)
}

// TestHasManyWays: P1, the ways to a variable may double with each binding: each binding is followed once.
func TestHasManyWays(t *testing.T) {
	s := with(t, 4096)
	soon(t, func() {
		for n := range 4094 {
			binds(t, s, n, term.Make("f", term.Let(n+1), term.Let(n+1)), api.OK)
		}
		has(t, s, term.Let(0), 4094, true)
		has(t, s, term.Let(0), 4095, false)
		has(t, s, term.Let(0), 4096, false)
		binds(t, s, 4094, term.Make("g", term.Let(0)), api.ErrForm)
		binds(t, s, 4095, term.Make("g", term.Let(0)), api.OK)
		binds(t, s, 4094, term.Let(4095), api.ErrForm)
		refuses(t, s, term.Let(0), api.ErrDeep)
	})
}

// TestHasDeep: P1, values may be deep, and lead to each other.
func TestHasDeep(t *testing.T) {
	s := with(t, 1001)
	for n := range 1000 {
		binds(t, s, n, nest(500, term.Let(n+1)), api.OK)
	}
	has(t, s, term.Let(0), 1000, true)
	has(t, s, term.Let(0), 999, false)
	binds(t, s, 1000, term.Let(0), api.ErrForm)
	refuses(t, s, term.Let(0), api.ErrDeep)
}

// TestFull: P10.2, values come in for variables in all places, and within values, within Seals and within what is no term.
func TestFull(t *testing.T) {
	f, a, b, v := term.Make, term.Atom("a"), term.Atom("b"), term.Let
	s := bound(t, 9, v(1), v(2), f("g", v(3), v(4)), b, sealed(2, v(3)), term.Num(7), odd(api.Var, 8, "X", v(3)))
	g := f("g", b, sealed(2, b))
	for _, c := range [][2]api.Term{
		{v(0), g}, {v(1), g}, {v(2), g}, {v(3), b}, {v(4), sealed(2, b)}, {v(5), term.Num(7)}, {v(6), odd(api.Var, 8, "X", b)}, {v(7), v(7)}, {v(8), v(8)}, {v(9), v(9)}, {v(-1), v(-1)},
		{{}, {}}, {a, a}, {term.Num(3), term.Num(3)}, {f("f", v(0), a, v(7), v(3)), f("f", g, a, v(7), b)},
		{f("f", f("f", f("f", v(1))), v(1)), f("f", f("f", f("f", g)), g)},
		{sealed(1, v(3)), sealed(1, b)}, {sealed(1, f("f", sealed(0, v(3)), v(4))), sealed(1, f("f", sealed(0, b), sealed(2, b)))}, {sealed(1, v(3), v(7), v(5)), sealed(1, b, v(7), term.Num(7))}, {sealed(-9), sealed(-9)},
		{odd(api.Var, 3, "X", v(5)), b}, {odd(api.Var, 7, "X", v(5), v(7)), odd(api.Var, 7, "X", term.Num(7), v(7))}, {odd(api.Var, -1, "", sealed(0, v(3))), odd(api.Var, -1, "", sealed(0, b))},
		{odd(api.Int, 3, "s", v(3)), odd(api.Int, 3, "s", b)}, {odd(api.Fun, 3, "s", v(3)), odd(api.Fun, 3, "s", b)}, {odd(6, 3, "s", v(0)), odd(6, 3, "s", g)}, {odd(-6, 3, "s", a, v(3)), odd(-6, 3, "s", a, b)},
	} {
		fills(t, s, c[0], c[1])
		// What is full stays as it is.
		fills(t, s, c[1], c[1])
	}
}

// TestFullDeep: P10.2, 60 levels are not too deep and 61 are, by whatever Kinds, and through bindings.
func TestFullDeep(t *testing.T) {
	a, v := term.Atom("a"), term.Let
	// Variable 0 is worth 60 levels, 2 to 6 are worth 2, and 7 is worth 7.
	s := bound(t, 70, nest(29, v(1)), nest(29, v(2)), nest(1, a), v(4), v(5), v(6), v(2), sealed(1, v(8)), odd(api.Int, 0, "", v(9)), odd(api.Var, 60, "", v(10)), odd(7, 0, "", v(11)), term.Make("f", a, v(6)))
	for _, x := range []api.Term{nest(59, a), v(0), nest(58, v(2)), nest(58, v(3)), nest(29, v(1)), nest(53, v(7)), nest(53, sealed(0, v(8))), nest(59, v(69)), nest(59, term.Num(1)), nest(59, api.Term{}), nest(59, sealed(1))} {
		full, e := s.Full(x)
		if e != api.OK || term.Deep(full) != 60 {
			t.Errorf("%s: %d, %v", brief(x), term.Deep(full), e)
		}
		for _, over := range []api.Term{nest(1, x), nest(2000, x), sealed(0, x), term.Make("f", a, x), term.Make("f", x, a), odd(api.Var, 60, "", x), odd(api.Int, 60, "", a, x), odd(9, 60, "", a, x)} {
			refuses(t, s, over, api.ErrDeep)
		}
	}
}

// TestFullSize: P10.2, 1000 parts are not too many and 1001 are, and values count as often as they occur.
func TestFullSize(t *testing.T) {
	f, v := term.Make, term.Let
	s := bound(t, 6, f("g", some(9)...), v(0), sealed(1, v(1)), odd(api.Var, 5, "", some(9)...), odd(9, 0, "", v(2), v(2)))
	// Each list has a variable, and how many parts it is worth.
	for n, size := range []int{10, 10, 11, 10, 23, 1} {
		for many := range 999/size + 1 {
			x := f("f", append(slices.Repeat([]api.Term{v(n)}, many), some(999-size*many)...)...)
			full, e := s.Full(x)
			if e != api.OK || term.Size(full) != 1000 {
				t.Errorf("%d of %d: %d, %v", many, n, term.Size(full), e)
			}
			x.Kids = append(x.Kids, term.Num(1))
			refuses(t, s, x, api.ErrFull)
		}
	}
	refuses(t, s, f("f", some(1000)...), api.ErrFull)
	refuses(t, s, f("f", f("f", some(998)...), term.Num(1)), api.ErrFull)
	fills(t, s, f("f", f("f", some(997)...), term.Num(1)), f("f", f("f", some(997)...), term.Num(1)))
	refuses(t, s, f("f", some(100000)...), api.ErrFull)
	refuses(t, s, sealed(1, some(1000)...), api.ErrFull)
	refuses(t, s, odd(api.Var, 5, "", some(1000)...), api.ErrFull)
	refuses(t, s, odd(api.Int, 5, "", some(1000)...), api.ErrFull)
	fills(t, s, odd(api.Var, 0, "", some(1000)...), f("g", some(9)...))
}

// TestFullFirst: P10.2, the first part decides that is too deep or one too many; of a part that is both, the depth does.
func TestFullFirst(t *testing.T) {
	f, a, v := term.Make, term.Atom("a"), term.Let
	s := bound(t, 2, nest(30, a), nest(29, a))
	// The last part of each term in over is the one that is too deep, the 61st behind that many atoms; without it the term would just fit.
	over := []api.Term{nest(59, a), nest(29, v(0)), nest(28, sealed(1, v(0))), nest(30, v(1))}
	fit := []api.Term{nest(58, a), nest(28, v(0)), nest(27, sealed(1, v(0))), nest(29, v(1))}
	for _, many := range []int{0, 1, 500, 938, 939, 940, 941, 942, 998, 999, 1000, 1001, 5000} {
		for k := range over {
			e := api.ErrFull
			if many <= 940 {
				e = api.ErrDeep
			}
			refuses(t, s, f("f", append(some(many), over[k])...), e)
			refuses(t, s, f("f", append([]api.Term{over[k]}, some(many)...)...), api.ErrDeep)
			fits := f("f", append(some(many), fit[k])...)
			if many > 940 {
				refuses(t, s, fits, api.ErrFull)
				continue
			}
			full, got := s.Full(fits)
			if got != api.OK || term.Size(full) != many+60 || term.Deep(full) != 60 {
				t.Errorf("%d and %d: %d, %d, %v", many, k, term.Size(full), term.Deep(full), got)
			}
		}
	}
}

// TestFullRound: P1 and P10.2, values that lead back to themselves end at the limits.
func TestFullRound(t *testing.T) {
	f, a, v := term.Make, term.Atom("a"), term.Let
	for _, c := range []struct {
		x api.Term
		e api.Errno
	}{
		{sealed(1, v(0)), api.ErrDeep},
		{sealed(1, f("f", v(0), v(0))), api.ErrDeep},
		{f("f", sealed(0, v(0)), a), api.ErrDeep},
		{odd(api.Var, 1, "", v(0)), api.ErrDeep},
		{odd(api.Var, 1, "", a, v(0), v(0)), api.ErrDeep},
		{sealed(1, append(some(30), v(0))...), api.ErrFull},
		{sealed(1, append(some(1000), v(0))...), api.ErrFull},
		{odd(api.Var, 1, "", append(some(17), v(0))...), api.ErrFull},
		{odd(api.Var, 1, "", append(some(15), v(0))...), api.ErrDeep},
	} {
		s := bound(t, 2, c.x)
		soon(t, func() {
			for _, x := range []api.Term{v(0), c.x, f("f", a, v(0)), sealed(1, v(0))} {
				refuses(t, s, x, c.e)
				has(t, s, x, 0, false)
			}
			walks(t, s, v(0), c.x)
		})
	}
}

// TestNil: P10.2, a nil store has no variables, and leaves terms as they are, of whatever size and depth.
func TestNil(t *testing.T) {
	var s *Store
	for _, n := range []int{0, 1, -1, 4096, 4097, math.MaxInt, math.MinInt} {
		freshens(t, s, n, 0, api.ErrNone)
		for range 2 {
			s.Undo(n)
			if s.Mark() != 0 {
				t.Error(n, s.Mark())
			}
		}
		for _, x := range []api.Term{{}, term.Let(n), term.Atom("a"), term.Num(int64(n)), sealed(0, term.Let(0)), odd(api.Var, 0, "X", term.Let(n)), term.Make("f", term.Let(n), term.Let(0)), nest(60, term.Let(n)), nest(3000, term.Let(n)), term.Make("f", some(1000)...)} {
			binds(t, s, n, x, api.ErrNone)
			has(t, s, x, n, false)
			walks(t, s, x, x)
			fills(t, s, x, x)
		}
	}
}

// TestMemoryIn: R3, a store keeps nothing of the terms that it is given, and leaves them as they are.
func TestMemoryIn(t *testing.T) {
	build := func() api.Term {
		kids := append(make([]api.Term, 0, 9), term.Make("g", term.Let(1)), sealed(1, term.Let(2), term.Atom("b")), term.Num(3))
		return odd(api.Fun, 0, "f", kids...)
	}
	s := with(t, 4)
	x := build()
	x.Kids[:cap(x.Kids)][5] = term.Atom("behind")
	binds(t, s, 0, x, api.OK)
	binds(t, s, 1, term.Atom("a"), api.OK)
	s.Walk(x)
	s.Full(x)
	s.Has(x, 7)
	binds(t, s, 2, x, api.OK)
	s.Undo(1)
	if !term.Same(x, build()) || !term.Same(x.Kids[:cap(x.Kids)][5], term.Atom("behind")) {
		t.Error("the term has changed", brief(x))
	}
	spoil(&x)
	walks(t, s, term.Let(0), build())
	fills(t, s, term.Let(0), build())
	has(t, s, term.Let(0), 1, true)
}

// TestMemoryOut: R3, what is handed out shares no memory with the store, with what was given, or with another part of it.
func TestMemoryOut(t *testing.T) {
	f, a, v := term.Make, term.Atom("a"), term.Let
	g := f("g", f("h", a, v(3)))
	for _, s := range []*Store{nil, bound(t, 4, g, v(0), f("f", v(0)))} {
		want, _ := values(s)
		for _, x := range []api.Term{v(0), v(1), v(2), v(3), f("f", f("f", a)), f("f", v(0), v(0), v(1)), sealed(1, f("f", v(2))), odd(api.Var, 3, "", f("f", a)), odd(api.Int, 3, "", f("f", v(0), a)), f("f", g, g)} {
			before := term.Shift(x, 0)
			walked := s.Walk(x)
			full, e := s.Full(x)
			if e != api.OK {
				t.Fatal(brief(x), e)
			}
			if again, _ := s.Full(x); len(again.Kids) > 1 {
				spoil(&again.Kids[0])
				if !slices.EqualFunc(again.Kids[1:], full.Kids[1:], term.Same) {
					t.Error("two Kids share memory", brief(x))
				}
			}
			spoil(&walked)
			spoil(&full)
			if !term.Same(x, before) {
				t.Error("the argument has changed", brief(before), brief(x))
			}
			if l, _ := values(s); !slices.EqualFunc(l, want, term.Same) {
				t.Error("the store has changed", brief(x))
			}
		}
	}
}

// TestMemoryLater: R3, what was handed out stays as it is, whatever is bound and undone later.
func TestMemoryLater(t *testing.T) {
	f, a, v := term.Make, term.Atom("a"), term.Let
	s := bound(t, 6, v(1), f("f", v(2), v(3)))
	x := f("f", v(0), f("g", v(2)))
	walked, inner := s.Walk(v(0)), s.Walk(x)
	full, _ := s.Full(x)
	for range 3 {
		binds(t, s, 2, f("h", a, a), api.OK)
		binds(t, s, 3, v(4), api.OK)
		s.Undo(2)
	}
	s.Undo(0)
	binds(t, s, 1, f("z", a, a), api.OK)
	binds(t, s, 0, f("y", a, a), api.OK)
	if !term.Same(walked, f("f", v(2), v(3))) || !term.Same(inner, x) || !term.Same(full, f("f", f("f", v(2), v(3)), f("g", v(2)))) {
		t.Error(brief(walked), brief(inner), brief(full))
	}
}

// TestApart: R4, stores have nothing in common.
func TestApart(t *testing.T) {
	a, b := bound(t, 3, term.Atom("a")), with(t, 2)
	walks(t, b, term.Let(0), term.Let(0))
	binds(t, b, 2, term.Atom("b"), api.ErrNone)
	binds(t, b, 0, term.Atom("b"), api.OK)
	binds(t, b, 1, term.Atom("b"), api.OK)
	walks(t, a, term.Let(0), term.Atom("a"))
	walks(t, a, term.Let(1), term.Let(1))
	a.Undo(0)
	walks(t, b, term.Let(0), term.Atom("b"))
	if a.Mark() != 0 || b.Mark() != 2 {
		t.Error(a.Mark(), b.Mark())
	}
	freshens(t, a, 1, 3, api.OK)
	freshens(t, b, 1, 2, api.OK)
}

// entry is one binding of a model.
type entry struct {
	v int
	x api.Term
}

// model is a store by the chapter's words: a number of variables, and all bindings in order.
type model struct {
	vars int
	log  []entry
}

// wantValue is what a variable is bound to, and whether it is.
func (m *model) wantValue(n int64) (api.Term, bool) {
	for _, b := range m.log {
		if int64(b.v) == n {
			return b.x, true
		}
	}
	return api.Term{}, false
}

// wantWalk is P10.1's Walk.
func (m *model) wantWalk(x api.Term) api.Term {
	if x.Kind != 1 {
		return x
	}
	value, ok := m.wantValue(x.N)
	if !ok {
		return x
	}
	return m.wantWalk(value)
}

// shown adds the numbers of all variables to set that are within no Seal and no variable.
func shown(set map[int64]bool, x api.Term) {
	if x.Kind == 1 {
		set[x.N] = true
	} else if x.Kind != 4 {
		for _, kid := range x.Kids {
			shown(set, kid)
		}
	}
}

// wantHas is P10.2's Has: values are added for the variables that a set has until it grows no more.
func (m *model) wantHas(x api.Term, v int) bool {
	set := map[int64]bool{}
	shown(set, x)
	for size := -1; size != len(set); {
		size = len(set)
		for _, b := range m.log {
			if set[int64(b.v)] {
				shown(set, b.x)
			}
		}
	}
	_, bound := m.wantValue(int64(v))
	return set[int64(v)] && !bound
}

// spot is a part of a term that is to be visited, and how deep it is.
type spot struct {
	x    api.Term
	deep int
}

// wantFull is P10.2's Full: the parts as a flat list in order, and then the term from that list.
func (m *model) wantFull(x api.Term) (api.Term, api.Errno) {
	var flat []api.Term
	rest := []spot{{x, 1}}
	for len(rest) > 0 {
		p := rest[len(rest)-1]
		rest = rest[:len(rest)-1]
		if p.deep > 60 {
			return api.Term{}, api.ErrDeep
		}
		if len(flat) == 1000 {
			return api.Term{}, api.ErrFull
		}
		w := m.wantWalk(p.x)
		flat = append(flat, w)
		for _, kid := range slices.Backward(w.Kids) {
			rest = append(rest, spot{kid, p.deep + 1})
		}
	}
	var build func() api.Term
	build = func() api.Term {
		t := flat[0]
		flat = flat[1:]
		kids := make([]api.Term, len(t.Kids))
		for k := range kids {
			kids[k] = build()
		}
		t.Kids = kids
		return t
	}
	return build(), api.OK
}

// wantBind is P10.1's Bind.
func (m *model) wantBind(v int, x api.Term) api.Errno {
	if v < 0 || v >= m.vars {
		return api.ErrNone
	}
	if _, ok := m.wantValue(int64(v)); ok {
		return api.ErrThere
	}
	if m.wantHas(x, v) {
		return api.ErrForm
	}
	m.log = append(slices.Clone(m.log), entry{v, x})
	return api.OK
}

// anyNumber is mostly the number of one of a few variables.
func anyNumber(r *rand.Rand) int {
	if r.Intn(30) == 0 {
		return []int{-1, 99, 4095, 4096, math.MaxInt, math.MinInt}[r.Intn(6)]
	}
	return r.Intn(9)
}

// anyTerm is a term at random, with variables that there are and that there are not.
func anyTerm(r *rand.Rand, deep int) api.Term {
	x := api.Term{Kind: []int{1, 1, 1, 1, 1, 2, 3, 3, 3, 3, 4, 4, 5, -1}[r.Intn(14)]}
	x.N = int64(anyNumber(r))
	x.S = []string{"", "", "f", "g"}[r.Intn(4)]
	if deep == 0 || x.Kind == 1 && r.Intn(8) > 0 {
		return x
	}
	for range []int{0, 1, 1, 1, 2, 2, 3}[r.Intn(7)] {
		x.Kids = append(x.Kids, anyTerm(r, deep-1))
	}
	return x
}

// looks holds a store to its model: its trail, and what it makes of each variable and of some terms.
func looks(t *testing.T, r *rand.Rand, s *Store, m *model, count map[api.Errno]int) {
	t.Helper()
	if s.Mark() != len(m.log) {
		t.Fatalf("the trail is %d long; want %d", s.Mark(), len(m.log))
	}
	all := []api.Term{anyTerm(r, 1), anyTerm(r, 2), anyTerm(r, 3)}
	for v := range 9 {
		all = append(all, term.Let(v))
	}
	for _, x := range all {
		walks(t, s, x, m.wantWalk(x))
		full, e := m.wantFull(x)
		count[e]++
		if e == api.OK {
			fills(t, s, x, full)
		} else {
			refuses(t, s, x, e)
		}
		for range 3 {
			v := anyNumber(r)
			has(t, s, x, v, m.wantHas(x, v))
		}
	}
}

// TestAny: P10.1, P10.2 and P10.3, calls at random, in any order, against the model.
func TestAny(t *testing.T) {
	r := rand.New(rand.NewSource(10))
	bind, full := map[api.Errno]int{}, map[api.Errno]int{}
	for k := range 300 {
		s, m := with(t, k%10), &model{vars: k % 10}
		for range 40 {
			switch r.Intn(8) {
			case 0:
				n := []int{-1, 0, 1, 2, 3, 4097}[r.Intn(6)]
				switch {
				case n < 0:
					freshens(t, s, n, 0, api.ErrArg)
				case m.vars+n > 4096:
					freshens(t, s, n, 0, api.ErrFull)
				default:
					freshens(t, s, n, m.vars, api.OK)
					m.vars += n
				}
			case 1:
				mark := r.Intn(len(m.log)+4) - 2
				s.Undo(mark)
				m.log = m.log[:min(max(mark, 0), len(m.log))]
			default:
				v, x := anyNumber(r), anyTerm(r, 3)
				if r.Intn(8) == 0 {
					x = sealed(1, append(some(40), x)...)
				}
				e := m.wantBind(v, x)
				bind[e]++
				binds(t, s, v, x, e)
			}
			looks(t, r, s, m, full)
			if t.Failed() {
				t.Fatal(m.vars, m.log)
			}
		}
	}
	for _, e := range []api.Errno{api.OK, api.ErrNone, api.ErrThere, api.ErrForm} {
		if bind[e] < 200 {
			t.Error("too few of Bind", e, bind)
		}
	}
	for _, e := range []api.Errno{api.OK, api.ErrDeep, api.ErrFull} {
		if full[e] < 20 {
			t.Error("too few of Full", e, full)
		}
	}
}

// TestNoBound: P10.3, what Full returns has no bound variable, in no part of it, and is its own Full.
func TestNoBound(t *testing.T) {
	r := rand.New(rand.NewSource(11))
	done := 0
	for range 500 {
		s := with(t, 9)
		for range 12 {
			s.Bind(r.Intn(9), anyTerm(r, 3))
		}
		for range 10 {
			x, e := s.Full(anyTerm(r, 3))
			if e != api.OK {
				continue
			}
			done++
			for _, v := range term.Vars(x) {
				walks(t, s, term.Let(v), term.Let(v))
			}
			fills(t, s, x, x)
		}
	}
	if done < 2000 {
		t.Error("too few are full", done)
	}
}

// TestBack: P2 and P10.3, after Undo to a mark all is as it was there, whatever was bound between, and the same is bound again in the same way.
func TestBack(t *testing.T) {
	r := rand.New(rand.NewSource(12))
	for range 200 {
		s := with(t, 9)
		for range r.Intn(8) {
			s.Bind(r.Intn(9), anyTerm(r, 2))
		}
		before, mark := values(s)
		seed := r.Int63()
		var first []api.Term
		for range 2 {
			again := rand.New(rand.NewSource(seed))
			for range 12 {
				s.Bind(again.Intn(9), anyTerm(again, 2))
			}
			after, _ := values(s)
			if first == nil {
				first = after
			}
			if !slices.EqualFunc(first, after, term.Same) {
				t.Fatal("what is bound again differs", first, after)
			}
			s.Undo(mark)
			if l, now := values(s); now != mark || !slices.EqualFunc(l, before, term.Same) {
				t.Fatal("the store is not as it was", l, before)
			}
		}
	}
}
