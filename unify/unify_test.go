package unify

import (
	"fmt"
	"math"
	"math/rand"
	"slices"
	"testing"
	"time"

	"torchere/api"
	"torchere/latt"
	"torchere/seal"
	"torchere/store"
	"torchere/term"
)

// sealed is a Seal of that number around these, as they are and not copied.
func sealed(n int64, kids ...api.Term) api.Term {
	return api.Term{Kind: api.Seal, N: n, Kids: kids}
}

// odd is a term of that Kind, which need not be one that there is, with all fields filled.
func odd(kind int, n int64, s string, kids ...api.Term) api.Term {
	return api.Term{Kind: kind, N: n, S: s, Kids: kids}
}

// some is a list of that many atoms.
func some(n int) []api.Term {
	return slices.Repeat([]api.Term{term.Atom("a")}, n)
}

// nest is core with that many Funs of one Kid around it.
func nest(deep int, core api.Term) api.Term {
	for range deep {
		core = odd(api.Fun, 0, "n", core)
	}
	return core
}

// brief is how terms begin, so that a fault of great ones can be read.
func brief(x ...api.Term) string {
	return fmt.Sprintf("%.200q", fmt.Sprint(x))
}

// spoil changes every part of a term where it stands.
func spoil(x *api.Term) {
	for k := range x.Kids {
		spoil(&x.Kids[k])
	}
	*x = odd(99, 99, "spoilt")
}

// soon fails if a call does not end.
func soon(t *testing.T, call func()) {
	t.Helper()
	done := make(chan struct{})
	go func() {
		defer close(done)
		call()
	}()
	select {
	case <-done:
	case <-time.After(time.Minute):
		t.Fatal("there is no end")
	}
}

// lattice is the one of these pairs; there has to be one.
func lattice(t *testing.T, n int, below ...[2]int) *latt.Lattice {
	t.Helper()
	l, e := latt.New(n, below)
	if e != api.OK {
		t.Fatal(n, below, e)
	}
	return l
}

// diamond has 0 at the bottom, 3 at the top, and 1 and 2 between them, neither below the other.
func diamond(t *testing.T) *latt.Lattice {
	t.Helper()
	return lattice(t, 4, [2]int{0, 1}, [2]int{0, 2}, [2]int{1, 3}, [2]int{2, 3})
}

// turned has 2 at the bottom, 1 at the top, and 0 and 3 between them.
func turned(t *testing.T) *latt.Lattice {
	t.Helper()
	return lattice(t, 4, [2]int{2, 0}, [2]int{2, 3}, [2]int{0, 1}, [2]int{3, 1})
}

// with is a store of that many variables, of which the first ones are bound to these, in order.
func with(t *testing.T, n int, values ...api.Term) *store.Store {
	t.Helper()
	s := store.New()
	if _, e := s.Fresh(n); e != api.OK {
		t.Fatal(n, e)
	}
	for v, x := range values {
		if e := s.Bind(v, x); e != api.OK {
			t.Fatal(v, brief(x), e)
		}
	}
	return s
}

// gives holds Match to that answer.
func gives(t *testing.T, s *store.Store, l *latt.Lattice, as, bs []api.Term, is bool, level int, e api.Errno) {
	t.Helper()
	if gotIs, gotLevel, got := Match(s, l, as, bs); gotIs != is || gotLevel != level || got != e {
		t.Errorf("Match of %s and %s: %v, %d, %v; want %v, %d, %v", brief(as...), brief(bs...), gotIs, gotLevel, got, is, level, e)
	}
}

// ends holds Unify to that answer without an error.
func ends(t *testing.T, s *store.Store, l *latt.Lattice, a, b api.Term, is bool, level int) {
	t.Helper()
	if gotIs, gotLevel, e := Unify(s, l, a, b); gotIs != is || gotLevel != level || e != api.OK {
		t.Errorf("Unify of %s and %s: %v, %d, %v; want %v, %d", brief(a), brief(b), gotIs, gotLevel, e, is, level)
	}
}

// walks holds a store to that value of a term.
func walks(t *testing.T, s *store.Store, x, want api.Term) {
	t.Helper()
	if got := s.Walk(x); !term.Same(got, want) {
		t.Errorf("Walk of %s: %s; want %s", brief(x), brief(got), brief(want))
	}
}

// trail are those of the first variables of a store that are bound, in the order in which they were; all are free afterwards.
func trail(s *store.Store, first int) []int {
	var l, bound []int
	isFree := func(v int) bool { return term.Same(s.Walk(term.Let(v)), term.Let(v)) }
	for v := range first {
		if !isFree(v) {
			bound = append(bound, v)
		}
	}
	for s.Mark() > 0 {
		s.Undo(s.Mark() - 1)
		k := slices.IndexFunc(bound, isFree)
		l = append(l, bound[k])
		bound = slices.Delete(bound, k, k+1)
	}
	slices.Reverse(l)
	return l
}

// binds holds a store to just these variables being bound, in order, and frees them.
func binds(t *testing.T, s *store.Store, want ...int) {
	t.Helper()
	if got := trail(s, api.MaxVars); !slices.Equal(got, want) {
		t.Errorf("bound are %v; want %v", got, want)
	}
}

// strange are numbers that are of no variable of a store of a few; some are those of one in their lowest bits.
func strange() []int64 {
	return []int64{-1, 9, 4095, 4096, 1 << 16, 1<<31 - 1, 1 << 31, 1 << 32, 1<<32 + 1, -1 << 31, -1 << 32, 1<<62 + 1, math.MaxInt64, math.MinInt64, math.MinInt64 + 1}
}

// TestExample: P11.1, the chapter's examples.
func TestExample(t *testing.T) {
	f, a, v, l := term.Make, term.Atom, term.Let, diamond(t)
	s := with(t, 2)
	ends(t, s, l, f("f", v(0), a("b")), f("f", seal.Put(a("a"), 1), v(1)), true, 0)
	walks(t, s, v(0), seal.Put(a("a"), 1))
	walks(t, s, v(1), a("b"))
	binds(t, s, 0, 1)
	ends(t, s, l, f("f", seal.Put(a("a"), 1)), f("f", a("a")), true, 1)
	binds(t, s)
}

// TestLengths: P11.1, lists of different lengths fail at once, whatever is in them, and however many they are.
func TestLengths(t *testing.T) {
	for _, l := range []*latt.Lattice{diamond(t), turned(t), lattice(t, 1)} {
		lists := [][]api.Term{nil, {term.Let(0)}, {seal.Put(term.Atom("a"), 3), term.Let(1)}, append(some(2), term.Let(0)), some(2000), some(2001), some(2002)}
		for i, as := range lists {
			for k, bs := range lists {
				s := with(t, 2)
				if i != k {
					gives(t, s, l, as, bs, false, l.Bottom(), api.OK)
					binds(t, s)
				}
			}
		}
	}
}

// TestEmpty: P11.1 and R2, of no pairs there is nothing to do; nil and empty lists are the same.
func TestEmpty(t *testing.T) {
	for _, l := range []*latt.Lattice{diamond(t), turned(t)} {
		for _, as := range [][]api.Term{nil, {}, some(3)[:0]} {
			for _, bs := range [][]api.Term{nil, {}, some(3)[:0]} {
				s := with(t, 2)
				gives(t, s, l, as, bs, true, l.Bottom(), api.OK)
				x, y := odd(api.Fun, 0, "f", as...), odd(api.Fun, 0, "f", bs...)
				x.Kids, y.Kids = as, bs
				ends(t, s, l, x, y, true, l.Bottom())
				binds(t, s)
			}
		}
	}
}

// TestUnifyIsMatch: P11.1, Unify is Match of just the two terms.
func TestUnifyIsMatch(t *testing.T) {
	f, a, v, l := term.Make, term.Atom("a"), term.Let, diamond(t)
	all := []api.Term{{}, a, v(0), v(1), term.Num(0), seal.Put(a, 1), f("f", v(0), v(1)), f("f", a, seal.Put(a, 2)), seal.Put(f("f", v(1), a), 3), nest(1999, a), nest(2000, a), nest(2001, v(0))}
	for _, x := range all {
		for _, y := range all {
			s, again := with(t, 2), with(t, 2)
			is, level, e := Unify(s, l, x, y)
			gives(t, again, l, []api.Term{x}, []api.Term{y}, is, level, e)
			binds(t, again, trail(s, 2)...)
		}
	}
}

// TestSameVariable: P11.1, two variables of one number are one, whether there is such a variable or not, and whatever else they hold.
func TestSameVariable(t *testing.T) {
	a, v := term.Atom("a"), term.Let
	for _, l := range []*latt.Lattice{diamond(t), turned(t)} {
		for _, n := range append(strange(), 0, 1, 2) {
			s := with(t, 3)
			for _, x := range []api.Term{odd(api.Var, n, ""), odd(api.Var, n, "X"), odd(api.Var, n, "", a), odd(api.Var, n, "Y", sealed(3, a), v(0))} {
				for _, y := range []api.Term{odd(api.Var, n, ""), odd(api.Var, n, "Z", sealed(3, a)), odd(api.Var, n, "", v(1), v(1))} {
					ends(t, s, l, x, y, true, l.Bottom())
					ends(t, s, l, term.Make("f", x, y), term.Make("f", y, x), true, l.Bottom())
				}
			}
			binds(t, s)
		}
		// Variables that lead to the same free one, over several bindings, are one too.
		s := with(t, 6, v(1), v(2), v(5), v(4), v(2))
		for _, x := range []int{0, 1, 2, 3, 4, 5} {
			for _, y := range []int{0, 1, 2, 3, 4, 5} {
				ends(t, s, l, v(x), v(y), true, l.Bottom())
			}
		}
		binds(t, s, 0, 1, 2, 3, 4)
	}
}

// TestOneVariable: P11.1, a variable on either side takes the other term whole, with its Seals, whose levels are not inspected.
func TestOneVariable(t *testing.T) {
	f, a, v := term.Make, term.Atom("a"), term.Let
	for _, l := range []*latt.Lattice{diamond(t), turned(t)} {
		for _, x := range []api.Term{{}, a, term.Num(-7), odd(api.Int, 3, "S", a), f("f", a, v(1)), seal.Put(a, 3), sealed(1), sealed(2, a, a), sealed(math.MinInt64, sealed(1, f("f", a))), sealed(2, v(1)), odd(7, 8, "odd", a), odd(math.MinInt, 8, "odd", v(2)), nest(3000, v(1)), f("f", some(5000)...), v(2), v(77), odd(api.Var, -4, "", a)} {
			s := with(t, 3)
			ends(t, s, l, v(0), x, true, l.Bottom())
			walks(t, s, v(0), x)
			binds(t, s, 0)
			if x.Kind == api.Var {
				continue
			}
			ends(t, s, l, x, v(0), true, l.Bottom())
			walks(t, s, v(0), x)
			binds(t, s, 0)
			gives(t, s, l, []api.Term{a, f("g", x), a}, []api.Term{a, f("g", v(0)), a}, true, l.Bottom(), api.OK)
			walks(t, s, v(0), x)
			binds(t, s, 0)
		}
	}
}

// TestTwoVariables: P11.1, of two variables the first one is bound to the second one; what they hold beside their number does not count.
func TestTwoVariables(t *testing.T) {
	v, l := term.Let, diamond(t)
	for x := range 4 {
		for y := range 4 {
			if x == y {
				continue
			}
			s := with(t, 4)
			ends(t, s, l, v(x), v(y), true, 0)
			walks(t, s, v(x), v(y))
			walks(t, s, v(y), v(y))
			binds(t, s, x)
			ends(t, s, l, odd(api.Var, int64(x), "X", v(y)), odd(api.Var, int64(y), "Y", v(x)), true, 0)
			walks(t, s, v(x), odd(api.Var, int64(y), "Y", v(x)))
			binds(t, s, x)
		}
	}
	// The one that a first one leads to is bound, to the one that the second one leads to.
	s := with(t, 6, v(1), v(4), v(3), v(5))
	ends(t, s, l, v(0), v(2), true, 0)
	walks(t, s, v(0), v(5))
	walks(t, s, v(4), v(5))
	binds(t, s, 0, 1, 2, 3, 4)
}

// TestBound: P11.1, a bound variable is what it leads to, over several bindings, on either side.
func TestBound(t *testing.T) {
	f, a, b, v, l := term.Make, term.Atom("a"), term.Atom("b"), term.Let, diamond(t)
	fresh := func() *store.Store {
		return with(t, 9, v(1), v(2), f("f", v(3), v(7)), seal.Put(a, 1), v(5), f("f", a, b), v(8))
	}
	for _, c := range []struct {
		x, y  api.Term
		is    bool
		level int
		bound []int
	}{
		{v(0), f("f", a, b), true, 1, []int{7}},
		{v(0), f("f", b, b), false, 1, nil},
		{v(0), f("f", v(8), b), true, 0, []int{8, 7}},
		{v(0), f("f", v(6), b), true, 0, []int{8, 7}},
		{v(1), f("f", a), false, 0, nil},
		{v(2), v(4), true, 1, []int{7}},
		{v(2), v(2), true, 1, nil},
		{v(0), v(2), true, 1, nil},
		{v(3), a, true, 1, nil},
		{v(3), v(3), true, 1, nil},
		{v(3), b, false, 1, nil},
		{v(3), v(6), true, 0, []int{8}},
		{v(6), v(7), true, 0, []int{8}},
		{v(5), v(4), true, 0, nil},
		{v(7), v(3), true, 0, []int{7}},
		{f("g", v(8), v(8)), f("g", v(0), v(5)), true, 1, []int{8, 7}},
		{f("g", v(7)), f("g", v(0)), false, 0, nil},
	} {
		s := fresh()
		ends(t, s, l, c.x, c.y, c.is, c.level)
		if c.is {
			full, _ := s.Full(c.x)
			other, _ := s.Full(c.y)
			if !term.Same(seal.Erase(full), seal.Erase(other)) {
				t.Error(brief(c.x, full), brief(c.y, other))
			}
		}
		binds(t, s, append([]int{0, 1, 2, 3, 4, 5, 6}, c.bound...)...)
	}
	// Over as many bindings as there may be.
	s := with(t, 4096)
	for n := range 4095 {
		s.Bind(n, v(n+1))
	}
	ends(t, s, l, v(0), seal.Put(a, 2), true, 0)
	ends(t, s, l, v(1), v(4095), true, 2)
	ends(t, s, l, v(2), b, false, 2)
	walks(t, s, v(3), seal.Put(a, 2))
}

// TestOccurs: P11.1, no variable is bound to a term that has it, directly or through bindings; what is bound ahead of that stays.
func TestOccurs(t *testing.T) {
	f, a, v, l := term.Make, term.Atom("a"), term.Let, turned(t)
	for _, x := range []api.Term{f("f", v(0)), f("f", a, v(0)), nest(70, v(0)), nest(3000, f("f", v(1), v(0))), odd(api.Int, 3, "", v(0)), odd(9, 0, "", a, v(0)), f("f", v(4)), f("f", v(5)), v(5), f("f", sealed(0, v(0)), v(5)), f("f", v(6))} {
		for _, y := range []api.Term{v(0), v(3)} {
			s := with(t, 7)
			for n, value := range []api.Term{v(0), v(0), f("g", a, v(4)), f("h", v(5), v(5))} {
				s.Bind(3+n, value)
			}
			mark := s.Mark()
			ends(t, s, l, x, y, false, 2)
			ends(t, s, l, y, x, false, 2)
			gives(t, s, l, []api.Term{seal.Put(a, 3), y, v(2)}, []api.Term{a, x, a}, false, 3, api.OK)
			if s.Mark() != mark {
				t.Error("bound are", s.Mark(), "want", mark)
			}
			gives(t, s, l, []api.Term{v(2), y, v(1)}, []api.Term{a, x, a}, false, 2, api.OK)
			s.Undo(mark + 1)
			walks(t, s, v(2), a)
			walks(t, s, v(1), v(1))
		}
	}
}

// TestOccursLater: P11.1, bindings of the same call count for what a term has.
func TestOccursLater(t *testing.T) {
	f, v, l := term.Make, term.Let, diamond(t)
	s := with(t, 3)
	gives(t, s, l, []api.Term{v(0), v(1), v(2)}, []api.Term{f("f", v(1)), f("f", v(2)), f("f", v(0))}, false, 0, api.OK)
	binds(t, s, 0, 1)
	ends(t, s, l, f("f", v(0), v(1)), f("f", f("g", v(1)), v(0)), false, 0)
	binds(t, s, 0)
	// The variables of both sides are the same ones.
	ends(t, s, l, f("f", v(0), v(1)), f("f", v(1), v(0)), true, 0)
	binds(t, s, 0)
	ends(t, s, l, f("f", v(0), v(1), v(2)), f("f", v(1), v(2), f("g", v(0))), false, 0)
	binds(t, s, 0, 1)
}

// TestOccursInSeals: P11.1, what is within a Seal does not stop a binding, nor what a variable holds; and what then leads back to itself comes to an end.
func TestOccursInSeals(t *testing.T) {
	f, a, v, l := term.Make, term.Atom("a"), term.Let, diamond(t)
	for _, x := range []api.Term{sealed(1, v(0)), sealed(1, f("f", v(0), v(0))), f("f", sealed(1, v(0))), f("f", a, sealed(1, sealed(0, f("f", v(0))))), odd(api.Var, 2, "", v(0)), odd(api.Var, 1, "", v(0)), v(1), f("f", v(1))} {
		for _, y := range []api.Term{v(0), v(3)} {
			s := with(t, 4)
			s.Bind(3, v(0))
			s.Bind(1, sealed(1, f("f", v(0))))
			ends(t, s, l, y, x, true, 0)
			soon(t, func() {
				at := 1
				if x.Kind == api.Var && x.N == 2 {
					at = 0
				}
				ends(t, s, l, y, y, x.Kind == api.Var && x.N == 2, at)
				ends(t, s, l, f("g", v(0), y), f("g", y, v(0)), at == 0, at)
			})
			binds(t, s, 3, 1, 0)
		}
	}
}

// TestNoVariable: P11.1, a number that is of no variable can't be bound; of two of them it is the first one that would have to be, and it alone.
func TestNoVariable(t *testing.T) {
	f, a, v := term.Make, term.Atom("a"), term.Let
	for _, l := range []*latt.Lattice{diamond(t), turned(t)} {
		for _, n := range strange() {
			x := odd(api.Var, n, "")
			s := with(t, 2)
			for _, y := range []api.Term{a, term.Num(n), f("f", v(0)), sealed(3, a), {}, odd(9, n, ""), odd(api.Var, 7, "")} {
				ends(t, s, l, x, y, false, l.Bottom())
				ends(t, s, l, y, x, false, l.Bottom())
			}
			ends(t, s, l, x, v(0), false, l.Bottom())
			gives(t, s, l, []api.Term{v(0), x, v(1)}, []api.Term{a, a, a}, false, l.Bottom(), api.OK)
			binds(t, s, 0)
			ends(t, s, l, v(0), x, true, l.Bottom())
			walks(t, s, v(0), x)
			ends(t, s, l, v(0), x, true, l.Bottom())
			ends(t, s, l, v(1), v(0), true, l.Bottom())
			ends(t, s, l, v(0), a, false, l.Bottom())
			binds(t, s, 0, 1)
			ends(t, s, l, f("f", v(0)), f("f", x), true, l.Bottom())
			binds(t, s, 0)
		}
		// A number becomes a variable when there are enough of them.
		s := with(t, 2)
		ends(t, s, l, v(2), a, false, l.Bottom())
		s.Fresh(1)
		ends(t, s, l, v(2), a, true, l.Bottom())
		binds(t, s, 2)
		s = with(t, 4096)
		ends(t, s, l, a, v(4095), true, l.Bottom())
		ends(t, s, l, a, v(4096), false, l.Bottom())
		binds(t, s, 4095)
	}
}

// TestInts: P11.1, Ints are one if their N are, whatever else they hold.
func TestInts(t *testing.T) {
	a, l := term.Atom("a"), turned(t)
	all := []int64{0, 1, -1, 2, 7, 1 << 31, 1 << 32, 1<<32 + 1, math.MaxInt64, math.MinInt64, math.MaxInt64 - 1}
	for _, n := range all {
		for _, m := range all {
			for _, x := range []api.Term{term.Num(n), odd(api.Int, n, "S"), odd(api.Int, n, "", a), odd(api.Int, n, "f", sealed(0, a), a)} {
				for _, y := range []api.Term{term.Num(m), odd(api.Int, m, "T"), odd(api.Int, m, "", term.Atom("b"), a)} {
					ends(t, with(t, 1), l, x, y, n == m, 2)
					ends(t, with(t, 1), l, term.Make("f", x, a), term.Make("f", y, a), n == m, 2)
					ends(t, with(t, 1), l, seal.Put(x, 0), seal.Put(y, 3), n == m, 1)
				}
			}
		}
	}
	// The Kids of Ints are no pairs: nothing of them is bound, inspected or counted.
	s := with(t, 1)
	x, y := odd(api.Int, 5, "", append(some(3000), term.Let(0))...), odd(api.Int, 5, "", append(some(3000), sealed(1, a))...)
	gives(t, s, l, slices.Repeat([]api.Term{x}, 3), slices.Repeat([]api.Term{y}, 3), true, 2, api.OK)
	binds(t, s)
}

// TestFuns: P11.1, Funs are one if their names, the numbers of their Kids, and these are; N does not count.
func TestFuns(t *testing.T) {
	f, a, b, l := term.Make, term.Atom("a"), term.Atom("b"), turned(t)
	all := []api.Term{a, b, term.Atom(""), term.Atom("a\x00"), term.Atom("A"), f("a", a), f("b", a), f("", a), f("a", b), f("a", a, a), f("a", a, b), f("a", f("a", a)), f("a", f("a", a), a), f("a", f("a", a, a)), f("a", some(9)...), f("a", some(10)...), f("a", f("a", b, a), f("b", b, a)), f("a", f("a", b, a), f("b", a, b))}
	for i, x := range all {
		for k, y := range all {
			for _, n := range []int64{0, 1, -1, math.MaxInt64} {
				s := with(t, 1)
				other := odd(y.Kind, n, y.S, y.Kids...)
				ends(t, s, l, x, other, i == k, 2)
				ends(t, s, l, other, x, i == k, 2)
				ends(t, s, l, f("f", a, x), f("f", a, other), i == k, 2)
				binds(t, s)
			}
		}
	}
}

// TestKinds: P11.1, all that are not two Ints or two Funs fail, also what is no term, and that also against itself.
func TestKinds(t *testing.T) {
	a := term.Atom("a")
	var all []api.Term
	for _, kind := range []int{api.Int, api.Fun, api.Seal, 0, 5, -1, 1 << 32, math.MaxInt, math.MinInt, api.Fun + 1<<32} {
		for _, kids := range [][]api.Term{nil, {a, a}} {
			all = append(all, odd(kind, 3, "f", kids...))
		}
	}
	for _, l := range []*latt.Lattice{diamond(t), turned(t)} {
		for i, x := range all {
			for k, y := range all {
				s := with(t, 1)
				want := x.Kind == api.Int && y.Kind == api.Int || x.Kind == api.Fun && i == k
				ends(t, s, l, x, y, want, l.Bottom())
				ends(t, s, l, term.Make("g", x), term.Make("g", y), want, l.Bottom())
				binds(t, s)
			}
		}
	}
}

// TestSeals: P11.1, Seals on either side are taken off, one in another, and the level is the join of the levels of both.
func TestSeals(t *testing.T) {
	f, a, l := term.Make, term.Atom("a"), diamond(t)
	u := turned(t)
	put := func(x api.Term, at ...int64) api.Term {
		for _, n := range at {
			x = sealed(n, x)
		}
		return x
	}
	for _, x := range []api.Term{a, term.Num(5), f("f", a), f("f", f("g", a), term.Num(5))} {
		for _, c := range []struct {
			x, y     []int64
			one, two int
		}{
			{nil, nil, 0, 2},
			{[]int64{0}, nil, 0, 0},
			{[]int64{1}, nil, 1, 1},
			{[]int64{2}, nil, 2, 2},
			{[]int64{0}, []int64{1}, 1, 1},
			{[]int64{1}, []int64{2}, 3, 1},
			{[]int64{0}, []int64{3}, 3, 1},
			{[]int64{0, 1}, nil, 1, 1},
			{[]int64{1, 2}, nil, 3, 1},
			{[]int64{0, 3}, nil, 3, 1},
			{[]int64{2, 0, 2, 0}, []int64{2, 2}, 2, 0},
			{[]int64{2, 3}, []int64{2, 3, 2}, 3, 3},
			{[]int64{4}, nil, 3, 1},
			{[]int64{-1}, []int64{2}, 3, 1},
			{[]int64{0, 1 << 32}, []int64{0}, 3, 1},
			{[]int64{math.MinInt64}, []int64{math.MaxInt64}, 3, 1},
		} {
			for _, deep := range []int{0, 1, 3} {
				x, y := nest(deep, put(x, c.x...)), nest(deep, put(x, c.y...))
				s := with(t, 1)
				ends(t, s, l, x, y, true, c.one)
				ends(t, s, l, y, x, true, c.one)
				ends(t, s, u, x, y, true, c.two)
				ends(t, s, u, y, x, true, c.two)
				binds(t, s)
			}
		}
	}
}

// TestSealsInwards: P11.1, what is within a Seal carries its level on into variables, joined over Seals that are one in another.
func TestSealsInwards(t *testing.T) {
	f, a, b, v, l := term.Make, term.Atom("a"), term.Atom("b"), term.Let, diamond(t)
	for _, c := range []struct {
		x, y  api.Term
		level int
		want  []api.Term
	}{
		{seal.Put(f("f", a, b), 1), f("f", v(0), v(1)), 1, []api.Term{seal.Put(a, 1), seal.Put(b, 1)}},
		{seal.Put(seal.Put(f("f", a, b), 1), 2), f("f", v(0), b), 3, []api.Term{seal.Put(a, 3)}},
		{seal.Put(f("f", f("g", a, b)), 2), f("f", f("g", v(0), v(1))), 2, []api.Term{seal.Put(a, 2), seal.Put(b, 2)}},
		{seal.Put(f("f", seal.Put(f("g", a), 1)), 2), f("f", f("g", v(0))), 3, []api.Term{seal.Put(a, 3)}},
		{seal.Put(f("f", seal.Put(a, 1)), 2), f("f", v(0)), 2, []api.Term{seal.Put(seal.Put(a, 1), 2)}},
		{seal.Put(f("f", seal.Put(f("g", a), 1), b), 0), f("f", v(0), v(1)), 0, []api.Term{seal.Put(seal.Put(f("g", a), 1), 0), seal.Put(b, 0)}},
		{sealed(-1, f("f", a)), f("f", v(0)), 3, []api.Term{seal.Put(a, 3)}},
		{sealed(99, sealed(0, f("f", a))), f("f", v(0)), 3, []api.Term{seal.Put(a, 3)}},
		{sealed(1, f("f", a, b)), sealed(2, f("f", a, v(0))), 3, nil},
	} {
		s := with(t, 2)
		is := c.want != nil
		ends(t, s, l, c.x, c.y, is, c.level)
		for n, x := range c.want {
			walks(t, s, v(n), x)
		}
		s.Undo(0)
		ends(t, s, l, c.y, c.x, is, c.level)
		for n, x := range c.want {
			walks(t, s, v(n), x)
		}
	}
}

// TestSealsOdd: P11.1, a Seal that has not just one of Kids is not taken off, and a variable within a Seal is not one to bind: both fail, at what was joined up to there.
func TestSealsOdd(t *testing.T) {
	f, a, v, l := term.Make, term.Atom("a"), term.Let, diamond(t)
	for _, y := range []api.Term{a, term.Num(2), f("f", a), sealed(2), sealed(2, a, a), sealed(2, v(0), v(1)), odd(7, 2, "", a)} {
		for _, c := range []struct {
			x     api.Term
			level int
		}{
			{sealed(1), 0},
			{sealed(1, a, a), 0},
			{sealed(1, v(0), v(0)), 0},
			{sealed(1, sealed(2)), 1},
			{sealed(1, sealed(2, a, a)), 1},
			{sealed(2, v(0)), 2},
			{sealed(1, sealed(2, v(0))), 3},
			{sealed(1, v(9)), 1},
			{sealed(9, v(9)), 3},
			{sealed(1, api.Term{}), 1},
			{sealed(2, odd(8, 1, "", a)), 2},
		} {
			s := with(t, 2)
			ends(t, s, l, c.x, y, false, c.level)
			ends(t, s, l, y, c.x, false, c.level)
			ends(t, s, l, c.x, c.x, false, c.level)
			ends(t, s, l, f("f", c.x, v(0)), f("f", y, a), false, c.level)
			binds(t, s)
			// A variable that is bound does not lead out of a Seal either.
			s.Bind(0, a)
			ends(t, s, l, c.x, y, false, c.level)
			ends(t, s, l, v(1), c.x, true, 0)
			walks(t, s, v(1), c.x)
			binds(t, s, 0, 1)
		}
	}
}

// TestLevelOfFalse: P11.1, where the answer is false the level is the join of what was inspected, the last pair too, and of no more.
func TestLevelOfFalse(t *testing.T) {
	f, a, b, v := term.Make, term.Atom("a"), term.Atom("b"), term.Let
	l, u := diamond(t), turned(t)
	for _, c := range []struct {
		x, y     api.Term
		one, two int
	}{
		{seal.Put(a, 1), b, 1, 1},
		{a, seal.Put(b, 2), 2, 2},
		{seal.Put(a, 1), seal.Put(b, 2), 3, 1},
		{seal.Put(a, 0), seal.Put(term.Num(1), 3), 3, 1},
		{seal.Put(f("f", a), 0), f("f", a, a), 0, 0},
		{seal.Put(f("f", seal.Put(a, 3)), 0), f("g", seal.Put(a, 3)), 0, 0},
		{f("f", seal.Put(a, 0), a, seal.Put(a, 3)), f("f", a, b, seal.Put(a, 3)), 0, 0},
		{f("f", seal.Put(a, 3), a), f("f", a, seal.Put(b, 2)), 3, 3},
		{f("f", seal.Put(a, 1), seal.Put(a, 2)), f("f", a, b), 3, 1},
		{f("f", v(0), v(0)), f("f", seal.Put(a, 2), b), 2, 2},
		{f("f", v(0), a), f("f", seal.Put(a, 2), b), 0, 2},
		{f("f", v(0), seal.Put(a, 3)), f("f", f("g", seal.Put(a, 1), v(0)), a), 0, 2},
		{seal.Put(f("f", a, a), 3), f("f", a, b), 3, 3},
	} {
		ends(t, with(t, 1), l, c.x, c.y, false, c.one)
		ends(t, with(t, 1), l, c.y, c.x, false, c.one)
		ends(t, with(t, 1), u, c.x, c.y, false, c.two)
		ends(t, with(t, 1), u, c.y, c.x, false, c.two)
	}
}

// TestOrder: P11.1, the pairs of Kids come in order and ahead of all that are left, however deep they are.
func TestOrder(t *testing.T) {
	f, a, v, l := term.Make, term.Atom("a"), term.Let, diamond(t)
	s := with(t, 12)
	x := []api.Term{v(5), f("f", v(3), f("g", v(9), f("h", v(0), v(8)), v(7)), v(2)), v(1), f("f", v(4)), v(11), v(6)}
	y := []api.Term{a, f("f", a, f("g", a, f("h", a, a), a), a), a, f("f", a), a, a}
	want := []int{5, 3, 9, 0, 8, 7, 2, 1, 4, 11, 6}
	gives(t, s, l, x, y, true, 0, api.OK)
	binds(t, s, want...)
	gives(t, s, l, y, x, true, 0, api.OK)
	binds(t, s, want...)
	ends(t, s, l, f("t", x...), f("t", y...), true, 0)
	binds(t, s, want...)
	ends(t, s, l, seal.Put(f("t", y...), 2), f("t", x...), true, 2)
	binds(t, s, want...)
	// Of what one variable is bound to, it is the first that counts.
	gives(t, s, l, []api.Term{f("f", f("g", v(0))), v(0)}, []api.Term{f("f", f("g", seal.Put(a, 1))), term.Atom("b")}, false, 1, api.OK)
	walks(t, s, v(0), seal.Put(a, 1))
	binds(t, s, 0)
	gives(t, s, l, []api.Term{v(0), f("f", v(0), v(1))}, []api.Term{f("g", v(1)), f("f", f("g", a), seal.Put(a, 2))}, true, 2, api.OK)
	walks(t, s, v(1), a)
	binds(t, s, 0, 1)
}

// shapes are ways to make a list of so many pairs, if last is one; a Fun is a pair itself, ahead of its Kids.
func shapes(last api.Term) []func(n int) []api.Term {
	flat := func(n int) []api.Term { return slices.Repeat([]api.Term{last}, n) }
	wide := func(n int) api.Term { return term.Make("f", flat(n-1)...) }
	deep := func(n int) api.Term { return nest(n-1, last) }
	return []func(n int) []api.Term{
		flat,
		func(n int) []api.Term { return []api.Term{wide(n)} },
		func(n int) []api.Term { return []api.Term{deep(n)} },
		func(n int) []api.Term { return append(flat(n-700), wide(700)) },
		func(n int) []api.Term { return append([]api.Term{wide(700)}, flat(n-700)...) },
		func(n int) []api.Term { return append(flat(n-700), deep(700)) },
		func(n int) []api.Term { return append([]api.Term{deep(700)}, flat(n-700)...) },
		func(n int) []api.Term { return []api.Term{term.Make("f", deep(600), wide(400), deep(n-1001))} },
		func(n int) []api.Term { return []api.Term{deep(600), wide(400), wide(n - 1000)} },
		func(n int) []api.Term { return []api.Term{nest(n-200, wide(200))} },
	}
}

// TestMost: P11.1, 2000 pairs are processed and no more, in lists, as Kids and in depth, and pairs of all kinds count.
func TestMost(t *testing.T) {
	a, v, l := term.Atom("a"), term.Let, turned(t)
	for _, last := range []api.Term{a, term.Num(1), odd(api.Int, 1, "", some(5)...), v(0), v(1), v(7), odd(api.Var, -1, "", a), term.Atom(""), seal.Put(a, 2), seal.Put(seal.Put(term.Num(3), 2), 2)} {
		for k, shape := range shapes(last) {
			s := with(t, 2, v(1))
			for _, n := range []int{1500, 1998, 1999, 2000} {
				gives(t, s, l, shape(n), shape(n), true, 2, api.OK)
			}
			for _, n := range []int{2001, 2002, 2003, 4000, 4001} {
				gives(t, s, l, shape(n), shape(n), false, 2, api.ErrFull)
			}
			binds(t, s, 0)
			if t.Failed() {
				t.Fatal("shape", k)
			}
		}
	}
}

// TestMostFalse: P11.1, the 2000th pair still fails, with its level; the 2001st one and those behind it are not looked at.
func TestMostFalse(t *testing.T) {
	f, a, b, v, l := term.Make, term.Atom("a"), term.Atom("b"), term.Let, diamond(t)
	for _, c := range [][2]api.Term{{seal.Put(a, 1), b}, {f("g", seal.Put(a, 1)), f("g", seal.Put(b, 0))}, {v(9), seal.Put(a, 1)}, {f("g", v(0)), v(0)}, {f("g", a), f("g", a, a)}, {seal.Put(f("g", a), 1), seal.Put(term.Num(1), 1)}} {
		level := seal.Join(l, c[0])
		inner := 0
		if len(c[0].Kids) == 1 && c[0].Kids[0].Kind == api.Seal {
			inner = 1 // it is the pair behind the first one that fails
		}
		for _, n := range []int{0, 1, 1000, 1998, 1999, 2000, 2001, 3000} {
			e := api.OK
			at := level
			if n+inner > 1999 {
				e, at = api.ErrFull, 0
			}
			for _, shape := range []func(x api.Term) []api.Term{
				func(x api.Term) []api.Term { return append(some(n), x) },
				func(x api.Term) []api.Term { return append(append(some(n), x), append(some(3), seal.Put(a, 2))...) },
				func(x api.Term) []api.Term { return []api.Term{nest(n, x)} },
				func(x api.Term) []api.Term { return []api.Term{nest(n, x), seal.Put(a, 2)} },
			} {
				s := with(t, 1)
				gives(t, s, l, shape(c[0]), shape(c[1]), false, at, e)
				gives(t, s, l, shape(c[1]), shape(c[0]), false, at, e)
				binds(t, s)
			}
		}
	}
}

// TestMostLevel: P11.1, beside ErrFull stands the join of the 2000 pairs that were processed.
func TestMostLevel(t *testing.T) {
	a := term.Atom("a")
	for _, l := range []*latt.Lattice{diamond(t), turned(t)} {
		for _, n := range []int{0, 1, 1998, 1999, 2000, 2001} {
			all := some(2500)
			all[n] = seal.Put(a, 0)
			want := l.Bottom()
			if n < 2000 {
				want = 0
			}
			for _, as := range [][]api.Term{all, all[:2001]} {
				if len(as) > n {
					gives(t, with(t, 0), l, as, some(len(as)), false, want, api.ErrFull)
					gives(t, with(t, 0), l, some(len(as)), as, false, want, api.ErrFull)
				}
			}
		}
		all := some(2002)
		all[3], all[1999], all[2000], all[2001] = seal.Put(a, 0), seal.Put(a, 3), a, seal.Put(a, 1)
		gives(t, with(t, 0), l, all, some(2002), false, l.Join(0, 3), api.ErrFull)
		gives(t, with(t, 0), l, all[:2000], some(2000), true, l.Join(0, 3), api.OK)
	}
}

// TestMostWays: P1 and P11.1, the pairs may double with each binding: they end at the limit.
func TestMostWays(t *testing.T) {
	f, v, l := term.Make, term.Let, diamond(t)
	s := with(t, 4096)
	for n := range 2000 {
		s.Bind(n, f("p", v(n+1), v(n+1)))
		s.Bind(2048+n, f("p", v(2049+n), v(2049+n)))
	}
	soon(t, func() {
		gives(t, s, l, []api.Term{v(0)}, []api.Term{v(2048)}, false, 0, api.ErrFull)
		gives(t, s, l, []api.Term{v(0)}, []api.Term{v(0)}, false, 0, api.ErrFull)
		// As many as 2 to the 10th, less one, are few enough, and one more of it is too many.
		gives(t, s, l, []api.Term{v(1991)}, []api.Term{v(2048 + 1991)}, true, 0, api.OK)
		s.Undo(4000)
		gives(t, s, l, []api.Term{v(1990)}, []api.Term{v(2048 + 1990)}, false, 0, api.ErrFull)
	})
}

// TestDeep: P1, terms may be deep, also of Seals and in Seals, and in values: they come to an end soon.
func TestDeep(t *testing.T) {
	a, v, l := term.Atom("a"), term.Let, diamond(t)
	seals := a
	for range 60000 {
		seals = sealed(1, seals)
	}
	mixed := a
	for range 30000 {
		mixed = sealed(2, odd(api.Fun, 0, "n", mixed))
	}
	deep := nest(60000, a)
	soon(t, func() {
		ends(t, with(t, 0), l, seals, a, true, 1)
		for _, x := range []api.Term{deep, sealed(2, deep), mixed} {
			level := seal.Join(l, x)
			s := with(t, 2)
			gives(t, s, l, []api.Term{x}, []api.Term{x}, false, level, api.ErrFull)
			gives(t, s, l, []api.Term{x}, []api.Term{deep}, false, level, api.ErrFull)
			ends(t, s, l, x, nest(1000, term.Atom("b")), false, level)
			ends(t, s, l, v(0), x, true, 0)
			ends(t, s, l, nest(1, v(1)), v(0), true, level)
			gives(t, s, l, []api.Term{v(0)}, []api.Term{deep}, false, level, api.ErrFull)
			binds(t, s, 0, 1)
		}
	})
}

// TestStays: P11.1, what was bound stays bound, whatever the end, and what comes behind the end is not bound.
func TestStays(t *testing.T) {
	f, a, b, v, l := term.Make, term.Atom("a"), term.Atom("b"), term.Let, diamond(t)
	for _, c := range [][2]api.Term{{a, b}, {v(0), b}, {v(2), f("f", v(2))}, {sealed(0), sealed(0)}, {v(9), a}, {f("g", v(2), a), f("g", v(2), b)}} {
		s := with(t, 4)
		gives(t, s, l, []api.Term{v(0), f("f", b, v(1)), c[0], v(3)}, []api.Term{a, f("f", b, f("g", v(0))), c[1], a}, false, 0, api.OK)
		walks(t, s, v(0), a)
		walks(t, s, v(1), f("g", v(0)))
		binds(t, s, 0, 1)
	}
	s := with(t, 3000)
	var all []api.Term
	for n := range 2500 {
		all = append(all, v(2500-n))
	}
	gives(t, s, l, all, slices.Repeat([]api.Term{seal.Put(a, 1)}, 2500), false, 0, api.ErrFull)
	var want []int
	for _, x := range all[:2000] {
		want = append(want, int(x.N))
		walks(t, s, x, seal.Put(a, 1))
	}
	binds(t, s, want...)
	// What was bound ahead of the call stays too.
	s = with(t, 3, a)
	ends(t, s, l, v(1), v(0), true, 0)
	ends(t, s, l, f("f", v(2), a), f("f", v(1), b), false, 0)
	binds(t, s, 0, 1, 2)
}

// TestNilStore: P1, a nil store has no variables, so that none can be bound; all else is as it is.
func TestNilStore(t *testing.T) {
	f, a, v, l := term.Make, term.Atom("a"), term.Let, turned(t)
	for _, n := range append(strange(), 0, 1) {
		x := odd(api.Var, n, "")
		ends(t, nil, l, x, x, true, 2)
		ends(t, nil, l, f("f", x, a), f("f", x, a), true, 2)
		for _, y := range []api.Term{a, v(5), f("f", x), seal.Put(a, 3), {}} {
			ends(t, nil, l, x, y, false, 2)
			ends(t, nil, l, y, x, false, 2)
		}
	}
	ends(t, nil, l, f("f", seal.Put(a, 0), term.Num(1)), f("f", a, term.Num(1)), true, 0)
	ends(t, nil, l, f("f", seal.Put(a, 0), seal.Put(a, 3)), f("f", a, term.Num(1)), false, 1)
	gives(t, nil, l, some(2), some(3), false, 2, api.OK)
	gives(t, nil, l, nil, nil, true, 2, api.OK)
	gives(t, nil, l, some(2000), some(2000), true, 2, api.OK)
	gives(t, nil, l, some(2001), some(2001), false, 2, api.ErrFull)
}

// TestNilLattice: P1, a nil lattice has no levels, so that the one returned is -1, as its Bottom is; terms are made the same all the same.
func TestNilLattice(t *testing.T) {
	f, a, b, v := term.Make, term.Atom("a"), term.Atom("b"), term.Let
	s := with(t, 2)
	ends(t, s, nil, f("f", v(0), seal.Put(a, 1), term.Num(3)), f("f", seal.Put(a, 2), v(1), seal.Put(term.Num(3), 0)), true, -1)
	walks(t, s, v(0), seal.Put(a, 2))
	walks(t, s, v(1), seal.Put(a, 1))
	ends(t, s, nil, v(0), b, false, -1)
	ends(t, s, nil, v(0), v(1), true, -1)
	binds(t, s, 0, 1)
	ends(t, s, nil, seal.Put(f("f", a), 1), f("f", v(0)), true, -1)
	walks(t, s, v(0), seal.Put(a, -1))
	ends(t, s, nil, v(1), f("f", v(1)), false, -1)
	gives(t, s, nil, some(2), some(3), false, -1, api.OK)
	gives(t, s, nil, nil, nil, true, -1, api.OK)
	gives(t, s, nil, some(2001), some(2001), false, -1, api.ErrFull)
	ends(t, nil, nil, seal.Put(a, 1), a, true, -1)
	ends(t, nil, nil, v(0), a, false, -1)
}

// TestUnchanged: R3, lists and terms given in are left as they are, with what stands behind them.
func TestUnchanged(t *testing.T) {
	f, a, b, v, l := term.Make, term.Atom("a"), term.Atom("b"), term.Let, diamond(t)
	build := func(last api.Term) []api.Term {
		all := append(make([]api.Term, 0, 9), f("f", v(0), seal.Put(f("g", v(1), a), 1)), seal.Put(f("h", a, seal.Put(b, 2)), 1), v(2), f("i", v(3), f("j", v(4))), last)
		all[:9][6] = term.Atom("behind")
		return all
	}
	other := func() []api.Term {
		all := append(make([]api.Term, 0, 9), f("f", f("k", v(5), b), v(6)), seal.Put(f("h", a, v(7)), 2), f("l", v(1), v(5)), f("i", f("m", a), v(8)), a)
		all[:9][7] = b
		return all
	}
	for _, last := range []api.Term{a, b, f("f", append(some(2500), v(0))...)} {
		s := with(t, 9)
		as, bs := build(last), other()
		Match(s, l, as, bs)
		Match(s, l, bs, as)
		for n := range as {
			Unify(s, l, as[n], bs[n])
			Unify(with(t, 9), l, seal.Put(as[n], 1), bs[n])
		}
		Match(with(t, 9), nil, as, bs)
		Match(nil, l, as, bs)
		if want := build(last); len(as) != len(want) || !slices.EqualFunc(as[:9], want[:9], term.Same) {
			t.Error("the first list has changed", brief(as[:9]...))
		}
		if want := other(); len(bs) != len(want) || !slices.EqualFunc(bs[:9], want[:9], term.Same) {
			t.Error("the second list has changed", brief(bs[:9]...))
		}
	}
}

// TestApart: R3, what is bound shares no memory with what was given, nor with another part.
func TestApart(t *testing.T) {
	f, a, v, l := term.Make, term.Atom("a"), term.Let, diamond(t)
	s := with(t, 5)
	x := f("f", f("g", a, v(4)), seal.Put(f("h", a), 1), v(2))
	y := f("f", v(0), v(1), f("i", f("j", a), a))
	z := seal.Put(f("f", f("g", a)), 2)
	ends(t, s, l, x, y, true, 0)
	ends(t, s, l, z, f("f", v(3)), true, 2)
	ends(t, s, l, v(4), v(3), true, 0)
	spoil(&x)
	spoil(&y)
	spoil(&z)
	for n, want := range []api.Term{f("g", a, v(4)), seal.Put(f("h", a), 1), f("i", f("j", a), a), seal.Put(f("g", a), 2), seal.Put(f("g", a), 2)} {
		walks(t, s, v(n), want)
	}
}

// TestAgain: R4, what a call answers hangs on no call ahead of it but for what these bound in the same store.
func TestAgain(t *testing.T) {
	f, a, v, l := term.Make, term.Atom("a"), term.Let, diamond(t)
	for range 3 {
		s := with(t, 2)
		gives(t, s, l, some(2001), some(2001), false, 0, api.ErrFull)
		ends(t, s, l, f("f", v(0), seal.Put(a, 1)), f("f", seal.Put(a, 2), a), true, 1)
		ends(t, s, l, v(0), a, true, 2)
		ends(t, s, l, v(1), a, true, 0)
		ends(t, s, turned(t), a, a, true, 2)
		gives(t, s, l, some(2000), some(2000), true, 0, api.OK)
		binds(t, s, 0, 1)
	}
}

// wantOpen is Open by chapter 4's words: the term, and the levels of the Seals that are taken off.
func wantOpen(x api.Term) (api.Term, []int64) {
	if x.Kind != api.Seal || len(x.Kids) != 1 {
		return x, nil
	}
	core, levels := wantOpen(x.Kids[0])
	return core, append(levels, x.N)
}

// wantJoin is the join of levels, where a number that is no level is Top; joins are found by asking for each level what is below it.
func wantJoin(l *latt.Lattice, levels ...int64) int {
	join := -1
	for c := range l.Len() {
		above := join < 0 || l.Leq(c, join)
		for _, n := range levels {
			if n < 0 || n >= int64(l.Len()) {
				above = above && l.Leq(l.Top(), c)
			} else {
				above = above && l.Leq(int(n), c)
			}
		}
		if above {
			join = c
		}
	}
	return join
}

// wantMatch is P11.1's Match, with all pairs that are left in one list.
func wantMatch(s *store.Store, l *latt.Lattice, as, bs []api.Term) (bool, int, api.Errno) {
	level := wantJoin(l)
	if len(as) != len(bs) {
		return false, level, api.OK
	}
	as, bs = slices.Clone(as), slices.Clone(bs)
	for count := 1; len(as) > 0; count++ {
		if count == 2001 {
			return false, level, api.ErrFull
		}
		x, y := s.Walk(as[0]), s.Walk(bs[0])
		as, bs = as[1:], bs[1:]
		if x.Kind == 1 && y.Kind == 1 && x.N == y.N {
			continue
		}
		if x.Kind == 1 || y.Kind == 1 {
			e := api.ErrNone
			if x.Kind == 1 {
				e = s.Bind(int(x.N), y)
			} else {
				e = s.Bind(int(y.N), x)
			}
			if e != api.OK {
				return false, level, api.OK
			}
			continue
		}
		x, inX := wantOpen(x)
		y, inY := wantOpen(y)
		level = wantJoin(l, append([]int64{int64(level)}, append(slices.Clone(inX), inY...)...)...)
		if x.Kind == 2 && y.Kind == 2 && x.N == y.N {
			continue
		}
		if x.Kind != 3 || y.Kind != 3 || x.S != y.S || len(x.Kids) != len(y.Kids) {
			return false, level, api.OK
		}
		as = slices.Concat(wantKids(l, x, inX), as)
		bs = slices.Concat(wantKids(l, y, inY), bs)
	}
	return true, level, api.OK
}

// wantKids are the Kids of a term that was opened.
func wantKids(l *latt.Lattice, x api.Term, levels []int64) []api.Term {
	if len(levels) == 0 {
		return x.Kids
	}
	var kids []api.Term
	for _, kid := range x.Kids {
		kids = append(kids, sealed(int64(wantJoin(l, levels...)), kid))
	}
	return kids
}

// anyTerm is a term at random: one that is valid for four levels and that many variables, or one that need not be.
func anyTerm(r *rand.Rand, deep, vars int, valid bool) api.Term {
	kind := []int{1, 1, 1, 2, 2, 3, 3, 3, 3, 3, 3, 4, 4, 4}[r.Intn(14)]
	if !valid && r.Intn(12) == 0 {
		kind = []int{0, 5, -1}[r.Intn(3)]
	}
	switch {
	case kind == 1 && vars > 0:
		n := int64(r.Intn(vars))
		if !valid && r.Intn(20) == 0 {
			n = strange()[r.Intn(15)]
		}
		return odd(1, n, "")
	case kind == 2:
		return term.Num(int64(r.Intn(2)))
	case kind == 4:
		x := sealed(int64(r.Intn(4)))
		if !valid && r.Intn(6) == 0 {
			x.N = strange()[r.Intn(15)]
		}
		inner := 0
		if !valid && r.Intn(4) == 0 {
			inner = vars
		}
		x.Kids = []api.Term{anyTerm(r, deep-1, inner, valid)}
		if !valid && r.Intn(12) == 0 {
			x.Kids = slices.Repeat(x.Kids, 2*r.Intn(2))
		}
		return x
	}
	x := odd(kind, 0, []string{"f", "f", "g"}[r.Intn(3)])
	if kind == 1 || deep <= 0 {
		return term.Atom([]string{"a", "a", "b"}[r.Intn(3)])
	}
	for range []int{0, 1, 1, 2, 2, 2}[r.Intn(6)] {
		x.Kids = append(x.Kids, anyTerm(r, deep-1, vars, valid))
	}
	return x
}

// like is a term that is much like another one: here and there a part of it is another term, or is in a Seal.
func like(r *rand.Rand, x api.Term, vars int, valid bool) api.Term {
	if r.Intn(7) == 0 {
		return anyTerm(r, 2, vars, valid)
	}
	kids := slices.Clone(x.Kids)
	for k := range kids {
		inner := vars
		if x.Kind == api.Seal && valid {
			inner = 0
		}
		kids[k] = like(r, kids[k], inner, valid)
	}
	x.Kids = kids
	if r.Intn(7) == 0 && (!valid || len(term.Vars(x)) == 0) {
		return sealed(int64(r.Intn(4)), x)
	}
	return x
}

// anyValues are what the variables of a store are bound to at random; each one is bound to what has only later ones, so that none leads back to itself.
func anyValues(r *rand.Rand, vars int, valid bool) []api.Term {
	var l []api.Term
	for v := range vars {
		l = append(l, term.Let(v))
		if r.Intn(3) == 0 {
			l[v] = term.Shift(anyTerm(r, 2, vars-v-1, valid), v+1)
		}
	}
	return l
}

// stored is a store of these values, but for variables that are themselves, which are free.
func stored(t *testing.T, values []api.Term) *store.Store {
	t.Helper()
	s := with(t, len(values))
	for v, x := range values {
		if !term.Same(x, term.Let(v)) {
			s.Bind(v, x)
		}
	}
	return s
}

// TestAny: P11.1, lists at random, alike and not, against a second Match by the chapter's words.
func TestAny(t *testing.T) {
	r := rand.New(rand.NewSource(11))
	count := map[string]int{}
	for k := range 40000 {
		l := []*latt.Lattice{diamond(t), turned(t), lattice(t, 2, [2]int{1, 0}), lattice(t, 1)}[k%4]
		valid := r.Intn(2) == 0
		values := anyValues(r, 6, valid)
		var as, bs []api.Term
		for range 1 + r.Intn(3) {
			as = append(as, anyTerm(r, 4, 6, valid))
			bs = append(bs, like(r, as[len(as)-1], 6, valid))
		}
		if r.Intn(100) == 0 {
			bs = bs[1:]
		}
		s, again := stored(t, values), stored(t, values)
		is, level, e := wantMatch(again, l, as, bs)
		gives(t, s, l, as, bs, is, level, e)
		count[fmt.Sprint(is, level, e)]++
		for v := range 6 {
			walks(t, s, term.Let(v), again.Walk(term.Let(v)))
		}
		if got, want := trail(s, 6), trail(again, 6); !slices.Equal(got, want) {
			t.Error("bound are", got, "want", want)
		}
		if t.Failed() {
			t.Fatal(values)
		}
	}
	for _, c := range []string{"true 0 ok", "true 1 ok", "true 2 ok", "true 3 ok", "false 0 ok", "false 1 ok", "false 2 ok", "false 3 ok"} {
		if count[c] < 500 {
			t.Error("too few of", c, count)
		}
	}
}

// filled is Full of a term; it has to be within the limits.
func filled(t *testing.T, s *store.Store, x api.Term) api.Term {
	t.Helper()
	full, e := s.Full(x)
	if e != api.OK {
		t.Fatal(brief(x), e)
	}
	return full
}

// TestSameAfter: P11.2, terms that were made the same are so after Full and without their Seals.
func TestSameAfter(t *testing.T) {
	r := rand.New(rand.NewSource(12))
	l, done := diamond(t), 0
	for range 20000 {
		s := stored(t, anyValues(r, 6, true))
		a := anyTerm(r, 3, 6, true)
		b := like(r, a, 6, true)
		if is, _, _ := Unify(s, l, a, b); !is {
			continue
		}
		done++
		x, y := filled(t, s, a), filled(t, s, b)
		if !term.Same(seal.Erase(x), seal.Erase(y)) {
			t.Fatal(brief(a, x), brief(b, y))
		}
	}
	if done < 4000 {
		t.Error("too few", done)
	}
}

// TestErased: P3 and P11.2, without their Seals terms are made the same exactly if they are with them, and what is bound then is the same but for them.
func TestErased(t *testing.T) {
	r := rand.New(rand.NewSource(13))
	count := map[bool]int{}
	for range 20000 {
		values := anyValues(r, 6, true)
		var bare []api.Term
		for _, x := range values {
			bare = append(bare, seal.Erase(x))
		}
		a := anyTerm(r, 3, 6, true)
		b := like(r, a, 6, true)
		s, again := stored(t, values), stored(t, bare)
		is, _, _ := Unify(s, diamond(t), a, b)
		count[is]++
		ends(t, again, diamond(t), seal.Erase(a), seal.Erase(b), is, 0)
		for v := range 6 {
			x, y := filled(t, s, term.Let(v)), filled(t, again, term.Let(v))
			if !term.Same(seal.Erase(x), y) {
				t.Fatal(v, brief(a, x), brief(b, y))
			}
		}
	}
	if count[true] < 4000 || count[false] < 4000 {
		t.Error("too few", count)
	}
}

// TestLevelMost: P11.2, the level is no higher than the join of all levels in both terms and in what their variables are bound to.
func TestLevelMost(t *testing.T) {
	r := rand.New(rand.NewSource(14))
	var equal, lower int
	for k := range 20000 {
		l := []*latt.Lattice{diamond(t), turned(t)}[k%2]
		s := stored(t, anyValues(r, 6, true))
		a := anyTerm(r, 3, 6, true)
		b := like(r, a, 6, true)
		most := seal.Join(l, term.Make("f", filled(t, s, a), filled(t, s, b)))
		_, level, _ := Unify(s, l, a, b)
		if !l.Leq(level, most) {
			t.Fatal(brief(a), brief(b), level, most)
		}
		if level == most {
			equal++
		} else {
			lower++
		}
	}
	if equal < 1000 || lower < 1000 {
		t.Error("too few", equal, lower)
	}
}
