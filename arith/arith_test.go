package arith

import (
	"fmt"
	"math"
	"math/big"
	"math/rand"
	"slices"
	"strings"
	"testing"
	"time"

	"torchere/api"
	"torchere/latt"
	"torchere/seal"
	"torchere/store"
	"torchere/term"
)

// low and top are the ends of the range.
const (
	low = math.MinInt64
	top = math.MaxInt64
)

// sealed is a Seal of that number around these, as they are and not copied.
func sealed(n int64, kids ...api.Term) api.Term {
	return api.Term{Kind: api.Seal, N: n, Kids: kids}
}

// odd is a term of that Kind, which need not be one that there is, with all fields filled.
func odd(kind int, n int64, s string, kids ...api.Term) api.Term {
	return api.Term{Kind: kind, N: n, S: s, Kids: kids}
}

// fun is a Fun around these, as they are and not copied.
func fun(s string, kids ...api.Term) api.Term {
	return odd(api.Fun, 0, s, kids...)
}

// of is an operation on two numbers.
func of(name string, a, b int64) api.Term {
	return fun(name, term.Num(a), term.Num(b))
}

// nest is core with that many signs around it.
func nest(deep int, core api.Term) api.Term {
	for range deep {
		core = fun("-", core)
	}
	return core
}

// brief is how a term begins, so that a fault of a great one can be read.
func brief(x api.Term) string {
	return fmt.Sprintf("%.300q", fmt.Sprint(x))
}

// spoil changes every part of a term where it stands.
func spoil(x *api.Term) {
	for k := range x.Kids {
		spoil(&x.Kids[k])
	}
	*x = odd(99, 99, "spoilt")
}

// soon fails if a call does not end.
func soon(t *testing.T, call func()) {
	t.Helper()
	done := make(chan struct{})
	go func() {
		defer close(done)
		call()
	}()
	select {
	case <-done:
	case <-time.After(time.Minute):
		t.Fatal("there is no end")
	}
}

// lattice is the one of these pairs; there has to be one.
func lattice(t *testing.T, n int, below ...[2]int) *latt.Lattice {
	t.Helper()
	l, e := latt.New(n, below)
	if e != api.OK {
		t.Fatal(n, below, e)
	}
	return l
}

// diamond has 0 at the bottom, 3 at the top, and 1 and 2 between them, neither below the other.
func diamond(t *testing.T) *latt.Lattice {
	t.Helper()
	return lattice(t, 4, [2]int{0, 1}, [2]int{0, 2}, [2]int{1, 3}, [2]int{2, 3})
}

// turned has 2 at the bottom, 1 at the top, and 0 and 3 between them.
func turned(t *testing.T) *latt.Lattice {
	t.Helper()
	return lattice(t, 4, [2]int{2, 0}, [2]int{2, 3}, [2]int{0, 1}, [2]int{3, 1})
}

// with is a store of that many variables, of which the first ones are bound to these, in order.
func with(t *testing.T, n int, values ...api.Term) *store.Store {
	t.Helper()
	s := store.New()
	if _, e := s.Fresh(n); e != api.OK {
		t.Fatal(n, e)
	}
	for v, x := range values {
		if e := s.Bind(v, x); e != api.OK {
			t.Fatal(v, brief(x), e)
		}
	}
	return s
}

// gives holds Eval to that answer.
func gives(t *testing.T, s *store.Store, l *latt.Lattice, x api.Term, n int64, level int, e api.Errno) {
	t.Helper()
	if gotN, gotLevel, got := Eval(s, l, x); gotN != n || gotLevel != level || got != e {
		t.Errorf("Eval of %s: %d, %d, %v; want %d, %d, %v", brief(x), gotN, gotLevel, got, n, level, e)
	}
}

// is holds Eval to that value of a term without Seals, at the bottom of any lattice.
func is(t *testing.T, s *store.Store, x api.Term, n int64) {
	t.Helper()
	gives(t, s, diamond(t), x, n, 0, api.OK)
	gives(t, s, turned(t), x, n, 2, api.OK)
}

// fails holds Eval to that error of a term without Seals, at the bottom of any lattice.
func fails(t *testing.T, s *store.Store, x api.Term, e api.Errno) {
	t.Helper()
	gives(t, s, diamond(t), x, 0, 0, e)
	gives(t, s, turned(t), x, 0, 2, e)
}

// edges are numbers at the ends of the range, at powers of two, at 0, and some others.
func edges() []int64 {
	l := []int64{0, 7, -7, 10, -10, 3037000499, 3037000500, -3037000499, -3037000500, 6148914691236517205, -6148914691236517206}
	for _, n := range []int64{1, 2, 3, 4, 5} {
		l = append(l, n, -n, top-n+1, low+n-1, top/n, low/n, low/-(n+1))
	}
	for _, n := range []int{8, 16, 31, 32, 33, 48, 61, 62} {
		m := int64(1) << n
		l = append(l, m-1, m, m+1, -m-1, -m, -m+1)
	}
	slices.Sort(l)
	return slices.Compact(l)
}

// exact is the value of an operation without a range, and whether there is one.
func exact(name string, a, b int64) (*big.Int, bool) {
	x, y, n := big.NewInt(a), big.NewInt(b), new(big.Int)
	switch name {
	case "+":
		return n.Add(x, y), true
	case "-":
		return n.Sub(x, y), true
	case "*":
		return n.Mul(x, y), true
	}
	if b == 0 {
		return nil, false
	}
	if name == "//" {
		return n.Quo(x, y), true
	}
	// What is left of the floor of the quotient.
	floor, rest := new(big.Int).QuoRem(x, y, n)
	if rest.Sign() != 0 && rest.Sign() != y.Sign() {
		floor.Sub(floor, big.NewInt(1))
	}
	return n.Sub(x, floor.Mul(floor, y)), true
}

// kept is a number in the range, or ErrEval.
func kept(n *big.Int, ok bool) (int64, api.Errno) {
	if !ok || !n.IsInt64() {
		return 0, api.ErrEval
	}
	return n.Int64(), api.OK
}

// TestExample: P12.1, the chapter's examples and the document's.
func TestExample(t *testing.T) {
	s := with(t, 0)
	is(t, s, of("//", 7, -2), -3)
	is(t, s, of("mod", -7, 2), 1)
	is(t, s, fun("-", of("-", 1, 2), term.Num(3)), -4)
}

// TestInts: P12.1, an Int is its number, whatever else it holds.
func TestInts(t *testing.T) {
	s := with(t, 1)
	for _, n := range edges() {
		is(t, s, term.Num(n), n)
		is(t, s, odd(api.Int, n, "X"), n)
		is(t, s, odd(api.Int, n, "+", sealed(3, term.Atom("a")), term.Let(0)), n)
		is(t, s, odd(api.Int, n, "", slices.Repeat([]api.Term{term.Let(0)}, 3000)...), n)
	}
}

// TestTwo: P12.1, all operations on two numbers, of all that are at the edges, are as without a range, or ErrEval beyond it.
func TestTwo(t *testing.T) {
	s, l := with(t, 0), diamond(t)
	for _, name := range []string{"+", "-", "*", "//", "mod"} {
		within, beyond := 0, 0
		for _, a := range edges() {
			for _, b := range edges() {
				n, e := kept(exact(name, a, b))
				gives(t, s, l, of(name, a, b), n, 0, e)
				if e == api.OK {
					within++
				} else {
					beyond++
				}
			}
		}
		if within < 100 || beyond < 50 {
			t.Error(name, within, beyond)
		}
	}
}

// TestOne: P12.1, the negative and the absolute value.
func TestOne(t *testing.T) {
	s := with(t, 0)
	for _, n := range edges() {
		x := big.NewInt(n)
		for name, want := range map[string]*big.Int{"-": new(big.Int).Neg(x), "abs": new(big.Int).Abs(x)} {
			m, e := kept(want, true)
			gives(t, s, diamond(t), fun(name, term.Num(n)), m, 0, e)
		}
	}
}

// TestRange: P12.1, results just within and just beyond both ends of the range.
func TestRange(t *testing.T) {
	s := with(t, 0)
	for _, c := range []struct {
		x api.Term
		n int64
	}{
		{of("+", top-1, 1), top},
		{of("+", top, 0), top},
		{of("+", low, top), -1},
		{of("+", low+1, -1), low},
		{of("+", -1<<62, -1<<62), low},
		{of("+", 1<<62, 1<<62-1), top},
		{of("-", top, 0), top},
		{of("-", -1, low), top},
		{of("-", -1, top), low},
		{of("-", low, 0), low},
		{of("-", low, low), 0},
		{of("-", top, top), 0},
		{of("-", 0, top), -top},
		{of("*", 1<<31, -1<<32), low},
		{of("*", -1<<31, 1<<32), low},
		{of("*", low, 1), low},
		{of("*", 1, low), low},
		{of("*", 0, low), 0},
		{of("*", low, 0), 0},
		{of("*", top, -1), -top},
		{of("*", -1, top), -top},
		{of("*", 3037000499, 3037000499), 9223372030926249001},
		{of("*", 7, 1317624576693539401), top},
		{fun("-", term.Num(top)), -top},
		{fun("-", term.Num(-top)), top},
		{fun("-", term.Num(0)), 0},
		{fun("abs", term.Num(-top)), top},
		{fun("abs", term.Num(top)), top},
		{fun("abs", term.Num(0)), 0},
	} {
		is(t, s, c.x, c.n)
	}
	for _, x := range []api.Term{
		of("+", top, 1), of("+", 1, top), of("+", top, top), of("+", 1<<62, 1<<62), of("+", low, -1), of("+", -1, low), of("+", low, low), of("+", -1<<62, -1<<62-1),
		of("-", top, -1), of("-", low, 1), of("-", 0, low), of("-", -2, top), of("-", top, low), of("-", low, top),
		of("*", 1<<31, 1<<32), of("*", -1<<31, -1<<32), of("*", low, -1), of("*", -1, low), of("*", low, low), of("*", top, 2), of("*", 2, top), of("*", 3037000500, 3037000500), of("*", low, 2), of("*", 1<<32, 1<<32), of("*", 7, 1317624576693539402),
		of("//", low, -1), fun("-", term.Num(low)), fun("abs", term.Num(low)),
	} {
		fails(t, s, x, api.ErrEval)
	}
}

// TestDivision: P12.1, the quotient is rounded toward 0, and what mod leaves has the sign of the second number, with all signs; by 0 there is neither.
func TestDivision(t *testing.T) {
	s := with(t, 0)
	for _, c := range [][4]int64{
		{7, 2, 3, 1}, {7, -2, -3, -1}, {-7, 2, -3, 1}, {-7, -2, 3, -1},
		{6, 2, 3, 0}, {6, -2, -3, 0}, {-6, 2, -3, 0}, {-6, -2, 3, 0},
		{1, 5, 0, 1}, {1, -5, 0, -4}, {-1, 5, 0, 4}, {-1, -5, 0, -1},
		{0, 3, 0, 0}, {0, -3, 0, 0}, {5, 1, 5, 0}, {-5, 1, -5, 0}, {5, -1, -5, 0}, {-5, -1, 5, 0},
		{top, -1, -top, 0}, {-top, -1, top, 0}, {low, 1, low, 0}, {low, low, 1, 0}, {top, top, 1, 0},
		{low, top, -1, top - 1}, {top, low, 0, -1}, {1, low, 0, low + 1}, {-1, low, 0, -1}, {-1, top, 0, top - 1}, {1, top, 0, 1},
		{low, 2, -1 << 62, 0}, {low, -2, 1 << 62, 0}, {low, 10, -922337203685477580, 2}, {low, -10, 922337203685477580, -8},
	} {
		is(t, s, of("//", c[0], c[1]), c[2])
		is(t, s, of("mod", c[0], c[1]), c[3])
	}
	is(t, s, of("mod", low, -1), 0)
	fails(t, s, of("//", low, -1), api.ErrEval)
	for _, n := range edges() {
		fails(t, s, of("//", n, 0), api.ErrEval)
		fails(t, s, of("mod", n, 0), api.ErrEval)
	}
}

// TestNested: P12.1, operations within operations; the range holds for each of them, not only for the last one.
func TestNested(t *testing.T) {
	s, n := with(t, 0), term.Num
	is(t, s, fun("+", of("*", 3, 4), of("-", 5, 7)), 10)
	is(t, s, fun("-", of("-", 10, 3), of("-", 2, 4)), 9)
	is(t, s, fun("mod", fun("-", n(7)), fun("abs", n(-3))), 2)
	is(t, s, fun("//", fun("abs", of("-", 2, 9)), fun("-", of("mod", 7, 4))), -2)
	is(t, s, fun("-", fun("-", fun("-", n(8)))), -8)
	is(t, s, fun("-", n(top), fun("-", n(1), n(1))), top)
	fails(t, s, fun("-", of("+", top, 1), n(1)), api.ErrEval)
	fails(t, s, fun("*", n(0), fun("abs", n(low))), api.ErrEval)
	fails(t, s, fun("-", fun("-", n(low))), api.ErrEval)
	fails(t, s, fun("mod", n(1), of("-", 4, 4)), api.ErrEval)
}

// strange are numbers that are of no variable of a store of a few; some are those of one in their lowest bits.
func strange() []int64 {
	return []int64{-1, 9, 4095, 4096, 1 << 16, 1<<31 - 1, 1 << 31, 1 << 32, 1<<32 + 1, -1 << 31, -1 << 32, 1<<62 + 1, top, low, low + 1}
}

// TestFree: P12.1, a free variable is ErrInst, and so is one that there is not, whatever else it holds.
func TestFree(t *testing.T) {
	s := with(t, 3)
	for _, n := range append(strange(), 0, 1, 2) {
		for _, x := range []api.Term{odd(api.Var, n, ""), odd(api.Var, n, "X"), odd(api.Var, n, "+", term.Num(1), term.Num(2)), odd(api.Var, n, "", sealed(3, term.Num(1)))} {
			fails(t, s, x, api.ErrInst)
			fails(t, s, fun("-", x), api.ErrInst)
			fails(t, s, fun("+", term.Num(1), x), api.ErrInst)
		}
	}
	fails(t, store.New(), term.Let(0), api.ErrInst)
}

// TestBound: P12.1, a bound variable has the value of what it leads to, over several bindings; one that leads to a free one is ErrInst.
func TestBound(t *testing.T) {
	n, v := term.Num, term.Let
	s := with(t, 12, n(5), v(0), v(1), fun("*", v(2), v(0)), fun("+", v(3), v(9)), v(11), term.Atom("a"), odd(api.Int, 4, "S", n(9)))
	is(t, s, v(0), 5)
	is(t, s, v(1), 5)
	is(t, s, v(2), 5)
	is(t, s, v(3), 25)
	is(t, s, v(7), 4)
	is(t, s, fun("-", v(3), v(2)), 20)
	is(t, s, fun("abs", fun("-", v(3))), 25)
	is(t, s, odd(api.Var, 2, "X", v(9)), 5)
	fails(t, s, v(4), api.ErrInst)
	fails(t, s, v(5), api.ErrInst)
	fails(t, s, v(6), api.ErrType)
	fails(t, s, fun("+", v(0), v(5)), api.ErrInst)
	s.Bind(9, of("*", 3, -3))
	is(t, s, v(4), 16)
	s.Undo(s.Mark() - 1)
	fails(t, s, v(4), api.ErrInst)
	s.Undo(0)
	fails(t, s, v(0), api.ErrInst)
	// Over as many bindings as there may be.
	s = with(t, 4096)
	for k := range 4095 {
		s.Bind(k, v(k+1))
	}
	fails(t, s, v(0), api.ErrInst)
	s.Bind(4095, n(-8))
	is(t, s, v(0), -8)
	is(t, s, fun("mod", v(0), fun("-", v(77))), 0)
}

// TestSeals: P12.1, Seals are taken off, one in another, around the whole, a Kid and what a variable is bound to, and the levels of all of them are joined.
func TestSeals(t *testing.T) {
	n, v, put := term.Num, term.Let, seal.Put
	for _, c := range []struct {
		x        api.Term
		n        int64
		one, two int
	}{
		{put(n(4), 0), 4, 0, 0},
		{put(n(4), 1), 4, 1, 1},
		{put(n(4), 2), 4, 2, 2},
		{put(n(4), 3), 4, 3, 3},
		{put(put(n(4), 2), 0), 4, 2, 0},
		{put(put(n(4), 1), 2), 4, 3, 1},
		{put(put(put(n(4), 0), 3), 2), 4, 3, 1},
		{put(put(put(n(4), 2), 2), 2), 4, 2, 2},
		{put(of("+", 1, 2), 1), 3, 1, 1},
		{put(put(of("+", 1, 2), 2), 3), 3, 3, 3},
		{fun("+", put(n(1), 1), n(2)), 3, 1, 1},
		{fun("+", n(1), put(n(2), 2)), 3, 2, 2},
		{fun("+", put(n(1), 1), put(n(2), 2)), 3, 3, 1},
		{fun("+", put(n(1), 0), put(n(2), 3)), 3, 3, 1},
		{fun("-", put(put(n(2), 0), 2)), -2, 2, 0},
		{fun("abs", put(n(-2), 3)), 2, 3, 3},
		{put(fun("+", put(n(1), 0), n(2)), 2), 3, 2, 0},
		{put(fun("+", n(1), put(fun("-", put(n(2), 1)), 0)), 2), -1, 3, 1},
		{put(fun("*", put(of("-", 5, 2), 2), put(put(of("//", 9, 2), 2), 2)), 2), 12, 2, 2},
		{v(0), 5, 1, 1},
		{v(1), 5, 1, 1},
		{v(2), 6, 2, 2},
		{v(3), 7, 2, 0},
		{v(4), 7, 2, 0},
		{fun("+", v(0), v(4)), 12, 3, 1},
		{fun("+", v(5), v(2)), 14, 2, 2},
		{sealed(4, n(1)), 1, 3, 1},
		{sealed(-1, n(1)), 1, 3, 1},
		{sealed(1<<32, n(1)), 1, 3, 1},
		{sealed(low, sealed(top, n(1))), 1, 3, 1},
		{fun("+", n(1), sealed(0, sealed(99, n(1)))), 2, 3, 1},
		{odd(api.Seal, 1, "S", odd(api.Seal, 1, "T", odd(api.Int, 8, "U"))), 8, 1, 1},
	} {
		s := with(t, 6, put(n(5), 1), v(0), put(of("+", 4, 2), 2), put(put(n(7), 0), 2), v(3), n(8))
		gives(t, s, diamond(t), c.x, c.n, c.one, api.OK)
		gives(t, s, turned(t), c.x, c.n, c.two, api.OK)
	}
	gives(t, with(t, 0), lattice(t, 1), sealed(5, sealed(0, n(3))), 3, 0, api.OK)
}

// TestSealsOfOther: P12.1, only what is opened counts: Seals within Ints, variables and what is no operation do not.
func TestSealsOfOther(t *testing.T) {
	secret := sealed(3, term.Num(1))
	s := with(t, 2, odd(api.Int, 2, "", secret))
	is(t, s, odd(api.Int, 7, "", secret), 7)
	is(t, s, fun("+", odd(api.Int, 7, "", secret, secret), term.Let(0)), 9)
	fails(t, s, odd(api.Var, 1, "", secret), api.ErrInst)
	for _, x := range []api.Term{fun("f", secret), fun("+", secret), fun("abs", secret, secret), fun("f", secret, secret), fun("mod", secret, secret, secret), odd(8, 0, "+", secret, secret), sealed(3), sealed(3, secret, secret)} {
		fails(t, s, x, api.ErrType)
		fails(t, s, fun("-", x), api.ErrType)
		fails(t, s, fun("-", x, secret), api.ErrType)
	}
}

// TestVariableInSeal: P12.1, what a Seal is opened to is not walked again, so a variable within one is ErrInst, bound or not, at the level of the Seal.
func TestVariableInSeal(t *testing.T) {
	n, v, l := term.Num, term.Let, diamond(t)
	s := with(t, 4, n(5), sealed(1, v(0)), v(1))
	for _, c := range []struct {
		x     api.Term
		level int
	}{
		{sealed(2, v(0)), 2},
		{sealed(2, v(3)), 2},
		{sealed(2, sealed(1, v(0))), 3},
		{sealed(7, v(9)), 3},
		{v(1), 1},
		{v(2), 1},
		{fun("-", sealed(2, v(0))), 2},
		{fun("+", v(0), v(2)), 1},
		{sealed(1, fun("-", v(0))), 1},
		{sealed(2, fun("+", n(1), fun("abs", v(0)))), 2},
		{fun("+", sealed(2, n(3)), v(1)), 3},
	} {
		gives(t, s, l, c.x, 0, c.level, api.ErrInst)
	}
}

// TestLevelOfError: P12.1, with an error comes the level of what was opened up to there, the last term too, and of no more.
func TestLevelOfError(t *testing.T) {
	a, n, v, put := term.Atom("a"), term.Num, term.Let, seal.Put
	for _, c := range []struct {
		x        api.Term
		one, two int
		e        api.Errno
	}{
		{put(a, 1), 1, 1, api.ErrType},
		{put(put(a, 0), 2), 2, 0, api.ErrType},
		{fun("+", put(a, 0), put(n(1), 3)), 0, 0, api.ErrType},
		{fun("+", put(n(1), 0), put(a, 3)), 3, 1, api.ErrType},
		{fun("+", put(n(1), 1), v(1)), 1, 1, api.ErrInst},
		{fun("+", v(1), put(n(1), 1)), 0, 2, api.ErrInst},
		{put(fun("+", v(1), n(1)), 3), 3, 3, api.ErrInst},
		{fun("-", fun("+", put(n(1), 2), fun("abs", v(0))), put(n(1), 3)), 3, 1, api.ErrType},
		{fun("//", put(n(1), 1), put(n(0), 2)), 3, 1, api.ErrEval},
		{put(fun("mod", n(1), n(0)), 0), 0, 0, api.ErrEval},
		{fun("+", fun("//", put(n(1), 0), n(0)), put(n(0), 3)), 0, 0, api.ErrEval},
		{fun("+", put(n(top), 1), put(n(1), 2)), 3, 1, api.ErrEval},
		{fun("abs", put(n(low), 2)), 2, 2, api.ErrEval},
		{put(fun("+", put(n(1), 3)), 0), 0, 0, api.ErrType},
		{sealed(1, sealed(2)), 1, 1, api.ErrType},
		{sealed(1, sealed(2, n(1), n(1))), 1, 1, api.ErrType},
		{sealed(0, sealed(3, odd(7, 1, "+", put(n(1), 1)))), 3, 1, api.ErrType},
	} {
		s := with(t, 2, put(a, 1))
		gives(t, s, diamond(t), c.x, 0, c.one, c.e)
		gives(t, s, turned(t), c.x, 0, c.two, c.e)
	}
}

// TestFirstError: P12.1, Kids are evaluated in order and the first error ends it, ahead of an error of the operation itself.
func TestFirstError(t *testing.T) {
	s, n := with(t, 1), term.Num
	faults := []struct {
		x api.Term
		e api.Errno
	}{{term.Let(0), api.ErrInst}, {term.Atom("a"), api.ErrType}, {of("//", 1, 0), api.ErrEval}, {of("*", top, 2), api.ErrEval}, {fun("-", fun("-", term.Let(0))), api.ErrInst}, {fun("abs", fun("f", n(1))), api.ErrType}, {nest(2000, n(1)), api.ErrFull}}
	for _, name := range []string{"+", "-", "*", "//", "mod"} {
		for _, a := range faults {
			for _, b := range faults {
				fails(t, s, fun(name, a.x, b.x), a.e)
				fails(t, s, fun(name, n(7), fun(name, a.x, b.x)), a.e)
			}
			fails(t, s, fun(name, a.x, n(0)), a.e)
			fails(t, s, fun(name, n(top), a.x), a.e)
			fails(t, s, fun(name, n(0), a.x), a.e)
			fails(t, s, fun(name, of("+", 2, 2), fun("-", fun("-", a.x))), a.e)
		}
	}
	for _, a := range faults {
		fails(t, s, fun("-", a.x), a.e)
		fails(t, s, fun("abs", a.x), a.e)
	}
}

// TestKids: P12.1, the name of an operation with another number of Kids is ErrType.
func TestKids(t *testing.T) {
	s := with(t, 1)
	for _, name := range []string{"+", "-", "*", "//", "mod", "abs"} {
		for many := range 10 {
			if many == 2 && name != "abs" || many == 1 && (name == "-" || name == "abs") {
				continue
			}
			for _, kid := range []api.Term{term.Num(1), term.Let(0), of("//", 1, 0)} {
				x := fun(name, slices.Repeat([]api.Term{kid}, many)...)
				fails(t, s, x, api.ErrType)
				fails(t, s, fun("+", term.Num(1), x), api.ErrType)
			}
		}
		fails(t, s, fun(name, slices.Repeat([]api.Term{term.Num(1)}, 5000)...), api.ErrType)
		x := fun(name)
		x.Kids = []api.Term{}
		fails(t, s, x, api.ErrType)
	}
}

// TestNames: P12.1, any other name is ErrType, and its Kids are not evaluated; N of a Fun does not count.
func TestNames(t *testing.T) {
	s, n := with(t, 1), term.Num
	for _, name := range []string{"", "f", "a", "++", "--", "+ ", " +", "+\x00", "/", "///", "**", "Mod", "MOD", "rem", "div", "Abs", "ab", "absx", "mo", "modx", "min", "max", "is", "<", "=:=", "=", "−", "×", "@", ".", "[]", strings.Repeat("+", 100)} {
		for many := range 4 {
			fails(t, s, fun(name, slices.Repeat([]api.Term{n(1)}, many)...), api.ErrType)
			fails(t, s, fun(name, slices.Repeat([]api.Term{of("//", 1, 0)}, many)...), api.ErrType)
			fails(t, s, fun(name, slices.Repeat([]api.Term{term.Let(0)}, many)...), api.ErrType)
		}
	}
	for _, at := range []int64{1, -1, 1 << 32, top, low} {
		is(t, s, odd(api.Fun, at, "*", n(2), n(3)), 6)
		is(t, s, odd(api.Fun, at, "-", n(2), n(3)), -1)
		is(t, s, odd(api.Fun, at, "abs", n(-3)), 3)
		fails(t, s, odd(api.Fun, at, "7"), api.ErrType)
	}
}

// TestKinds: P12.1, what is no Var, Int or Fun is ErrType, also a Seal that has not just one of Kids.
func TestKinds(t *testing.T) {
	s, n := with(t, 1), term.Num(1)
	for _, kind := range []int{0, 5, -1, -2, 1 << 32, math.MaxInt, math.MinInt, api.Int + 1<<32, api.Fun + 1<<32, api.Seal, api.Seal + 1<<32} {
		for _, kids := range [][]api.Term{nil, {n}, {n, n}, {n, n, n}} {
			if kind == api.Seal && len(kids) == 1 {
				continue
			}
			for _, name := range []string{"", "+", "-", "abs"} {
				x := odd(kind, 3, name, kids...)
				fails(t, s, x, api.ErrType)
				fails(t, s, fun("+", n, x), api.ErrType)
				gives(t, s, diamond(t), sealed(1, x), 0, 1, api.ErrType)
			}
		}
	}
	fails(t, s, api.Term{}, api.ErrType)
}

// shapes are ways to make a term of so many terms to evaluate, of which last is one that is evaluated last.
func shapes(last api.Term) []func(n int) api.Term {
	one := term.Num(1)
	var full func(n int, last api.Term) api.Term // as broad as deep; n is odd
	full = func(n int, last api.Term) api.Term {
		if n == 1 {
			return last
		}
		left := (n - 1) / 2
		if left%2 == 0 {
			left--
		}
		return fun("*", full(left, one), full(n-1-left, last))
	}
	return []func(n int) api.Term{
		func(n int) api.Term { return nest(n-1, last) },
		func(n int) api.Term { return nest((n+1)%2, full(n-(n+1)%2, last)) },
		func(n int) api.Term { // a list to the right
			x := nest((n+1)%2, last)
			for range (n - 1) / 2 {
				x = fun("*", one, x)
			}
			return x
		},
		func(n int) api.Term { // a list to the left
			x := one
			for range (n-1)/2 - 1 {
				x = fun("*", x, one)
			}
			return fun("*", nest((n+1)%2, x), last)
		},
		func(n int) api.Term { return fun("*", nest(999, one), nest(n-1002, last)) },
		func(n int) api.Term { return fun("*", full(1499, one), nest(n-1501, last)) },
	}
}

// TestMost: P12.1, 2000 terms are evaluated and no more, in depth and in breadth; terms of all kinds count, and each as one, also a sealed one and a bound one.
func TestMost(t *testing.T) {
	l := turned(t)
	for k := range shapes(api.Term{}) {
		for _, last := range []api.Term{term.Num(1), term.Let(1), term.Let(2), sealed(2, sealed(2, term.Num(1))), odd(api.Int, 1, "", term.Num(1), term.Num(2)), fun("a", term.Num(1)), term.Let(0), term.Let(3), sealed(3, term.Let(2)), sealed(0, fun("+")), {}} {
			s := with(t, 4)
			s.Bind(1, term.Let(2))
			s.Bind(2, term.Num(1))
			s.Bind(3, sealed(3, term.Atom("a")))
			shape := shapes(last)[k]
			n, level, e := Eval(s, l, last)
			for _, many := range []int{1600, 1998, 1999, 2000} {
				x := shape(many)
				gotN, gotLevel, got := Eval(s, l, x)
				if gotN != n && gotN != -n || gotLevel != level || got != e {
					t.Error(k, many, brief(last), gotN, gotLevel, got)
				}
			}
			for _, many := range []int{2001, 2002, 2003, 2500, 4000} {
				gives(t, s, l, shape(many), 0, 2, api.ErrFull)
			}
		}
	}
}

// TestMostShared: P12.1, a term counts as often as it is evaluated, in a variable too, and each call counts for itself.
func TestMostShared(t *testing.T) {
	n, v := term.Num, term.Let
	s := with(t, 30, n(1))
	for k := range 11 {
		s.Bind(k+1, fun("+", v(k), v(k)))
	}
	for range 3 {
		is(t, s, v(9), 512)
		is(t, s, fun("-", v(9), v(8)), 256)
		is(t, s, fun("-", v(9), fun("+", v(8), v(7))), 128)
		// One variable further, or both sides, are 2047 terms.
		fails(t, s, v(10), api.ErrFull)
		fails(t, s, v(11), api.ErrFull)
		fails(t, s, fun("-", v(9), v(9)), api.ErrFull)
	}
	// The Funs are 2 terms, and what they have 1023, 511 and 464: 2000 in all.
	is(t, s, fun("-", v(9), fun("-", v(8), nest(463, n(0)))), 256)
	fails(t, s, fun("-", v(9), fun("-", v(8), nest(464, n(0)))), api.ErrFull)
	// A value that leads back to itself, as one may within a Seal, ends.
	s.Bind(20, sealed(1, fun("+", n(1), v(20))))
	gives(t, s, diamond(t), v(20), 0, 1, api.ErrInst)
}

// TestMostLevel: P12.1, of the 2001st term nothing is opened, of all ahead of it everything; an error ahead of it comes first.
func TestMostLevel(t *testing.T) {
	s, l, n := with(t, 1), diamond(t), term.Num
	gives(t, s, l, nest(1999, sealed(1, n(3))), -3, 1, api.OK)
	gives(t, s, l, nest(2000, sealed(1, n(3))), 0, 0, api.ErrFull)
	gives(t, s, l, nest(1999, sealed(1, fun("-", n(3)))), 0, 1, api.ErrFull)
	gives(t, s, l, nest(1999, sealed(1, fun("-", sealed(2, n(3))))), 0, 1, api.ErrFull)
	gives(t, s, l, fun("+", sealed(2, n(1)), nest(1997, sealed(1, n(1)))), 0, 3, api.OK)
	gives(t, s, l, fun("+", sealed(2, n(1)), nest(1998, sealed(1, n(1)))), 0, 2, api.ErrFull)
	gives(t, s, l, fun("+", sealed(2, term.Atom("a")), nest(5000, n(1))), 0, 2, api.ErrType)
	gives(t, s, l, fun("//", of("//", 1, 0), nest(5000, n(1))), 0, 0, api.ErrEval)
	gives(t, s, l, fun("+", nest(5000, n(1)), sealed(2, term.Let(0))), 0, 0, api.ErrFull)
	gives(t, s, l, fun("//", nest(1997, n(1)), sealed(2, n(0))), 0, 2, api.ErrEval)
	gives(t, s, l, fun("//", nest(1998, n(1)), sealed(2, n(0))), 0, 0, api.ErrFull)
}

// TestRelations: P12.2, all six relations, on both sides of equality and at the ends of the range.
func TestRelations(t *testing.T) {
	for _, a := range edges() {
		for _, b := range edges() {
			at := big.NewInt(a).Cmp(big.NewInt(b))
			for _, c := range []struct {
				op    string
				holds [3]bool // where a is lower, equal and greater
			}{
				{"<", [3]bool{true, false, false}},
				{">", [3]bool{false, false, true}},
				{"=<", [3]bool{true, true, false}},
				{">=", [3]bool{false, true, true}},
				{"=:=", [3]bool{false, true, false}},
				{"=\\=", [3]bool{true, false, true}},
			} {
				if got, there := Test(c.op, a, b); got != c.holds[at+1] || !there {
					t.Fatal(a, c.op, b, got, there)
				}
			}
		}
	}
}

// TestNoRelation: P12.2, any other word is no relation, whatever the numbers are.
func TestNoRelation(t *testing.T) {
	for _, op := range []string{"", "=", "==", "<=", "=>", "=:", ":=", "=::=", "=\\", "\\=", "=/=", "=\\=\\", "=\\\\=", "<>", "<<", "< ", " <", "<\x00", "\x00", "=< ", "@<", "is", "≤", "<=>", "=:=:", "\\==", "a", "+", strings.Repeat("<", 1000)} {
		for _, n := range [][2]int64{{0, 0}, {1, 2}, {2, 1}, {low, top}, {top, low}, {top, top}} {
			if got, there := Test(op, n[0], n[1]); got || there {
				t.Error(op, n, got, there)
			}
		}
	}
}

// TestNilStore: P12.1, for a nil Store all variables are free, and nothing else is otherwise.
func TestNilStore(t *testing.T) {
	var s *store.Store
	n, v := term.Num, term.Let
	is(t, s, n(3), 3)
	is(t, s, fun("+", of("mod", -7, 2), n(2)), 3)
	gives(t, s, diamond(t), fun("-", sealed(2, of("*", 3, 2)), sealed(1, n(1))), 5, 3, api.OK)
	for _, m := range append(strange(), 0, 1) {
		fails(t, s, odd(api.Var, m, "X", n(1)), api.ErrInst)
	}
	gives(t, s, diamond(t), sealed(2, fun("+", n(1), v(0))), 0, 2, api.ErrInst)
	fails(t, s, term.Atom("a"), api.ErrType)
	fails(t, s, of("//", 1, 0), api.ErrEval)
	fails(t, s, nest(2000, n(1)), api.ErrFull)
}

// TestNilLattice: P12.1, a nil Lattice has no level, so it is -1 always, and nothing else is otherwise.
func TestNilLattice(t *testing.T) {
	n, v := term.Num, term.Let
	s := with(t, 3, n(5), sealed(2, n(6)))
	for _, c := range []struct {
		x api.Term
		n int64
		e api.Errno
	}{
		{n(3), 3, api.OK},
		{sealed(1, n(3)), 3, api.OK},
		{sealed(0, sealed(-1, n(3))), 3, api.OK},
		{fun("*", v(0), sealed(2, fun("-", v(1), n(4)))), 0, api.ErrInst},
		{fun("*", v(0), fun("-", v(1), sealed(0, n(4)))), 10, api.OK},
		{sealed(3, of("mod", -7, 2)), 1, api.OK},
		{v(2), 0, api.ErrInst},
		{sealed(1, term.Atom("a")), 0, api.ErrType},
		{sealed(1), 0, api.ErrType},
		{of("//", 1, 0), 0, api.ErrEval},
		{nest(1999, n(1)), -1, api.OK},
		{nest(2000, n(1)), 0, api.ErrFull},
	} {
		gives(t, s, nil, c.x, c.n, -1, c.e)
		var none *store.Store
		if len(term.Vars(c.x)) == 0 {
			gives(t, none, nil, c.x, c.n, -1, c.e)
		}
	}
}

// samples are terms of all sorts, with variables 0 to 3.
func samples() []api.Term {
	n, v := term.Num, term.Let
	return []api.Term{{}, n(4), v(0), v(3), term.Atom("a"), fun("+", v(0), v(1)), fun("*", sealed(1, n(3)), sealed(2, of("mod", 7, -4))), sealed(2, sealed(1, fun("-", n(1), sealed(0, n(2))))), fun("//", v(1), n(0)), fun("f", v(0)), of("*", low, -1), sealed(1, v(0)), sealed(2), fun("abs", fun("+", v(2), sealed(9, n(1)))), nest(2000, v(0)), odd(api.Int, 3, "x", n(1), sealed(2, n(4)))}
}

// TestUnchanged: R3, a term and a store that are given in are as they were.
func TestUnchanged(t *testing.T) {
	l := diamond(t)
	for _, x := range samples() {
		s := with(t, 4, term.Num(3), sealed(1, of("+", 3, 4)), term.Let(1))
		before := term.Shift(x, 0)
		var all [4]api.Term
		for k := range all {
			all[k], _ = s.Full(term.Let(k))
		}
		mark := s.Mark()
		Eval(s, l, x)
		if !term.Same(x, before) {
			t.Error(brief(x), brief(before))
		}
		for k := range all {
			if now, _ := s.Full(term.Let(k)); !term.Same(now, all[k]) {
				t.Error(brief(x), k, brief(now))
			}
		}
		if first, _ := s.Fresh(0); first != 4 || s.Mark() != mark {
			t.Error(brief(x), first, s.Mark(), mark)
		}
	}
}

// TestRoomBehind: R3, what stands in the room behind a list that is given in stays too.
func TestRoomBehind(t *testing.T) {
	kids := []api.Term{term.Num(3), term.Num(4), term.Atom("behind")}
	inner := []api.Term{fun("-", kids[:2]...), term.Atom("behind")}
	inner[0].Kids = kids[:2]
	x := sealed(1, api.Term{Kind: api.Seal, N: 2, Kids: inner[:1]})
	gives(t, with(t, 0), diamond(t), x, -1, 3, api.OK)
	if kids[2].S != "behind" || inner[1].S != "behind" {
		t.Error(kids, inner)
	}
}

// TestNothingKept: R4, a call answers the same again, whatever others were asked, and failed, between, and whatever became of their terms.
func TestNothingKept(t *testing.T) {
	l, u := diamond(t), turned(t)
	s := with(t, 4, term.Num(3), sealed(1, of("+", 3, 4)), term.Let(1))
	type answer struct {
		n     int64
		level int
		e     api.Errno
	}
	ask := func(l *latt.Lattice, x api.Term) answer {
		x = term.Shift(x, 0)
		n, level, e := Eval(s, l, x)
		spoil(&x)
		return answer{n, level, e}
	}
	all := samples()
	for i, x := range all {
		one, two := ask(l, x), ask(u, x)
		for k := range all {
			ask(u, all[(i+k)%len(all)])
			if got := ask(l, x); got != one {
				t.Error(brief(x), got, one)
			}
			if got := ask(u, x); got != two {
				t.Error(brief(x), got, two)
			}
		}
	}
}

// TestTogether: R4, calls at the same time do not touch each other.
func TestTogether(t *testing.T) {
	l, done := diamond(t), make(chan bool)
	for k := range 8 {
		go func() {
			s := store.New()
			s.Fresh(1)
			s.Bind(0, term.Num(int64(k)))
			ok := true
			for range 200 {
				n, level, e := Eval(s, l, nest(1000, sealed(int64(k%4), fun("+", term.Num(1), term.Num(int64(k))))))
				_, _, other := Eval(s, l, nest(k*400, term.Atom("a")))
				ok = ok && n == int64(k)+1 && level == k%4 && e == api.OK && (other == api.ErrType) == (k < 5) && other != api.OK
			}
			done <- ok
		}()
	}
	for range 8 {
		if !<-done {
			t.Error("not as alone")
		}
	}
}

// TestDeep: P1, terms that nest as deep as the document allows, and wide ones, come to an end, in any form.
func TestDeep(t *testing.T) {
	const most = 1<<16 - 10
	s, l, n := with(t, 2), diamond(t), term.Num
	chain := func(around func(api.Term) api.Term, core api.Term) api.Term {
		for range most {
			core = around(core)
		}
		return core
	}
	seals := func(x api.Term) api.Term { return sealed(1, x) }
	left := func(x api.Term) api.Term { return fun("+", x, n(1)) }
	right := func(x api.Term) api.Term { return fun("+", n(1), x) }
	both := func(x api.Term) api.Term { return fun("-", x, x) }
	soon(t, func() {
		gives(t, s, l, nest(most, n(1)), 0, 0, api.ErrFull)
		gives(t, s, l, chain(left, n(1)), 0, 0, api.ErrFull)
		gives(t, s, l, chain(right, n(1)), 0, 0, api.ErrFull)
		gives(t, s, l, chain(both, n(1)), 0, 0, api.ErrFull)
		gives(t, s, l, sealed(1, chain(both, n(1))), 0, 1, api.ErrFull)
		gives(t, s, l, chain(seals, n(7)), 7, 1, api.OK)
		gives(t, s, l, chain(seals, term.Let(0)), 0, 1, api.ErrInst)
		gives(t, s, l, fun("+", chain(seals, of("+", 1, 2)), chain(seals, n(4))), 7, 1, api.OK)
		gives(t, s, l, chain(func(x api.Term) api.Term { return sealed(2, fun("-", x)) }, n(1)), 0, 2, api.ErrFull)
		gives(t, s, l, chain(func(x api.Term) api.Term { return fun("f", x) }, n(1)), 0, 0, api.ErrType)
		gives(t, s, l, sealed(1, fun("f", slices.Repeat([]api.Term{chain(both, n(1))}, 1000)...)), 0, 1, api.ErrType)
	})
}

// asTold is the chapter's words as they are, with errors as results and numbers without a range.
type asTold struct {
	s     *store.Store
	l     *latt.Lattice
	level int
	count int
}

// eval is Eval, but for where the results go.
func (w *asTold) eval(x api.Term) (*big.Int, api.Errno) {
	if w.count++; w.count == 2001 {
		return nil, api.ErrFull
	}
	x, at := seal.Open(w.l, w.s.Walk(x))
	w.level = w.l.Join(w.level, at)
	if x.Kind == api.Var {
		return nil, api.ErrInst
	}
	if x.Kind == api.Int {
		return big.NewInt(x.N), api.OK
	}
	many := len(x.Kids)
	if x.Kind != api.Fun || !(many == 2 && slices.Contains([]string{"+", "-", "*", "//", "mod"}, x.S) || many == 1 && slices.Contains([]string{"-", "abs"}, x.S)) {
		return nil, api.ErrType
	}
	var values []int64
	for _, kid := range x.Kids {
		n, e := w.eval(kid)
		if e != api.OK {
			return nil, e
		}
		values = append(values, n.Int64())
	}
	var n *big.Int
	ok := true
	switch {
	case many == 2:
		n, ok = exact(x.S, values[0], values[1])
	case x.S == "-":
		n = new(big.Int).Neg(big.NewInt(values[0]))
	default:
		n = new(big.Int).Abs(big.NewInt(values[0]))
	}
	m, e := kept(n, ok)
	return big.NewInt(m), e
}

// told holds Eval to the chapter's words.
func told(t *testing.T, s *store.Store, l *latt.Lattice, x api.Term) api.Errno {
	t.Helper()
	w := asTold{s: s, l: l, level: l.Bottom()}
	n, e := w.eval(x)
	if e != api.OK {
		n = new(big.Int)
	}
	gives(t, s, l, x, n.Int64(), w.level, e)
	return e
}

// maker makes terms at random; bad is how many of a hundred are not valid, or no operation.
type maker struct {
	r    *rand.Rand
	vars int
	bad  int
}

// number is one at an edge, or a small one.
func (m *maker) number() int64 {
	if m.r.Intn(4) == 0 {
		l := edges()
		return l[m.r.Intn(len(l))]
	}
	return int64(m.r.Intn(21) - 10)
}

// make is a term that is at most so deep; within a Seal there are no variables if it is to be valid.
func (m *maker) make(deep int, within bool) api.Term {
	if m.r.Intn(100) < m.bad {
		return m.wrong(deep)
	}
	pick := m.r.Intn(12)
	switch {
	case pick == 0 && m.vars > 0 && !within:
		return term.Let(m.r.Intn(m.vars))
	case deep <= 1 || pick == 1:
		return term.Num(m.number())
	case pick < 5:
		return sealed(int64(m.r.Intn(6)-1), m.make(deep-1, true))
	case pick == 5:
		return fun("abs", m.make(deep-1, within))
	case pick == 6:
		return fun("-", m.make(deep-1, within))
	}
	names := []string{"+", "-", "*", "//", "mod"}
	return fun(names[m.r.Intn(len(names))], m.make(deep-1, within), m.make(deep-1, within))
}

// wrong is a term that may be anything.
func (m *maker) wrong(deep int) api.Term {
	names := []string{"+", "-", "*", "//", "mod", "abs", "", "f", "a"}
	x := odd(m.r.Intn(7)-1, m.number(), names[m.r.Intn(len(names))])
	if deep > 1 {
		for range m.r.Intn(4) {
			x.Kids = append(x.Kids, m.make(deep-1, false))
		}
	}
	return x
}

// bound is a store of the maker's variables, most of them bound.
func (m *maker) bound(deep int) *store.Store {
	s := store.New()
	s.Fresh(m.vars)
	for range m.vars * 2 {
		s.Bind(m.r.Intn(m.vars), m.make(deep, false))
	}
	return s
}

// TestRandom: P12.1, Eval is as the chapter's words, for terms and stores at random.
func TestRandom(t *testing.T) {
	r := rand.New(rand.NewSource(12))
	lattices := []*latt.Lattice{diamond(t), turned(t), lattice(t, 1), lattice(t, 3, [2]int{1, 0}, [2]int{0, 2}), nil}
	ends := map[api.Errno]int{}
	for k := range 40000 {
		m := &maker{r: r, vars: 1 + r.Intn(6), bad: []int{0, 1, 5, 30}[k%4]}
		s := m.bound(1 + r.Intn(4))
		if r.Intn(50) == 0 {
			s = nil
		}
		ends[told(t, s, lattices[r.Intn(len(lattices))], m.make(1+r.Intn(7), false))]++
	}
	for _, e := range []api.Errno{api.OK, api.ErrInst, api.ErrType, api.ErrEval} {
		if ends[e] < 1000 {
			t.Error(e, ends[e])
		}
	}
}

// TestRandomMost: P12.1, Eval is as the chapter's words, for terms of about 2000 parts.
func TestRandomMost(t *testing.T) {
	r := rand.New(rand.NewSource(2000))
	full := 0
	for range 10 {
		s, x := with(t, 0), term.Num(1)
		most := 1960 + r.Intn(80)
		for n := 1; n < most; {
			kid := term.Num(0)
			n += 2
			if r.Intn(3) == 0 {
				kid = sealed(int64(r.Intn(4)), fun("-", kid))
				n++
			}
			if x = fun("+", x, kid); r.Intn(2) == 0 {
				x.Kids[0], x.Kids[1] = x.Kids[1], x.Kids[0]
			}
		}
		if told(t, s, diamond(t), x) == api.ErrFull {
			full++
		}
	}
	if full < 2 || full > 8 {
		t.Error(full)
	}
}

// TestErased: P12.3, without Seals, in the term and in what variables are bound to, the value or the error is the same, with the level Bottom.
func TestErased(t *testing.T) {
	r := rand.New(rand.NewSource(123))
	lattices := []*latt.Lattice{diamond(t), turned(t)}
	ends, raised := map[api.Errno]int{}, 0
	for k := range 20000 {
		m := &maker{r: r, vars: 1 + r.Intn(5), bad: 0}
		l := lattices[k%2]
		s, bare := store.New(), store.New()
		s.Fresh(m.vars)
		bare.Fresh(m.vars)
		for range m.vars * 2 {
			v, x := r.Intn(m.vars), m.make(1+r.Intn(4), false)
			if s.Bind(v, x) == api.OK {
				bare.Bind(v, seal.Erase(x))
			}
		}
		x := m.make(1+r.Intn(7), false)
		switch r.Intn(10) {
		case 0:
			x = fun("-", x, sealed(1, fun("f", term.Num(1))))
		case 1:
			x = fun("+", x, nest(1980+r.Intn(20), sealed(2, fun("-", m.make(3, true)))))
		}
		n, level, e := Eval(s, l, x)
		gives(t, bare, l, seal.Erase(x), n, l.Bottom(), e)
		ends[e]++
		if level != l.Bottom() {
			raised++
		}
	}
	for _, e := range []api.Errno{api.OK, api.ErrInst, api.ErrType, api.ErrEval, api.ErrFull} {
		if ends[e] < 200 {
			t.Error(e, ends[e])
		}
	}
	if raised < 1000 {
		t.Error(raised)
	}
}

// TestErasedKnown: P12.3, by hand: the value and all errors.
func TestErasedKnown(t *testing.T) {
	n := term.Num
	for _, c := range []struct {
		x     api.Term
		n     int64
		level int
		e     api.Errno
	}{
		{sealed(1, fun("*", sealed(2, n(3)), n(4))), 12, 3, api.OK},
		{fun("+", sealed(1, n(2)), term.Let(0)), 0, 1, api.ErrInst},
		{sealed(2, fun("-", sealed(2, term.Atom("a")))), 0, 2, api.ErrType},
		{sealed(3, of("//", 3, 0)), 0, 3, api.ErrEval},
		{sealed(3, nest(2000, n(3))), 0, 3, api.ErrFull},
		{sealed(1, sealed(3)), 0, 1, api.ErrType},
	} {
		s := with(t, 1)
		gives(t, s, diamond(t), c.x, c.n, c.level, c.e)
		gives(t, s, diamond(t), seal.Erase(c.x), c.n, 0, c.e)
	}
}
