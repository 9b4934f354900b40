package order

import (
	"cmp"
	"fmt"
	"math"
	"math/rand"
	"reflect"
	"slices"
	"sort"
	"strings"
	"testing"

	"torchere/api"
	"torchere/latt"
	"torchere/term"
)

// sealed is a Seal of that number around these, as they are and not copied.
func sealed(n int64, kids ...api.Term) api.Term {
	return api.Term{Kind: api.Seal, N: n, Kids: kids}
}

// odd is a term of that Kind, which need not be one that there is, with all fields filled.
func odd(kind int, n int64, s string, kids ...api.Term) api.Term {
	return api.Term{Kind: kind, N: n, S: s, Kids: kids}
}

// strange are Kinds that there are none of, below Var and above Seal.
var strange = []int{math.MinInt, -1 << 32, -4, -3, -1, 0, 5, 6, 1 << 8, 1<<8 + api.Fun, 1<<32 + api.Int, math.MaxInt}

// brief is how terms begin, so that a fault of a deep one can be read.
func brief(l ...api.Term) string {
	return fmt.Sprintf("%.200q", fmt.Sprint(l))
}

// compares holds Compare of two terms to that number, and the other way round to its negative.
func compares(t *testing.T, a, b api.Term, want int) {
	t.Helper()
	if c := Compare(a, b); c != want {
		t.Errorf("%s and %s: %d; want %d", brief(a), brief(b), c, want)
	}
	if c := Compare(b, a); c != -want {
		t.Errorf("%s and %s: %d; want %d", brief(b), brief(a), c, -want)
	}
}

// ascends holds terms to be in ascending order, no two of them equal.
func ascends(t *testing.T, l ...api.Term) {
	t.Helper()
	for k := range l {
		compares(t, l[k], l[k], 0)
		for _, b := range l[k+1:] {
			compares(t, l[k], b, -1)
		}
	}
}

// equal holds terms to compare as equal, each with each.
func equal(t *testing.T, l ...api.Term) {
	t.Helper()
	for _, a := range l {
		for _, b := range l {
			compares(t, a, b, 0)
		}
	}
}

// TestExample: P9.1, the chapter's example.
func TestExample(t *testing.T) {
	a := term.Atom("a")
	ascends(t, term.Let(0), term.Num(3), a, term.Make("f", a))
}

// ofKind are terms of one Kind, from the least fields to the greatest, none of them one that Erase would remove.
func ofKind(kind int) []api.Term {
	z := term.Atom("z")
	return []api.Term{
		odd(kind, math.MinInt64, ""),
		odd(kind, -1, "a"),
		odd(kind, 0, ""),
		odd(kind, math.MaxInt64, strings.Repeat("\xff", 100)),
		odd(kind, 0, "", z, z),
		odd(kind, math.MaxInt64, "zzz", z, z, z),
	}
}

// TestKinds: P9.1, of different Kinds the lower one is first, as a number, whatever else stands in the terms.
func TestKinds(t *testing.T) {
	kinds := append([]int{api.Var, api.Int, api.Fun, api.Seal}, strange...)
	for _, i := range kinds {
		for _, j := range kinds {
			if i >= j {
				continue
			}
			for _, a := range ofKind(i) {
				for _, b := range ofKind(j) {
					compares(t, a, b, -1)
					compares(t, term.Make("f", a), term.Make("f", b), -1)
					compares(t, sealed(1, a), b, -1)
					compares(t, a, sealed(1, b), -1)
				}
			}
		}
	}
}

// TestNumbers: P9.1, Vars and Ints are compared by N alone, as numbers with signs.
func TestNumbers(t *testing.T) {
	numbers := []int64{math.MinInt64, math.MinInt64 + 1, -1 << 53, -1 << 32, -1<<31 - 1, -1 << 31, -10, -9, -1, 0, 1, 9, 10, 4095, 4096, 1 << 31, 1 << 32, 1<<32 + 1, 1 << 53, 1<<53 + 1, math.MaxInt64 - 1, math.MaxInt64}
	for _, kind := range []int{api.Var, api.Int} {
		var l []api.Term
		for k, n := range numbers {
			// The other fields go down where N goes up, and are equal nowhere.
			s := strings.Repeat("s", len(numbers)-k)
			kids := slices.Repeat([]api.Term{term.Num(-n)}, len(numbers)-k)
			l = append(l, odd(kind, n, s, kids...))
			equal(t, api.Term{Kind: kind, N: n}, l[k], odd(kind, n, "x"), odd(kind, n, "", term.Atom("a")), odd(kind, n, "", term.Atom("b")), odd(kind, n, "", sealed(2)))
		}
		ascends(t, l...)
	}
}

// TestFunKids: P9.1, Funs are compared by the number of Kids first, whatever their names and their Kids are.
func TestFunKids(t *testing.T) {
	var l []api.Term
	for n := range 20 {
		kid := term.Make("z", term.Num(int64(-n)))
		l = append(l, term.Make(string(rune('z'-n)), slices.Repeat([]api.Term{kid}, n)...))
	}
	ascends(t, l...)
}

// names are in ascending order, byte by byte.
var names = []string{
	"", "\x00", "\x00\x00", "\x01", "\n", " ", "!", "'", "+", "-", "A", "AB", "B", "Z", "[]", "_", "a", "a\x00", "a\x00b", "a ", "aB", "aa", "aaa", "ab", "b",
	"mod", "mode", "~", "\x7f", "\x80", "\x80a", "\xc3", "é", "éa", "Ā", "€", "\xef\xbf\xbd", "𝄞", "\xfe", "\xff", "\xff\x00", "\xff\xff",
}

// TestFunNames: P9.1, Funs of as many Kids are compared by S byte by byte, a proper prefix first, whatever their Kids and their N are.
func TestFunNames(t *testing.T) {
	for n := range 10 {
		var l []api.Term
		for k, s := range names {
			kids := slices.Repeat([]api.Term{term.Num(int64(-k))}, n)
			l = append(l, odd(api.Fun, int64(-k), s, kids...))
		}
		ascends(t, l...)
	}
	long := strings.Repeat("a", 1000)
	ascends(t, term.Atom(long[1:]), term.Atom(long), term.Atom(long+"\x00"), term.Atom(long+"a"), term.Atom(long+"\x80"))
}

// TestFunNumber: P9.1, the N of a Fun is not compared, at its top and within.
func TestFunNumber(t *testing.T) {
	a, b := term.Atom("a"), term.Atom("b")
	equal(t, a, odd(api.Fun, -1, "a"), odd(api.Fun, math.MaxInt64, "a"))
	equal(t, term.Make("f", a), odd(api.Fun, 3, "f", a), odd(api.Fun, -3, "f", odd(api.Fun, 7, "a")))
	ascends(t, odd(api.Fun, 9, "f", a), odd(api.Fun, 5, "f", b), odd(api.Fun, 1, "g", a))
}

// TestFunInside: P9.1, Funs of one name are compared by their Kids in order: the first, the last, or none of them differs.
func TestFunInside(t *testing.T) {
	f, a, b, x, one := term.Make, term.Atom("a"), term.Atom("b"), term.Let(0), term.Num(1)
	equal(t, f("f", x, one, a), f("f", x, one, a))
	ascends(t,
		f("f", x, x), f("f", x, a), f("f", one, x), f("f", one, f("a", x)),
		f("f", a, x), f("f", a, one), f("f", a, a), f("f", a, b),
		f("f", b, x), f("f", f("a", a), x), f("f", f("a", b), x))
	for n := 1; n <= 9; n++ {
		less := slices.Repeat([]api.Term{a}, n)
		for k := range n {
			more := slices.Clone(less)
			more[k] = b
			compares(t, f("f", less...), f("f", more...), -1)
			// What comes after the first difference changes nothing.
			for j := k + 1; j < n; j++ {
				more[j] = x
				compares(t, f("f", less...), f("f", more...), -1)
			}
		}
	}
}

// TestFunDepth: P9.1, a Kid is compared with all that is in it before the next Kid is.
func TestFunDepth(t *testing.T) {
	f, a, b, x := term.Make, term.Atom("a"), term.Atom("b"), term.Let(0)
	ascends(t,
		f("f", f("g", a, f("h", a)), b),
		f("f", f("g", a, f("h", b)), a),
		f("f", f("g", b, f("h", a)), a),
		f("f", f("g", b, f("h", a)), b))
	ascends(t,
		f("f", f("g", f("g", f("g", a))), f("z", b), b),
		f("f", f("g", f("g", f("g", b))), f("z", x), x))
	ascends(t,
		f("f", f("g", odd(api.Int, 1, "", b, b)), a),
		f("f", f("g", odd(api.Int, 1, "", a)), b))
}

// TestOthers: P9.1, terms of any other Kind are compared by the number of Kids, by N, by S and by the Kids, in that order.
func TestOthers(t *testing.T) {
	a, b, c := term.Atom("a"), term.Atom("b"), sealed(3, term.Atom("c"))
	for _, kind := range append([]int{api.Seal}, strange...) {
		l := []api.Term{
			odd(kind, math.MinInt64, "z"), odd(kind, -1, "z"), odd(kind, 0, ""), odd(kind, 0, "a"), odd(kind, 0, "ab"), odd(kind, 0, "b"), odd(kind, 0, "\xff"), odd(kind, math.MaxInt64, ""),
			odd(kind, -5, "y", b, b), odd(kind, 5, "x", b, b),
			odd(kind, 5, "y", a, a), odd(kind, 5, "y", a, b), odd(kind, 5, "y", b, a), odd(kind, 5, "y", b, c), odd(kind, 5, "y", c, a),
			odd(kind, 6, "", a, a),
			odd(kind, math.MinInt64, "", term.Let(0), a, a),
			odd(kind, math.MinInt64, "", a, a, a),
		}
		ascends(t, l...)
		if kind != api.Seal {
			ascends(t, odd(kind, 9, "z"), odd(kind, 1, "z", a), odd(kind, 1, "z", b), odd(kind, 2, "a", a), odd(kind, 2, "b", a), odd(kind, 0, "a", a, a))
		}
	}
}

// TestSeals: P9.1, a Seal of one term counts for nothing, on either side, at the top, within, and one in another.
func TestSeals(t *testing.T) {
	f, a, b, x := term.Make, term.Atom("a"), term.Atom("b"), term.Let(0)
	for _, n := range []int64{0, 1, 3, 15, 16, -1, math.MinInt64, math.MaxInt64} {
		equal(t, a, sealed(n, a), sealed(2, sealed(n, a)), odd(api.Seal, n, "s", a), sealed(n, sealed(n, sealed(n, a))))
		equal(t, f("f", a, b), sealed(n, f("f", a, b)), f("f", sealed(n, a), b), f("f", a, sealed(n, b)), sealed(1, f("f", sealed(n, a), sealed(0, sealed(n, b)))))
		equal(t, x, sealed(n, x))
		ascends(t, sealed(n, x), term.Num(1), sealed(n, a), b, sealed(2, sealed(n, f("a", x))), f("a", sealed(n, a)))
		ascends(t, f("f", sealed(n, a), b), f("f", b, sealed(n, a)), f("g", sealed(n, sealed(n, x)), x))
		equal(t, odd(9, 1, "s", a), odd(9, 1, "s", sealed(n, a)))
	}
}

// TestSealsThatStay: P9.1, a Seal of no term or of two is a term of another Kind, behind the Funs; what is in it is erased.
func TestSealsThatStay(t *testing.T) {
	f, a, b := term.Make, term.Atom("a"), term.Atom("b")
	ascends(t, term.Let(9), term.Num(9), f("z", b, b, b), sealed(-1), sealed(0), sealed(1), sealed(0, a, a), sealed(0, a, b), sealed(1, a, a), sealed(0, a, a, a), api.Term{Kind: 5})
	equal(t, sealed(1), sealed(2, sealed(1)), odd(api.Seal, 1, "", []api.Term{}...))
	equal(t, sealed(1, a, b), sealed(1, sealed(2, a), b), sealed(3, sealed(1, a, sealed(0, b))))
	ascends(t, f("f", b, a), f("f", sealed(1), a), f("f", sealed(2), a), f("f", sealed(1, a, a), a))
	ascends(t, sealed(1, sealed(9, a), b), sealed(1, sealed(0, b), a), sealed(1, sealed(0), a))
}

// TestNoKids: R2, Kids that are nil and Kids that are empty compare as equal.
func TestNoKids(t *testing.T) {
	for kind := -1; kind <= 6; kind++ {
		without := api.Term{Kind: kind, N: 2, S: "a"}
		empty, cut := without, without
		empty.Kids = []api.Term{}
		cut.Kids = []api.Term{term.Num(1)}[:0]
		equal(t, without, empty, cut)
		equal(t, term.Make("f", without), term.Make("f", empty), odd(api.Fun, 0, "f", cut))
	}
}

// wantErased is a term without the Seals of one term, as chapter 4 says it.
func wantErased(t api.Term) api.Term {
	for t.Kind == 4 && len(t.Kids) == 1 {
		t = t.Kids[0]
	}
	kids := t.Kids
	t.Kids = nil
	for _, kid := range kids {
		t.Kids = append(t.Kids, wantErased(kid))
	}
	return t
}

// item is a number or a text of what a term is compared by; of two that stand at the same place only one of them differs.
type item struct {
	n int64
	s string
}

// items are all that an erased term is compared by, in the order of P9.1: where two lists are the same up to a place, the same thing stands there in both.
func items(t api.Term) []item {
	kind := item{n: int64(t.Kind)}
	if t.Kind == 1 || t.Kind == 2 {
		return []item{kind, {n: t.N}}
	}
	l := []item{kind, {n: int64(len(t.Kids))}}
	if t.Kind != 3 {
		l = append(l, item{n: t.N})
	}
	l = append(l, item{s: t.S})
	for _, kid := range t.Kids {
		l = append(l, items(kid)...)
	}
	return l
}

// wantCompare is P9.1 by the items of both terms.
func wantCompare(a, b api.Term) int {
	return slices.CompareFunc(items(wantErased(a)), items(wantErased(b)), func(a, b item) int {
		if a.n != b.n {
			return cmp.Compare(a.n, b.n)
		}
		return slices.Compare([]byte(a.s), []byte(b.s))
	})
}

// compared is an erased term with zeros for all that P9.1 does not compare.
func compared(t api.Term) api.Term {
	if t.Kind == 1 || t.Kind == 2 {
		return api.Term{Kind: t.Kind, N: t.N}
	}
	kids := t.Kids
	t.Kids = nil
	for _, kid := range kids {
		t.Kids = append(t.Kids, compared(kid))
	}
	if t.Kind == 3 {
		t.N = 0
	}
	return t
}

// anyTerm is a term at random, of few different fields, so that many are equal in part.
func anyTerm(r *rand.Rand, deep int) api.Term {
	x := api.Term{Kind: []int{0, 1, 1, 2, 2, 3, 3, 3, 3, 4, 4, 4, 5, -1}[r.Intn(14)]}
	x.N = []int64{0, 0, 0, 1, 1, 2, -1, math.MinInt64, math.MaxInt64}[r.Intn(9)]
	x.S = []string{"", "a", "a", "ab", "b", "\x80"}[r.Intn(6)]
	if deep == 0 {
		return x
	}
	for range []int{0, 1, 1, 1, 2, 2, 3}[r.Intn(7)] {
		x.Kids = append(x.Kids, anyTerm(r, deep-1))
	}
	return x
}

// anyChange is a term like this one, but perhaps for one part of it, or with a Seal somewhere.
func anyChange(r *rand.Rand, t api.Term) api.Term {
	if len(t.Kids) > 0 && r.Intn(4) > 0 {
		t.Kids = slices.Clone(t.Kids)
		k := r.Intn(len(t.Kids))
		t.Kids[k] = anyChange(r, t.Kids[k])
		return t
	}
	switch r.Intn(6) {
	case 0:
		t.N += int64(r.Intn(3)) - 1
	case 1:
		t.S += []string{"", "a", "\x00"}[r.Intn(3)]
	case 2:
		t.Kind += r.Intn(3) - 1
	case 3:
		t.Kids = append(slices.Clone(t.Kids), anyTerm(r, 1))
	case 4:
		return sealed(int64(r.Intn(5)), t)
	}
	return t
}

// someTerms are terms at random, many of them like another one.
func someTerms(seed int64, n int) []api.Term {
	r := rand.New(rand.NewSource(seed))
	var l []api.Term
	for len(l) < n {
		x := anyTerm(r, len(l)%4)
		l = append(l, x, anyChange(r, x), anyChange(r, anyChange(r, x)))
	}
	return l
}

// TestAnyTerms: P9.1 and P9.3, terms at random, each with each, against a second way to compare; 0 exactly if both are the same erased, up to what is not compared.
func TestAnyTerms(t *testing.T) {
	l := someTerms(1, 450)
	count := map[int]int{}
	for _, a := range l {
		for _, b := range l {
			c, want := Compare(a, b), wantCompare(a, b)
			count[c]++
			if c != want {
				t.Fatalf("%v and %v: %d; want %d", a, b, c, want)
			}
			if same := term.Same(compared(wantErased(a)), compared(wantErased(b))); same != (c == 0) {
				t.Fatalf("%v and %v: %d, the same: %v", a, b, c, same)
			}
		}
	}
	if len(count) != 3 || count[0] < 900 {
		t.Error("too few terms are equal", count)
	}
}

// TestTotal: P9.3, Compare is reflexive, is negated by exchanging its arguments, and is transitive.
func TestTotal(t *testing.T) {
	l := someTerms(2, 150)
	table := make([][]int, len(l))
	for i, a := range l {
		for _, b := range l {
			table[i] = append(table[i], Compare(a, b))
		}
	}
	for i := range l {
		if table[i][i] != 0 {
			t.Fatal(brief(l[i]))
		}
		for j := range l {
			if table[i][j] != -table[j][i] {
				t.Fatal(brief(l[i], l[j]))
			}
			for k := range l {
				ij, jk, ik := table[i][j], table[j][k], table[i][k]
				if ij <= 0 && jk <= 0 && (ik > 0 || ik == 0 && ij+jk < 0) {
					t.Fatal(brief(l[i], l[j], l[k]), ij, jk, ik)
				}
			}
		}
	}
}

// lattice is the one of these pairs; there has to be one.
func lattice(t *testing.T, n int, below ...[2]int) *latt.Lattice {
	t.Helper()
	l, e := latt.New(n, below)
	if e != api.OK {
		t.Fatal(n, below, e)
	}
	return l
}

// diamond has 0 at the bottom, 3 at the top, and 1 and 2 between them, neither below the other.
func diamond(t *testing.T) *latt.Lattice {
	t.Helper()
	return lattice(t, 4, [2]int{0, 1}, [2]int{0, 2}, [2]int{1, 3}, [2]int{2, 3})
}

// touches holds Touch of two terms to that level, in either order.
func touches(t *testing.T, l *latt.Lattice, a, b api.Term, want int) {
	t.Helper()
	if n := Touch(l, a, b); n != want {
		t.Errorf("%s and %s: %d; want %d", brief(a), brief(b), n, want)
	}
	if n := Touch(l, b, a); n != want {
		t.Errorf("%s and %s: %d; want %d", brief(b), brief(a), n, want)
	}
}

// TestTouch: P9.2, the join of the levels of both terms, wherever they stand.
func TestTouch(t *testing.T) {
	l := diamond(t)
	f, a, x := term.Make, term.Atom("a"), term.Let(0)
	touches(t, l, a, a, 0)
	touches(t, l, x, f("f", a, term.Num(3)), 0)
	touches(t, l, api.Term{}, odd(7, 3, "s", a), 0)
	for n := range 4 {
		s := sealed(int64(n), a)
		touches(t, l, s, a, n)
		touches(t, l, s, s, n)
		touches(t, l, s, sealed(0, x), n)
		touches(t, l, f("f", a, s), x, n)
		touches(t, l, sealed(0, f("f", a, f("g", s))), x, n)
		touches(t, l, s, sealed(3, a), 3)
		touches(t, l, sealed(int64(n)), a, n)
		touches(t, l, sealed(int64(n), a, a), sealed(0), n)
		touches(t, l, odd(7, 2, "s", s), odd(api.Var, 2, "", a), n)
		touches(t, l, odd(api.Int, 3, "", s), a, n)
	}
	touches(t, l, sealed(1, a), sealed(2, a), 3)
	touches(t, l, f("f", sealed(1, a)), f("g", x, sealed(2, a)), 3)
	touches(t, l, f("f", sealed(1, a), sealed(2, a)), x, 3)
	touches(t, l, sealed(1, sealed(2, a)), a, 3)
	touches(t, l, sealed(1, a), f("f", sealed(1, a), sealed(0, a)), 1)
}

// TestTouchAll: P9.2, levels count that stand behind the first difference, too.
func TestTouchAll(t *testing.T) {
	l := diamond(t)
	f, a, b := term.Make, term.Atom("a"), term.Atom("b")
	touches(t, l, f("f", a, sealed(1, a)), f("f", b, sealed(2, a)), 3)
	touches(t, l, f("f", a, sealed(2, a)), term.Num(1), 2)
}

// TestTouchBeyond: P9.2, a Seal whose number is no level is at Top, whichever number Top and Bottom have.
func TestTouchBeyond(t *testing.T) {
	a := term.Atom("a")
	down := lattice(t, 3, [2]int{2, 1}, [2]int{1, 0})
	touches(t, down, a, a, 2)
	touches(t, down, sealed(2, a), a, 2)
	touches(t, down, sealed(1, a), sealed(2, a), 1)
	touches(t, down, sealed(1, a), sealed(0, a), 0)
	for _, n := range []int64{-1, 3, 4, 16, 1 << 32, math.MinInt64, math.MaxInt64} {
		touches(t, down, sealed(n, a), a, 0)
		touches(t, down, a, term.Make("f", a, sealed(n)), 0)
		touches(t, lattice(t, 1), sealed(n, a), a, 0)
	}
	for _, n := range []int64{-1, 4, 16, 1 << 32, math.MinInt64, math.MaxInt64} {
		touches(t, diamond(t), sealed(n, a), sealed(1, a), 3)
		touches(t, diamond(t), term.Make("f", a, sealed(n, a, a)), a, 3)
	}
}

// TestTouchNil: P1, a lattice that is nil has no level to return.
func TestTouchNil(t *testing.T) {
	a := term.Atom("a")
	for _, x := range []api.Term{{}, a, sealed(0, a), sealed(-1, a), term.Make("f", sealed(1, a)), sealed(2)} {
		touches(t, nil, x, a, -1)
		touches(t, nil, x, x, -1)
	}
}

// wantTouch is P9.2, part by part.
func wantTouch(l *latt.Lattice, t api.Term) int {
	level := l.Bottom()
	if t.Kind == 4 && t.N >= 0 && t.N < int64(l.Len()) {
		level = int(t.N)
	} else if t.Kind == 4 {
		level = l.Top()
	}
	for _, kid := range t.Kids {
		level = l.Join(level, wantTouch(l, kid))
	}
	return level
}

// TestAnyTouch: P9.2, terms at random, each with each.
func TestAnyTouch(t *testing.T) {
	l := someTerms(3, 200)
	for _, lat := range []*latt.Lattice{diamond(t), lattice(t, 1), lattice(t, 2, [2]int{1, 0}), lattice(t, 3, [2]int{2, 0}, [2]int{0, 1})} {
		for _, a := range l {
			for _, b := range l {
				touches(t, lat, a, b, lat.Join(wantTouch(lat, a), wantTouch(lat, b)))
			}
		}
	}
}

// sorts holds Sort of terms to these.
func sorts(t *testing.T, l, want []api.Term) {
	t.Helper()
	if s := Sort(l); !slices.EqualFunc(s, want, term.Same) {
		t.Errorf("%s is sorted as %s; want %s", brief(l...), brief(s...), brief(want...))
	}
}

// list is a list of terms.
func list(l ...api.Term) []api.Term {
	return l
}

// TestSort: P9.2, none, one and more terms, in ascending order.
func TestSort(t *testing.T) {
	f, a, b, x, one := term.Make, term.Atom("a"), term.Atom("b"), term.Let(0), term.Num(1)
	sorts(t, nil, nil)
	sorts(t, list(), nil)
	sorts(t, list(a), list(a))
	sorts(t, list(api.Term{}), list(api.Term{}))
	sorts(t, list(a, b), list(a, b))
	sorts(t, list(b, a), list(a, b))
	sorts(t, list(f("f", a), a, one, x), list(x, one, a, f("f", a)))
	sorts(t, list(one, f("a", b), x, b, f("a", a), a), list(x, one, a, b, f("a", a), f("a", b)))
	sorts(t, list(term.Num(math.MaxInt64), term.Num(0), term.Num(math.MinInt64), term.Num(-1)), list(term.Num(math.MinInt64), term.Num(-1), term.Num(0), term.Num(math.MaxInt64)))
	sorts(t, list(sealed(1), odd(9, 0, ""), a, odd(-9, 0, ""), sealed(0, a, a)), list(odd(-9, 0, ""), a, sealed(1), sealed(0, a, a), odd(9, 0, "")))
}

// TestSortEqual: P9.2, of terms that compare as equal only the first one stays, with its Seals and with all that is not compared.
func TestSortEqual(t *testing.T) {
	f, a, b, x := term.Make, term.Atom("a"), term.Atom("b"), term.Let(0)
	sorts(t, list(a, a), list(a))
	sorts(t, list(a, a, a, a), list(a))
	sorts(t, list(b, a, b, a, b), list(a, b))
	sorts(t, list(a, sealed(1, a)), list(a))
	sorts(t, list(sealed(1, a), a), list(sealed(1, a)))
	sorts(t, list(sealed(2, a), sealed(1, a), a), list(sealed(2, a)))
	sorts(t, list(b, sealed(2, sealed(1, a)), b, sealed(1, a), sealed(0, b)), list(sealed(2, sealed(1, a)), b))
	sorts(t, list(f("f", sealed(1, b)), x, f("f", b), sealed(1, x), f("f", sealed(0, a))), list(x, f("f", sealed(0, a)), f("f", sealed(1, b))))
	sorts(t, list(odd(api.Fun, 2, "a"), odd(api.Fun, 1, "a"), a), list(odd(api.Fun, 2, "a")))
	sorts(t, list(odd(api.Int, 2, "z", a), odd(api.Int, 2, "")), list(odd(api.Int, 2, "z", a)))
	sorts(t, list(odd(api.Var, 2, ""), odd(api.Var, 2, "z", a)), list(odd(api.Var, 2, "")))
	sorts(t, list(sealed(3, sealed(1)), sealed(1)), list(sealed(3, sealed(1))))
}

// TestSortMany: P9.2, many terms of few different values: of each the first one, told by the level on it.
func TestSortMany(t *testing.T) {
	for _, different := range []int{1, 2, 7, 100, 1000} {
		var l, want []api.Term
		for k := range 1000 {
			l = append(l, sealed(int64(k), term.Num(int64(k*617%different))))
		}
		for n := range different {
			first := slices.IndexFunc(l, func(x api.Term) bool { return x.Kids[0].N == int64(n) })
			want = append(want, l[first])
		}
		sorts(t, l, want)
	}
}

// wantSorted is P9.2 by the second way to compare: each term that none ahead of it equals, and these in order.
func wantSorted(l []api.Term) []api.Term {
	var s []api.Term
	for _, x := range l {
		if !slices.ContainsFunc(s, func(y api.Term) bool { return wantCompare(x, y) == 0 }) {
			s = append(s, x)
		}
	}
	sort.Slice(s, func(i, j int) bool { return wantCompare(s[i], s[j]) < 0 })
	return s
}

// TestAnySort: P9.2, lists at random; and what is sorted already stays as it is.
func TestAnySort(t *testing.T) {
	r := rand.New(rand.NewSource(4))
	all := someTerms(5, 300)
	for range 500 {
		l := make([]api.Term, r.Intn(60))
		for k := range l {
			l[k] = all[r.Intn(len(all))]
		}
		want := wantSorted(l)
		sorts(t, l, want)
		sorts(t, want, want)
	}
}

// spoil changes every part of a term where it stands.
func spoil(t *api.Term) {
	for k := range t.Kids {
		spoil(&t.Kids[k])
	}
	*t = api.Term{Kind: 99, N: 99, S: "spoilt"}
}

// TestArguments: R3, no function changes what it is given.
func TestArguments(t *testing.T) {
	l, again := someTerms(6, 60), someTerms(6, 60)
	lat := diamond(t)
	for _, a := range l {
		for _, b := range l {
			Compare(a, b)
			Touch(lat, a, b)
		}
	}
	Sort(l)
	if !reflect.DeepEqual(l, again) {
		t.Error("the terms have changed")
	}
}

// TestMemory: R3, what Sort returns shares no memory with its argument, nor do two terms of it with each other.
func TestMemory(t *testing.T) {
	kids := list(sealed(1, term.Atom("a")), term.Make("g", term.Atom("b"), term.Let(0)))
	l := list(odd(api.Fun, 0, "g", kids...), odd(api.Fun, 0, "f", kids...), sealed(1, odd(api.Fun, 0, "h", kids[1:]...)), odd(9, 0, "", kids...))
	before := wantSorted(l)
	want := make([]api.Term, len(before))
	for k, x := range before {
		want[k] = term.Shift(x, 0)
	}
	s := Sort(l)
	for k := range s {
		spoil(&s[k])
		if !slices.EqualFunc(s[k+1:], want[k+1:], term.Same) {
			t.Fatal("a term of the result shares memory with another one", k)
		}
	}
	sorts(t, l, want)
	s = Sort(l)
	for k := range l {
		spoil(&l[k])
	}
	if !slices.EqualFunc(s, want, term.Same) {
		t.Error("the result shares memory with the argument", s)
	}
}

// TestRoom: R3, what stands behind the end of the given list, in its room, is neither read nor written.
func TestRoom(t *testing.T) {
	l := list(term.Atom("b"), term.Atom("b"), term.Atom("a"), term.Atom("behind"))
	sorts(t, l[:3], list(term.Atom("a"), term.Atom("b")))
	if !slices.EqualFunc(l, list(term.Atom("b"), term.Atom("b"), term.Atom("a"), term.Atom("behind")), term.Same) {
		t.Error(l)
	}
}

// TestNothingKept: R4, a call answers the same whatever was called before it.
func TestNothingKept(t *testing.T) {
	l := someTerms(7, 60)
	var first []int
	for range 2 {
		var answers []int
		for _, a := range l {
			for _, b := range l {
				answers = append(answers, Compare(a, b), Touch(diamond(t), a, b))
			}
		}
		if first == nil {
			first = answers
		}
		if !slices.Equal(first, answers) {
			t.Fatal("the answers have changed")
		}
		slices.Reverse(l)
		Sort(l)
		slices.Reverse(l)
	}
}

// nest is core with that many Funs f around it, each with a Seal of that number on it if it is not below 0.
func nest(deep int, n int64, core api.Term) api.Term {
	for range deep {
		core = odd(api.Fun, 0, "f", core)
		if n >= 0 {
			core = sealed(n, core)
		}
	}
	return core
}

// TestDeepest: P1, terms as deep as the document's limits let them be.
func TestDeepest(t *testing.T) {
	const deep = 1 << 15
	a, b := nest(deep, -1, term.Atom("a")), nest(deep, -1, term.Atom("b"))
	ascends(t, a, b)
	equal(t, a, nest(deep-1, 1, term.Make("f", term.Atom("a"))))
	compares(t, nest(deep-1, 1, term.Atom("a")), a, -1)
	touches(t, diamond(t), a, b, 0)
	touches(t, diamond(t), a, nest(deep-1, 1, sealed(2, term.Atom("a"))), 3)
	sorts(t, list(b, a, nest(deep-1, 1, term.Make("f", term.Atom("b")))), list(a, b))
}

// TestWidest: P1, terms with many Kids, and lists of many terms.
func TestWidest(t *testing.T) {
	const wide = 1 << 17
	less := slices.Repeat(list(term.Atom("a")), wide)
	more := slices.Clone(less)
	more[wide-1] = term.Atom("b")
	a, b := odd(api.Fun, 0, "f", less...), odd(api.Fun, 0, "f", more...)
	ascends(t, a, b, odd(api.Fun, 0, "f", append(less, term.Let(0))...), odd(api.Seal, 0, "f", less...))
	var l, want []api.Term
	for k := range wide {
		l = append(l, term.Num(int64(wide-k)/2))
	}
	for k := range wide/2 + 1 {
		want = append(want, term.Num(int64(k)))
	}
	if s := Sort(l); !slices.EqualFunc(s, want, term.Same) {
		t.Error("not as it should be", len(s), len(want))
	}
}
