package latt

import (
	"math"
	"slices"
	"testing"

	"torchere/api"
)

type pairs = [][2]int

// chain is n levels, each below the one with the next number.
func chain(n int) pairs {
	var p pairs
	for k := range n - 1 {
		p = append(p, [2]int{k, k + 1})
	}
	return p
}

// falling is a chain whose levels are numbered from the top.
func falling(n int) pairs {
	var p pairs
	for k := range n - 1 {
		p = append(p, [2]int{k + 1, k})
	}
	return p
}

// zigzag is a chain that goes to and fro, 0 n-1 1 n-2 and so on: no single pass in the order of the numbers closes it.
func zigzag(n int) pairs {
	var p pairs
	for k := range n - 1 {
		if k%2 == 0 {
			p = append(p, [2]int{k / 2, n - 1 - k/2})
		} else {
			p = append(p, [2]int{n - 1 - k/2, k/2 + 1})
		}
	}
	return p
}

// cube is the subsets of bits many things, as bits, 16 of them for 4.
func cube(bits int) pairs {
	var p pairs
	for s := range 1 << bits {
		for b := range bits {
			if s>>b&1 == 0 {
				p = append(p, [2]int{s, s | 1<<b})
			}
		}
	}
	return p
}

// flat is n levels: the last but one below all, the last one above all, no others below each other.
func flat(n int) pairs {
	p := pairs{{n - 2, n - 1}}
	for k := range n - 2 {
		p = append(p, [2]int{n - 2, k}, [2]int{k, n - 1})
	}
	return p
}

// lattices are those that New must return.
func lattices() []struct {
	name string
	n    int
	p    pairs
} {
	return []struct {
		name string
		n    int
		p    pairs
	}{
		{"one", 1, nil},
		{"one, empty list", 1, pairs{}},
		{"one below itself", 1, pairs{{0, 0}}},
		{"two", 2, pairs{{0, 1}}},
		{"two, falling", 2, pairs{{1, 0}}},
		{"two, said again", 2, pairs{{0, 1}, {0, 0}, {0, 1}, {1, 1}}},
		{"diamond", 4, pairs{{0, 1}, {0, 2}, {1, 3}, {2, 3}}},
		{"diamond, renamed", 4, pairs{{3, 0}, {2, 3}, {1, 0}, {2, 1}}},
		{"diamond, said in full", 4, pairs{{0, 3}, {0, 1}, {0, 2}, {1, 3}, {2, 3}}},
		{"pentagon", 5, pairs{{0, 1}, {1, 2}, {2, 4}, {0, 3}, {3, 4}}},
		{"three between", 5, flat(5)},
		{"cube", 8, cube(3)},
		{"16, chain", 16, chain(16)},
		{"16, falling", 16, falling(16)},
		{"16, zigzag", 16, zigzag(16)},
		{"15, zigzag", 15, zigzag(15)},
		{"16, cube", 16, cube(4)},
		{"16, flat", 16, flat(16)},
		{"15, chain", 15, chain(15)},
	}
}

// order is the closure worked out in another way: by the paths through each level in turn.
func order(n int, p pairs) [][]bool {
	o := make([][]bool, n)
	for a := range o {
		o[a] = make([]bool, n)
		o[a][a] = true
	}
	for _, x := range p {
		o[x[0]][x[1]] = true
	}
	for k := range n {
		for a := range n {
			for b := range n {
				o[a][b] = o[a][b] || o[a][k] && o[k][b]
			}
		}
	}
	return o
}

// bound is the least upper bound in the order o, or -1; in the converse order it is the greatest lower one.
func bound(n int, o func(a, b int) bool, a, b int) int {
	for c := range n {
		least := o(a, c) && o(b, c)
		for d := range n {
			if o(a, d) && o(b, d) && !o(c, d) {
				least = false
			}
		}
		if least {
			return c
		}
	}
	return -1
}

// expect is what New has to say of pairs that are all of levels.
func expect(n int, p pairs) api.Errno {
	o := order(n, p)
	up := func(a, b int) bool { return o[a][b] }
	down := func(a, b int) bool { return o[b][a] }
	for a := range n {
		for b := range n {
			if a != b && o[a][b] && o[b][a] || bound(n, up, a, b) < 0 || bound(n, down, a, b) < 0 {
				return api.ErrForm
			}
		}
	}
	return api.OK
}

// agree compares a lattice with the order that its pairs stand for.
func agree(t *testing.T, l *Lattice, n int, p pairs) {
	t.Helper()
	o := order(n, p)
	up := func(a, b int) bool { return o[a][b] }
	down := func(a, b int) bool { return o[b][a] }
	if l.Len() != n {
		t.Errorf("%d %v: Len %d", n, p, l.Len())
	}
	for a := range n {
		if !o[l.Bottom()][a] || !o[a][l.Top()] {
			t.Errorf("%d %v: Bottom %d, Top %d, but there is %d", n, p, l.Bottom(), l.Top(), a)
		}
		for b := range n {
			if l.Leq(a, b) != o[a][b] {
				t.Errorf("%d %v: Leq(%d, %d) %v", n, p, a, b, l.Leq(a, b))
			}
			if j := bound(n, up, a, b); l.Join(a, b) != j {
				t.Errorf("%d %v: Join(%d, %d) %d, not %d", n, p, a, b, l.Join(a, b), j)
			}
			if m := bound(n, down, a, b); l.Meet(a, b) != m {
				t.Errorf("%d %v: Meet(%d, %d) %d, not %d", n, p, a, b, l.Meet(a, b), m)
			}
		}
	}
}

// laws holds P1.2 against a lattice.
func laws(t *testing.T, l *Lattice) {
	t.Helper()
	for a := range l.Len() {
		if l.Join(a, a) != a || l.Meet(a, a) != a {
			t.Errorf("idempotent: %d", a)
		}
		for b := range l.Len() {
			if l.Join(a, b) != l.Join(b, a) || l.Meet(a, b) != l.Meet(b, a) {
				t.Errorf("commutative: %d %d", a, b)
			}
			if l.Leq(a, b) != (l.Join(a, b) == b) || l.Leq(a, b) != (l.Meet(a, b) == a) {
				t.Errorf("below and bounds: %d %d", a, b)
			}
			for c := range l.Len() {
				if l.Join(l.Join(a, b), c) != l.Join(a, l.Join(b, c)) || l.Meet(l.Meet(a, b), c) != l.Meet(a, l.Meet(b, c)) {
					t.Errorf("associative: %d %d %d", a, b, c)
				}
			}
		}
	}
}

// P1.1, P1.2: on ordinary lattices, of 1 to 16 levels.
func TestLattices(t *testing.T) {
	for _, c := range lattices() {
		t.Run(c.name, func(t *testing.T) {
			l, e := New(c.n, c.p)
			if e != api.OK || l == nil {
				t.Fatal(e)
			}
			agree(t, l, c.n, c.p)
			laws(t, l)
		})
	}
}

// P1.1: the document's example, number by number.
func TestExample(t *testing.T) {
	l, e := New(4, pairs{{0, 1}, {0, 2}, {1, 3}, {2, 3}})
	if e != api.OK {
		t.Fatal(e)
	}
	if l.Len() != 4 || l.Bottom() != 0 || l.Top() != 3 || l.Join(1, 2) != 3 || l.Meet(1, 2) != 0 {
		t.Error(l.Len(), l.Bottom(), l.Top(), l.Join(1, 2), l.Meet(1, 2))
	}
	if l.Join(0, 1) != 1 || l.Meet(3, 2) != 2 || !l.Leq(0, 3) || l.Leq(3, 0) || l.Leq(1, 2) || l.Leq(2, 1) {
		t.Error("order")
	}
}

// P1.1, P1.2: all orders of up to 4 levels, and many of 5: what is refused, and what is not.
func TestAllSmall(t *testing.T) {
	good := map[int]int{}
	for n := 1; n <= 5; n++ {
		var every pairs
		for a := range n {
			for b := range n {
				if a < b || a != b && n < 5 {
					every = append(every, [2]int{a, b})
				}
			}
		}
		for mask := range 1 << len(every) {
			var p pairs
			for k, x := range every {
				if mask>>k&1 == 1 {
					p = append(p, x)
				}
			}
			l, e := New(n, p)
			if want := expect(n, p); e != want || (l == nil) != (e != api.OK) {
				t.Fatalf("%d %v: %v, not %v", n, p, e, want)
			}
			if e == api.OK {
				good[n]++
				agree(t, l, n, p)
				laws(t, l)
			}
		}
	}
	for n := 1; n <= 5; n++ {
		if good[n] == 0 {
			t.Errorf("no lattice of %d levels", n)
		}
	}
}

// P1.1: how many levels there may be, and which pairs.
func TestArg(t *testing.T) {
	for _, n := range []int{0, -1, 17, 18, 64, 65, 256, math.MaxInt, math.MinInt, 1 << 32} {
		for _, p := range []pairs{nil, {{0, 0}}, {{0, 1}}, {{0, 1}, {1, 0}}} {
			if l, e := New(n, p); l != nil || e != api.ErrArg {
				t.Errorf("%d %v: %v %v", n, p, l, e)
			}
		}
	}
	for _, bad := range []int{2, 3, 16, 17, 64, -1, -64, math.MaxInt, math.MinInt, 1 << 32} {
		for _, p := range []pairs{
			{{0, bad}}, {{bad, 0}}, {{bad, bad}}, {{0, 1}, {bad, 1}}, {{0, 1}, {1, bad}},
			{{0, bad}, {0, 1}}, {{0, 1}, {1, 0}, {0, bad}}, {{0, bad}, {0, 1}, {1, 0}},
		} {
			if l, e := New(2, p); l != nil || e != api.ErrArg {
				t.Errorf("%v: %v %v", p, l, e)
			}
		}
	}
	for n := 1; n <= api.MaxLevels; n++ {
		if _, e := New(n, chain(n)); e != api.OK {
			t.Errorf("chain of %d: %v", n, e)
		}
		if l, e := New(n, append(chain(n), [2]int{n - 1, n})); l != nil || e != api.ErrArg {
			t.Errorf("chain beyond %d: %v %v", n, l, e)
		}
	}
}

// P1.1: orders that are no lattices.
func TestForm(t *testing.T) {
	for _, c := range []struct {
		name string
		n    int
		p    pairs
	}{
		{"two apart", 2, nil},
		{"two below themselves only", 2, pairs{{0, 0}, {1, 1}}},
		{"two below each other", 2, pairs{{0, 1}, {1, 0}}},
		{"a ring", 3, pairs{{0, 1}, {1, 2}, {2, 0}}},
		{"a ring of all but the ends", 4, pairs{{0, 1}, {1, 2}, {2, 1}, {2, 3}}},
		{"a ring at the bottom", 3, pairs{{0, 1}, {1, 0}, {1, 2}}},
		{"no upper bound", 3, pairs{{0, 1}, {0, 2}}},
		{"no lower bound", 3, pairs{{0, 2}, {1, 2}}},
		{"two upper bounds, none least", 6, pairs{{0, 1}, {0, 2}, {1, 3}, {1, 4}, {2, 3}, {2, 4}, {3, 5}, {4, 5}}},
		{"one beside a chain", 4, pairs{{0, 1}, {1, 2}}},
		{"16 apart", 16, nil},
		{"16 in a ring", 16, append(chain(16), [2]int{15, 0})},
		{"16 in a zigzag ring", 16, append(zigzag(16), [2]int{8, 0})},
		{"16, the last one apart", 16, chain(15)},
		{"16, two tops", 16, append(chain(15), [2]int{13, 15})},
		{"16, two bottoms", 16, append(falling(15), [2]int{15, 13})},
	} {
		if l, e := New(c.n, c.p); l != nil || e != api.ErrForm {
			t.Errorf("%s: %v %v", c.name, l, e)
		}
	}
}

// P1.1: arguments that are no levels.
func TestNoLevels(t *testing.T) {
	for _, c := range lattices() {
		l, e := New(c.n, c.p)
		if e != api.OK {
			t.Fatal(c.name, e)
		}
		for _, bad := range []int{c.n, c.n + 1, 16, 17, 63, 64, -1, -16, 1 << 32, math.MaxInt, math.MinInt} {
			for _, a := range []int{0, c.n - 1, bad} {
				for _, x := range [][2]int{{a, bad}, {bad, a}} {
					if l.Leq(x[0], x[1]) || l.Join(x[0], x[1]) != -1 || l.Meet(x[0], x[1]) != -1 {
						t.Errorf("%s: %v: %v %d %d", c.name, x, l.Leq(x[0], x[1]), l.Join(x[0], x[1]), l.Meet(x[0], x[1]))
					}
				}
			}
		}
	}
}

// P1.1: a nil lattice.
func TestNil(t *testing.T) {
	var l *Lattice
	if l.Len() != 0 || l.Bottom() != -1 || l.Top() != -1 {
		t.Error(l.Len(), l.Bottom(), l.Top())
	}
	for _, a := range []int{0, 1, -1, 16, math.MaxInt, math.MinInt} {
		if l.Leq(a, a) || l.Leq(0, a) || l.Join(a, a) != -1 || l.Join(0, a) != -1 || l.Meet(a, a) != -1 || l.Meet(a, 0) != -1 {
			t.Error(a)
		}
	}
}

// R3, R4: pairs are neither changed nor kept, and lattices don't touch each other.
func TestApart(t *testing.T) {
	p := cube(4)
	was := slices.Clone(p)
	l, e := New(16, p)
	if e != api.OK || !slices.Equal(p, was) {
		t.Fatal(e, p)
	}
	for k := range p {
		p[k] = [2]int{99, -1}
	}
	if _, e := New(16, falling(16)); e != api.OK {
		t.Fatal(e)
	}
	if _, e := New(16, p); e != api.ErrArg {
		t.Fatal(e)
	}
	agree(t, l, 16, was)
}

// P1: a long list of pairs ends too.
func TestLong(t *testing.T) {
	var p pairs
	for range 20000 {
		p = append(p, zigzag(16)...)
	}
	l, e := New(16, p)
	if e != api.OK || l.Bottom() != 0 || l.Top() != 8 {
		t.Fatal(e)
	}
	if l, e := New(16, append(p, [2]int{0, 16})); l != nil || e != api.ErrArg {
		t.Error(l, e)
	}
}
