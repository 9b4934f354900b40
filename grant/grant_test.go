package grant

import (
	"errors"
	"fmt"
	"math"
	"slices"
	"strings"
	"testing"

	"torchere/api"
	"torchere/latt"
)

// lattice makes one, or ends the test.
func lattice(t *testing.T, n int, below [][2]int) *latt.Lattice {
	t.Helper()
	l, e := latt.New(n, below)
	if e != api.OK {
		t.Fatal(e)
	}
	return l
}

// diamond is 0 below 1 and 2, these below 3.
func diamond(t *testing.T) *latt.Lattice {
	t.Helper()
	return lattice(t, 4, [][2]int{{0, 1}, {0, 2}, {1, 3}, {2, 3}})
}

// lattices are those that tables are tried on: their numbers rise with the order, fall, and do neither.
func lattices(t *testing.T) []*latt.Lattice {
	t.Helper()
	return []*latt.Lattice{
		lattice(t, 1, nil),
		lattice(t, 2, [][2]int{{1, 0}}),
		diamond(t),
		lattice(t, 4, [][2]int{{3, 0}, {2, 3}, {1, 0}, {2, 1}}),
		lattice(t, 5, [][2]int{{0, 1}, {1, 2}, {2, 4}, {0, 3}, {3, 4}}),
	}
}

// table makes one, or ends the test.
func table(t *testing.T, l *latt.Lattice, g ...api.Grant) *Table {
	t.Helper()
	x, e := New(l, g)
	if e != nil || x == nil {
		t.Fatal(g, e)
	}
	return x
}

// codes are all that there are, OK apart.
var codes = []api.Errno{api.ErrArg, api.ErrRange, api.ErrFull, api.ErrForm, api.ErrNone, api.ErrThere, api.ErrDeep, api.ErrInst, api.ErrType, api.ErrEval}

// refused holds New to an error of that code, and of no other.
func refused(t *testing.T, name string, l *latt.Lattice, g []api.Grant, want api.Errno) {
	t.Helper()
	x, e := New(l, g)
	if x != nil || e == nil {
		t.Errorf("%s: %v %v", name, x, e)
		return
	}
	for _, c := range codes {
		if errors.Is(e, c) != (c == want) {
			t.Errorf("%s: %v: errors.Is of %v, want %v", name, e, c, want)
		}
	}
	var found api.Errno
	if !errors.As(e, &found) || found != want || Code(e) != want {
		t.Errorf("%s: %v: errors.As %v, Code %v, want %v", name, e, found, Code(e), want)
	}
	if e.Error() == "" {
		t.Errorf("%s: an error without a text", name)
	}
}

// many is n grants of kim from the bottom to itself.
func many(n int) []api.Grant {
	return slices.Repeat([]api.Grant{{Owner: "kim"}}, n)
}

// noLevels are numbers that are no levels of 4.
var noLevels = []int{4, 5, 16, 17, 64, -1, -4, 1 << 32, math.MaxInt, math.MinInt}

// P2.1: tables that there are, and how many grants they may have.
func TestNew(t *testing.T) {
	l := diamond(t)
	for _, g := range [][]api.Grant{nil, {}, many(1), many(99), many(100), {{Owner: "kim", From: 3, To: 3}, {Owner: "kim", From: 0, To: 3}, {Owner: "z"}, {Owner: "az", From: 1, To: 2}}} {
		if x, e := New(l, g); x == nil || e != nil {
			t.Errorf("%d grants: %v %v", len(g), x, e)
		}
	}
	for _, n := range []int{101, 102, 1000} {
		refused(t, fmt.Sprint(n), l, many(n), api.ErrFull)
	}
	refused(t, "no lattice", nil, nil, api.ErrArg)
	refused(t, "no lattice, empty list", nil, []api.Grant{}, api.ErrArg)
}

// P2.1: the last of 100 grants counts too.
func TestHundredth(t *testing.T) {
	l := diamond(t)
	g := many(100)
	g[99] = api.Grant{Owner: "lee", From: 3, To: 1}
	x := table(t, l, g...)
	if !x.May("lee", 3, 1) || !x.Crosses(1) || x.Crosses(2) {
		t.Error("the last grant is lost")
	}
	g[99].To = 4
	refused(t, "the last one is wrong", l, g, api.ErrRange)
}

// P2.1: owners' names, by length and by bytes.
func TestOwner(t *testing.T) {
	l := diamond(t)
	for _, n := range []int{1, 2, 63, 64} {
		name := strings.Repeat("q", n)
		x := table(t, l, api.Grant{Owner: name, From: 1, To: 0})
		if !x.May(name, 1, 0) || x.May(name+"q", 1, 0) || x.May(name[1:], 1, 0) {
			t.Errorf("an owner of %d bytes", n)
		}
	}
	for _, n := range []int{0, 65, 66, 128, 5000} {
		refused(t, fmt.Sprint("length ", n), l, []api.Grant{{Owner: strings.Repeat("q", n)}}, api.ErrForm)
	}
	for b := range 256 {
		for _, name := range []string{string([]byte{byte(b)}), "a" + string([]byte{byte(b)}), string([]byte{byte(b)}) + "z", "k" + string([]byte{byte(b)}) + "m", strings.Repeat("a", 63) + string([]byte{byte(b)})} {
			g := []api.Grant{{Owner: name, From: 1}}
			if b >= 'a' && b <= 'z' {
				if x, e := New(l, g); e != nil || !x.May(name, 1, 0) {
					t.Errorf("%q: %v", name, e)
				}
			} else {
				refused(t, fmt.Sprintf("%q", name), l, g, api.ErrForm)
			}
		}
	}
	for _, name := range []string{"Kim", "kim lee", "kim1", "ä", "\u00aa", "ﬁ", "\u0131", "kim\x00", "\xff"} {
		refused(t, name, l, []api.Grant{{Owner: name}}, api.ErrForm)
	}
	refused(t, "64 bytes that are no letters from a to z", l, []api.Grant{{Owner: strings.Repeat("ä", 32)}}, api.ErrForm)
}

// P2.1: a From or a To that is no level.
func TestRange(t *testing.T) {
	l := diamond(t)
	for _, bad := range noLevels {
		for _, good := range []int{0, 1, 2, 3, bad} {
			refused(t, fmt.Sprint("from ", bad, " to ", good), l, []api.Grant{{Owner: "kim", From: bad, To: good}}, api.ErrRange)
			refused(t, fmt.Sprint("from ", good, " to ", bad), l, []api.Grant{{Owner: "kim", From: good, To: bad}}, api.ErrRange)
		}
	}
	for from := range 4 {
		for to := range 4 {
			table(t, l, api.Grant{Owner: "kim", From: from, To: to})
		}
	}
	one := lattice(t, 1, nil)
	table(t, one, api.Grant{Owner: "kim"})
	refused(t, "level 1 of 1", one, []api.Grant{{Owner: "kim", From: 1}}, api.ErrRange)
}

// P2.1: of several errors the first is told.
func TestFirst(t *testing.T) {
	l := diamond(t)
	good := api.Grant{Owner: "kim", From: 3, To: 1}
	form := api.Grant{Owner: "Kim", From: 3, To: 1}
	span := api.Grant{Owner: "kim", From: 3, To: 4}
	both := api.Grant{Owner: "", From: -1, To: 4}
	for _, c := range []struct {
		name string
		l    *latt.Lattice
		g    []api.Grant
		want api.Errno
	}{
		{"nil ahead of full", nil, many(101), api.ErrArg},
		{"nil ahead of form", nil, []api.Grant{form}, api.ErrArg},
		{"nil ahead of range", nil, []api.Grant{span}, api.ErrArg},
		{"nil ahead of all", nil, slices.Repeat([]api.Grant{both}, 101), api.ErrArg},
		{"full ahead of form", l, slices.Repeat([]api.Grant{form}, 101), api.ErrFull},
		{"full ahead of range", l, slices.Repeat([]api.Grant{span}, 101), api.ErrFull},
		{"full ahead of the zero value", l, make([]api.Grant, 101), api.ErrFull},
		{"form ahead of range in one grant", l, []api.Grant{both}, api.ErrForm},
		{"the first grant, form", l, []api.Grant{form, span}, api.ErrForm},
		{"the first grant, range", l, []api.Grant{span, form}, api.ErrRange},
		{"behind a good one, form", l, []api.Grant{good, form, span, good}, api.ErrForm},
		{"behind a good one, range", l, []api.Grant{good, good, span, form}, api.ErrRange},
		{"range, then both", l, []api.Grant{span, both}, api.ErrRange},
		{"the last one", l, []api.Grant{good, good, form}, api.ErrForm},
		{"the zero value", l, make([]api.Grant, 1), api.ErrForm},
	} {
		refused(t, c.name, c.l, c.g, c.want)
	}
}

// wrap is an error of others that wraps one, or nothing.
type wrap struct{ e error }

func (w *wrap) Error() string { return "wrapped" }
func (w *wrap) Unwrap() error { return w.e }

// split is an error that wraps several.
type split []error

func (s split) Error() string   { return "split" }
func (s split) Unwrap() []error { return s }

// posing is an error that gives itself out for an Errno, or only seems to.
type posing struct {
	code api.Errno
	is   bool
}

func (p posing) Error() string { return "posing" }
func (p posing) As(target any) bool {
	if c, ok := target.(*api.Errno); ok {
		*c = p.code
	}
	return p.is
}

// P2.1: Code of nil, of an Errno, bare and wrapped, and of errors without one.
func TestCode(t *testing.T) {
	var none *wrap
	for _, c := range []struct {
		name string
		e    error
		want api.Errno
	}{
		{"nil", nil, api.OK},
		{"OK", api.OK, api.OK},
		{"OK wrapped", &wrap{api.OK}, api.OK},
		{"an Errno beyond all", api.Errno(77), 77},
		{"a negative Errno", &wrap{api.Errno(-3)}, -3},
		{"no Errno", errors.New("x"), api.ErrArg},
		{"nothing wrapped", &wrap{}, api.ErrArg},
		{"no Errno wrapped", &wrap{errors.New("x")}, api.ErrArg},
		{"the first of several", split{errors.New("x"), &wrap{api.ErrDeep}, api.ErrForm}, api.ErrDeep},
		{"the outer one", errors.Join(&wrap{api.ErrEval}, api.ErrForm), api.ErrEval},
		{"none of none", split{}, api.ErrArg},
		{"none of several", split{errors.New("x"), nil, &wrap{}}, api.ErrArg},
		{"by As", posing{api.ErrType, true}, api.ErrType},
		{"by As, wrapped", &wrap{posing{api.ErrType, true}}, api.ErrType},
		{"As says no", posing{api.ErrType, false}, api.ErrArg},
		{"a nil pointer that panics", none, api.ErrArg},
		{"a nil pointer, wrapped", &wrap{none}, api.ErrArg},
		{"a nil pointer, behind an As that says no", split{posing{api.ErrType, false}, none}, api.ErrArg},
	} {
		if is := Code(c.e); is != c.want {
			t.Errorf("%s: %v, not %v", c.name, is, c.want)
		}
	}
	for _, code := range codes {
		if Code(code) != code || Code(&wrap{code}) != code || Code(&wrap{&wrap{code}}) != code || Code(fmt.Errorf("at %d: %w", 7, code)) != code {
			t.Errorf("%v", code)
		}
	}
}

// P2.2: Text, of numbers of all kinds and of any owner.
func TestText(t *testing.T) {
	for _, c := range []struct {
		owner    string
		from, to int
		want     string
	}{
		{"kim", 3, 1, "kim 3>1"},
		{"kim", 0, 0, "kim 0>0"},
		{"kim", -3, 12, "kim -3>12"},
		{"kim", 12, -3, "kim 12>-3"},
		{"lee", -10, -100, "lee -10>-100"},
		{"lee", 15, 10, "lee 15>10"},
		{"", 1, 2, " 1>2"},
		{"No owner > \x00\xff", 1, 2, "No owner > \x00\xff 1>2"},
		{"k", math.MaxInt, math.MinInt, "k 9223372036854775807>-9223372036854775808"},
	} {
		if is := Text(c.owner, c.from, c.to); is != c.want {
			t.Errorf("%q, not %q", is, c.want)
		}
	}
}

// P2.2: the document's example.
func TestExample(t *testing.T) {
	x := table(t, diamond(t), api.Grant{Owner: "kim", From: 3, To: 1})
	if !x.May("kim", 2, 1) || !x.May("kim", 3, 1) || !x.May("kim", 0, 3) || x.May("kim", 2, 0) || x.May("kim", 2, 2) {
		t.Error("kim from 3 to 1")
	}
	falling := table(t, lattice(t, 4, [][2]int{{3, 2}, {2, 1}, {1, 0}}), api.Grant{Owner: "kim", From: 3, To: 1})
	if falling.May("kim", 2, 1) || !falling.May("kim", 3, 0) {
		t.Error("kim from 3 to 1, where 3 is below 2 and 1 below 0")
	}
}

// P2.2: an owner has the owner's own grants alone, and no two of them make a third.
func TestOwnersApart(t *testing.T) {
	l := lattice(t, 4, [][2]int{{0, 1}, {1, 2}, {2, 3}})
	x := table(t, l, api.Grant{Owner: "kim", From: 3, To: 2}, api.Grant{Owner: "lee", From: 2, To: 1}, api.Grant{Owner: "kim", From: 1, To: 0})
	for _, c := range []struct {
		owner    string
		from, to int
		want     bool
	}{
		{"kim", 3, 2, true}, {"kim", 1, 0, true}, {"lee", 2, 1, true}, {"kim", 0, 3, true},
		{"kim", 3, 0, false}, {"kim", 3, 1, false}, {"kim", 2, 1, false}, {"kim", 2, 0, false},
		{"lee", 3, 2, false}, {"lee", 3, 3, false}, {"lee", 1, 0, false}, {"lee", 0, 0, false},
		{"ann", 0, 3, false}, {"", 0, 3, false}, {"ki", 3, 2, false}, {"kimm", 3, 2, false}, {"Kim", 3, 2, false},
	} {
		if is := x.May(c.owner, c.from, c.to); is != c.want {
			t.Errorf("%s: %v", Text(c.owner, c.from, c.to), is)
		}
	}
}

// P2.2, P2.3: on each lattice each pair of grants, against what the words say, one by one.
func TestAllGrants(t *testing.T) {
	for _, l := range lattices(t) {
		n := l.Len()
		for k := range n * n * n * n {
			kim := api.Grant{Owner: "kim", From: k % n, To: k / n % n}
			lee := api.Grant{Owner: "lee", From: k / n / n % n, To: k / n / n / n}
			x := table(t, l, kim, lee)
			for a := range n {
				crosses := false
				for _, g := range []api.Grant{kim, lee} {
					if !l.Leq(g.From, a) && l.Leq(g.To, a) {
						crosses = true
					}
					for b := range n {
						if is := x.May(g.Owner, a, b); is != (l.Leq(a, g.From) && l.Leq(g.To, b)) {
							t.Errorf("%v: May %d>%d %v", g, a, b, is)
						}
						monotone(t, x, l, g.Owner, a, b)
					}
				}
				if x.Crosses(a) != crosses {
					t.Errorf("%v %v: Crosses(%d) %v", kim, lee, a, !crosses)
				}
			}
		}
	}
}

// monotone holds P2.3 against one thing that may be.
func monotone(t *testing.T, x *Table, l *latt.Lattice, owner string, from, to int) {
	t.Helper()
	if !x.May(owner, from, to) {
		return
	}
	for a := range l.Len() {
		for b := range l.Len() {
			if l.Leq(a, from) && l.Leq(to, b) && !x.May(owner, a, b) {
				t.Errorf("%d>%d, but not %d>%d", from, to, a, b)
			}
		}
	}
}

// P2.2: levels that are none.
func TestNoLevels(t *testing.T) {
	x := table(t, diamond(t), api.Grant{Owner: "kim", From: 3, To: 0}, api.Grant{Owner: "kim", From: 0, To: 3})
	for _, bad := range noLevels {
		if x.Crosses(bad) || x.May("kim", bad, bad) {
			t.Error(bad)
		}
		for a := range 4 {
			if x.May("kim", bad, a) || x.May("kim", a, bad) {
				t.Error(bad, a)
			}
		}
	}
}

// P2.2: a table that is nil, and one without grants.
func TestNil(t *testing.T) {
	l := diamond(t)
	for _, x := range []*Table{nil, table(t, l), table(t, l, []api.Grant{}...)} {
		for _, a := range append([]int{0, 1, 2, 3}, noLevels...) {
			if x.May("kim", 0, a) || x.May("", a, 3) || x.Crosses(a) {
				t.Error(x, a)
			}
		}
	}
}

// R3: grants are neither changed nor kept, and tables don't touch each other.
func TestApart(t *testing.T) {
	l := diamond(t)
	g := []api.Grant{{Owner: "kim", From: 2, To: 0}, {Owner: "lee", From: 3, To: 1}}
	was := slices.Clone(g)
	x, e := New(l, g)
	if e != nil || !slices.Equal(g, was) {
		t.Fatal(e, g)
	}
	g[0], g[1] = api.Grant{Owner: "ann", From: 3, To: 0}, api.Grant{}
	other := table(t, l, api.Grant{Owner: "bob", From: 3, To: 0})
	if !x.May("kim", 2, 0) || !x.May("lee", 3, 1) || x.May("ann", 3, 0) || x.May("bob", 3, 0) || !other.May("bob", 3, 0) || other.May("kim", 2, 0) {
		t.Error("a table has changed")
	}
}
