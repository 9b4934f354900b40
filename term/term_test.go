package term

import (
	"math"
	"reflect"
	"slices"
	"strings"
	"testing"

	"torchere/api"
)

// sealed is a Seal of that level around these.
func sealed(level int64, kids ...api.Term) api.Term {
	return api.Term{Kind: api.Seal, N: level, Kids: kids}
}

// list is a Fun with these Kids as they are, however many, and not copied.
func list(kids ...api.Term) api.Term {
	return api.Term{Kind: api.Fun, S: "l", Kids: kids}
}

// nest is core with that many Funs of one argument around it.
func nest(deep int, core api.Term) api.Term {
	for range deep {
		core = list(core)
	}
	return core
}

// flat is a valid term of that many parts, at most 1 + 8 * 128 of them, and not deep.
func flat(size int) api.Term {
	top := list()
	for left := size - 1; left > 0; {
		take := min(left, 128)
		top.Kids = append(top.Kids, bush(take))
		left -= take
	}
	return top
}

// bush is a valid term of that many parts, each Fun with at most 8 Kids.
func bush(size int) api.Term {
	t := list()
	left := size - 1
	for k := range 8 {
		take := (left + 7 - k) / (8 - k)
		if take > 0 {
			t.Kids = append(t.Kids, bush(take))
		}
		left -= take
	}
	return t
}

// pieces are the terms that wholes makes greater ones of: each Kind there is and some there are not, right and wrong.
func pieces() []api.Term {
	var all []api.Term
	for _, kind := range []int{math.MinInt, -1, 0, api.Var, api.Int, api.Fun, api.Seal, 5, math.MaxInt} {
		for _, n := range []int64{math.MinInt64, -1, 0, 1, 2, 3, 4095, 4096, math.MaxInt64} {
			for _, s := range []string{"", "a", strings.Repeat("b", 64), strings.Repeat("b", 65)} {
				all = append(all, api.Term{Kind: kind, N: n, S: s})
			}
		}
	}
	return all
}

// wholes are the pieces, and terms of them, some two and three levels deep.
func wholes() []api.Term {
	all := pieces()
	some := []api.Term{Let(0), Let(7), Num(-1), Atom("a"), sealed(0, Num(1)), sealed(2, Atom("")), sealed(1, Let(0)), {Kind: 6}, list(Let(3), sealed(1, Num(4)), Let(3))}
	for _, top := range pieces() {
		for k, kid := range some {
			one, two, three := top, top, top
			one.Kids = []api.Term{kid}
			two.Kids = []api.Term{kid, some[(k+1)%len(some)]}
			three.Kids = []api.Term{list(Num(2), kid), kid, Let(k)}
			all = append(all, one, two, three)
		}
	}
	return all
}

// isValid is the document's word valid, sentence by sentence.
func isValid(t api.Term, levels int) bool {
	kids := true
	for _, kid := range t.Kids {
		kids = kids && isValid(kid, levels)
	}
	if t.Kind == api.Var {
		return 0 <= t.N && t.N <= 4095 && t.S == "" && len(t.Kids) == 0
	}
	if t.Kind == api.Int {
		return t.S == "" && len(t.Kids) == 0
	}
	if t.Kind == api.Fun {
		return t.N == 0 && len(t.S) <= 64 && len(t.Kids) <= 8 && kids
	}
	if t.Kind == api.Seal {
		return t.S == "" && 0 <= t.N && levels > 0 && t.N <= int64(levels)-1 && len(t.Kids) == 1 && kids && len(numbers(t.Kids[0])) == 0
	}
	return false
}

// numbers are those of the variables of a term as they come, repeated ones too.
func numbers(t api.Term) []int64 {
	var all []int64
	if t.Kind == api.Var {
		all = append(all, t.N)
	}
	for _, kid := range t.Kids {
		all = append(all, numbers(kid)...)
	}
	return all
}

// whole is a copy of a term that shares nothing with it.
func whole(t api.Term) api.Term {
	kids := t.Kids
	t.Kids = nil
	for _, kid := range kids {
		t.Kids = append(t.Kids, whole(kid))
	}
	return t
}

// spoil overwrites each list of a term.
func spoil(t api.Term) {
	for k := range t.Kids {
		spoil(t.Kids[k])
		t.Kids[k] = api.Term{Kind: 99, S: "spoilt"}
	}
}

// P3.1: a term's own number, name and Kids, each at its edges.
func TestCheckForms(t *testing.T) {
	a := Atom("a")
	eight := slices.Repeat([]api.Term{a}, 8)
	nine := slices.Repeat([]api.Term{a}, 9)
	for _, c := range []struct {
		name   string
		t      api.Term
		levels int
		want   api.Errno
	}{
		{"variable 0", Let(0), 3, api.OK},
		{"variable 4095", Let(4095), 3, api.OK},
		{"variable 4096", Let(4096), 3, api.ErrForm},
		{"variable -1", Let(-1), 3, api.ErrForm},
		{"greatest variable", Let(math.MaxInt), 3, api.ErrForm},
		{"least variable", Let(math.MinInt), 3, api.ErrForm},
		{"variable 2^32", Let(1 << 32), 3, api.ErrForm},
		{"variable with a name", api.Term{Kind: api.Var, S: "X"}, 3, api.ErrForm},
		{"variable with Kids", api.Term{Kind: api.Var, Kids: []api.Term{a}}, 3, api.ErrForm},
		{"number 0", Num(0), 3, api.OK},
		{"greatest number", Num(math.MaxInt64), 3, api.OK},
		{"least number", Num(math.MinInt64), 3, api.OK},
		{"number with a name", api.Term{Kind: api.Int, S: "x"}, 3, api.ErrForm},
		{"number with Kids", api.Term{Kind: api.Int, Kids: []api.Term{a}}, 3, api.ErrForm},
		{"atom", a, 3, api.OK},
		{"atom without a name", Atom(""), 3, api.OK},
		{"atom of any bytes", Atom("\x00\xff\n"), 3, api.OK},
		{"64 bytes", Atom(strings.Repeat("a", 64)), 3, api.OK},
		{"65 bytes", Atom(strings.Repeat("a", 65)), 3, api.ErrForm},
		{"64 bytes of 32 letters", Atom(strings.Repeat("é", 32)), 3, api.OK},
		{"66 bytes of 33 letters", Atom(strings.Repeat("é", 33)), 3, api.ErrForm},
		{"Fun with a number", api.Term{Kind: api.Fun, S: "f", N: 1}, 3, api.ErrForm},
		{"Fun with a negative number", api.Term{Kind: api.Fun, S: "f", N: -1}, 3, api.ErrForm},
		{"8 Kids", Make("f", eight...), 3, api.OK},
		{"9 Kids", Make("f", nine...), 3, api.ErrForm},
		{"invalid Kid", Make("f", a, Let(4096)), 3, api.ErrForm},
		{"invalid Kid of a Kid", Make("f", a, Make("g", a, api.Term{}), a), 3, api.ErrForm},
		{"9 Kids of a Kid", Make("f", Make("g", nine...)), 3, api.ErrForm},
		{"Seal 0", sealed(0, a), 3, api.OK},
		{"Seal 2", sealed(2, a), 3, api.OK},
		{"Seal 3", sealed(3, a), 3, api.ErrForm},
		{"Seal -1", sealed(-1, a), 3, api.ErrForm},
		{"Seal of the greatest level", sealed(math.MaxInt64, a), 3, api.ErrForm},
		{"Seal of the least level", sealed(math.MinInt64, a), 3, api.ErrForm},
		{"Seal with a name", api.Term{Kind: api.Seal, S: "s", Kids: []api.Term{a}}, 3, api.ErrForm},
		{"Seal of none", sealed(1), 3, api.ErrForm},
		{"Seal of an empty list", api.Term{Kind: api.Seal, N: 1, Kids: []api.Term{}}, 3, api.ErrForm},
		{"Seal of two", sealed(1, a, a), 3, api.ErrForm},
		{"Seal of a number", sealed(1, Num(5)), 3, api.OK},
		{"Seal of a variable", sealed(1, Let(0)), 3, api.ErrForm},
		{"Seal of a variable within", sealed(1, Make("f", a, Make("g", Let(0)))), 3, api.ErrForm},
		{"variable in a Seal in a Seal", sealed(1, sealed(0, Let(0))), 3, api.ErrForm},
		{"Seal of what isn't valid", sealed(1, api.Term{}), 3, api.ErrForm},
		{"Seal in a Seal", sealed(1, Make("f", sealed(2, a), sealed(0, a))), 3, api.OK},
		{"Seal 3 in a Seal", sealed(1, Make("f", sealed(3, a))), 3, api.ErrForm},
		{"variable beside a Seal", Make("f", Let(0), sealed(1, a), Let(1)), 3, api.OK},
		{"Kind 0", api.Term{}, 3, api.ErrForm},
		{"Kind 5", api.Term{Kind: 5, Kids: []api.Term{a}}, 3, api.ErrForm},
		{"Kind -1", api.Term{Kind: -1}, 3, api.ErrForm},
		{"Kind of any number", api.Term{Kind: math.MaxInt, S: "a"}, 3, api.ErrForm},
		{"the one level", sealed(0, a), 1, api.OK},
		{"beyond the one level", sealed(1, a), 1, api.ErrForm},
		{"no levels, Seal 0", sealed(0, a), 0, api.ErrForm},
		{"no levels, Seal -1", sealed(-1, a), 0, api.ErrForm},
		{"no levels, no Seal", Make("f", Let(0), a, Num(1)), 0, api.OK},
		{"-1 levels, Seal 0", sealed(0, a), -1, api.ErrForm},
		{"-1 levels, Seal -2", sealed(-2, a), -1, api.ErrForm},
		{"-1 levels, no Seal", Make("f", Let(0), a, Num(1)), -1, api.OK},
		{"least levels, Seal 0", sealed(0, a), math.MinInt, api.ErrForm},
		{"least levels, greatest Seal", sealed(math.MaxInt64, a), math.MinInt, api.ErrForm},
		{"least levels, no Seal", a, math.MinInt, api.OK},
		{"17 levels, Seal 16", sealed(16, a), 17, api.OK},
		{"greatest levels, Seal below them", sealed(math.MaxInt64-1, a), math.MaxInt, api.OK},
		{"greatest levels, Seal of them", sealed(math.MaxInt64, a), math.MaxInt, api.ErrForm},
	} {
		if e := Check(c.t, c.levels); e != c.want {
			t.Errorf("%s: %v, want %v", c.name, e, c.want)
		}
	}
}

// P3.1: more than 1000 parts.
func TestCheckSizes(t *testing.T) {
	for _, size := range []int{2, 999, 1000, 1001, 1002} {
		x := flat(size)
		if Size(x) != size || Deep(x) > 60 || !isValid(x, 0) {
			t.Fatal(size, Size(x), Deep(x))
		}
		want := api.OK
		if size > 1000 {
			want = api.ErrFull
		}
		if e := Check(x, 1); e != want {
			t.Errorf("%d parts: %v, want %v", size, e, want)
		}
	}
	if e := Check(list(slices.Repeat([]api.Term{Num(1)}, 999)...), 1); e != api.ErrForm {
		t.Error("999 Kids:", e)
	}
	if e := Check(list(slices.Repeat([]api.Term{Num(1)}, 1000)...), 1); e != api.ErrFull {
		t.Error("1000 Kids:", e)
	}
}

// P3.1: more than 60 levels deep; a Seal is a level as a Fun is.
func TestCheckDepths(t *testing.T) {
	for _, c := range []struct {
		name string
		t    api.Term
		deep int
		want api.Errno
	}{
		{"60", nest(59, Atom("a")), 60, api.OK},
		{"61", nest(60, Atom("a")), 61, api.ErrDeep},
		{"60 with a Seal", nest(29, sealed(1, nest(29, Atom("a")))), 60, api.OK},
		{"61 with a Seal", nest(30, sealed(1, nest(29, Atom("a")))), 61, api.ErrDeep},
		{"61 in the first Kid", list(nest(59, Num(1)), Num(2)), 61, api.ErrDeep},
		{"61 in the last Kid", list(Num(2), nest(3, Num(3)), nest(59, Num(1))), 61, api.ErrDeep},
		{"1000", nest(999, Num(1)), 1000, api.ErrDeep},
	} {
		if Deep(c.t) != c.deep || Check(c.t, 2) != c.want {
			t.Errorf("%s: %d deep, %v", c.name, Deep(c.t), Check(c.t, 2))
		}
	}
}

// P3.1: of several errors the first in the order ErrFull, ErrDeep, ErrForm.
func TestCheckOrder(t *testing.T) {
	bad := api.Term{Kind: 7}
	for _, c := range []struct {
		name string
		t    api.Term
		want api.Errno
	}{
		{"full, deep and bad", nest(1000, bad), api.ErrFull},
		{"full and deep", nest(1000, Num(1)), api.ErrFull},
		{"full and bad", list(bad, flat(1000)), api.ErrFull},
		{"deep and bad", nest(60, bad), api.ErrDeep},
		{"deep, bad on top", api.Term{Kind: 7, Kids: []api.Term{nest(59, Num(1))}}, api.ErrDeep},
		{"deep below a variable", api.Term{Kind: api.Var, Kids: []api.Term{nest(59, Num(1))}}, api.ErrDeep},
		{"full below a number", api.Term{Kind: api.Int, Kids: []api.Term{flat(1000)}}, api.ErrFull},
		{"bad, at the edge of the others", list(nest(58, bad), flat(1000-60)), api.ErrForm},
	} {
		if e := Check(c.t, 2); e != c.want {
			t.Errorf("%s: %v, want %v", c.name, e, c.want)
		}
	}
}

// P3.1: Check agrees with the words of the document on every small term.
func TestCheckWholes(t *testing.T) {
	good := 0
	for _, x := range wholes() {
		for _, levels := range []int{math.MinInt, -1, 0, 1, 2, 3, 4, math.MaxInt} {
			want := api.ErrForm
			if isValid(x, levels) {
				want = api.OK
				good++
			}
			if e := Check(x, levels); e != want {
				t.Fatalf("%v for %d levels: %v, want %v", x, levels, e, want)
			}
		}
	}
	if good < 100 {
		t.Error("too few valid terms:", good)
	}
}

// P1: Check ends even where shared lists make a term of more parts than could ever be counted.
func TestCheckShared(t *testing.T) {
	wide := Atom("a")
	for range 59 {
		wide = list(wide, wide, wide, wide)
	}
	if e := Check(wide, 2); e != api.ErrFull {
		t.Error("shared:", e)
	}
	round := list(Num(1), Num(2))
	round.Kids[1] = round
	if e := Check(round, 2); e != api.ErrFull {
		t.Error("within itself:", e)
	}
}

// P3.1: Size and Deep.
func TestSizeDeep(t *testing.T) {
	for _, c := range []struct {
		t          api.Term
		size, deep int
	}{
		{api.Term{}, 1, 1},
		{Let(3), 1, 1},
		{Num(3), 1, 1},
		{Atom("a"), 1, 1},
		{api.Term{Kind: api.Fun, Kids: []api.Term{}}, 1, 1},
		{Make("f", Let(0), Let(0)), 3, 2},
		{sealed(0, Atom("a")), 2, 2},
		{Make("f", Make("g", Num(1), Make("h", Num(2))), Num(3)), 6, 4},
		{Make("f", Num(3), Make("g", Make("h", Num(2)), Num(1))), 6, 4},
		{api.Term{Kind: 9, Kids: []api.Term{{Kind: api.Var, Kids: []api.Term{Num(1)}}, {}}}, 4, 3},
		{flat(500), 500, Deep(flat(500))},
		{nest(300, Num(1)), 301, 301},
		{nest(1<<16-1, Num(1)), 1 << 16, 1 << 16},
		{list(slices.Repeat([]api.Term{Num(1)}, 5000)...), 5001, 2},
	} {
		if Size(c.t) != c.size || Deep(c.t) != c.deep {
			t.Errorf("%d parts, %d deep; want %d and %d", Size(c.t), Deep(c.t), c.size, c.deep)
		}
	}
}

// P3.1: Size and Deep are those of the Kids, and one more.
func TestSizeDeepWholes(t *testing.T) {
	for _, x := range wholes() {
		size, deep := 1, 0
		for _, kid := range x.Kids {
			size += Size(kid)
			deep = max(deep, Deep(kid))
		}
		if Size(x) != size || Deep(x) != deep+1 {
			t.Fatal(x, Size(x), Deep(x))
		}
	}
}

// P3.2: Vars, each once, as they first occur, wherever they stand.
func TestVars(t *testing.T) {
	odd := api.Term{Kind: api.Var, N: 5, Kids: []api.Term{Let(1), Let(5)}}
	for k, c := range []struct {
		t    api.Term
		want []int
	}{
		{Atom("a"), nil},
		{Num(7), nil},
		{api.Term{}, nil},
		{api.Term{Kind: 5, N: 8}, nil},
		{sealed(3, Num(4)), nil},
		{Let(7), []int{7}},
		{Let(0), []int{0}},
		{Make("f", Let(0), Make("g", Let(1), Let(0))), []int{0, 1}},
		{Make("f", Let(9), Let(2), Let(9), Let(2), Let(5)), []int{9, 2, 5}},
		{Make("f", Make("g", Let(4), Make("h", Let(3))), Let(2), Let(3)), []int{4, 3, 2}},
		{Make("f", Num(6), sealed(1, Let(6)), Let(1)), []int{6, 1}},
		{api.Term{Kind: 0, N: 4, Kids: []api.Term{Let(3), Let(4)}}, []int{3, 4}},
		{odd, []int{5, 1}},
		{Make("f", Let(-1), Let(math.MaxInt), Let(math.MinInt), Let(1), Let(-1)), []int{-1, math.MaxInt, math.MinInt, 1}},
	} {
		if v := Vars(c.t); !slices.Equal(v, c.want) {
			t.Error(k, v, c.want)
		}
	}
	for _, x := range wholes() {
		var want []int
		for _, n := range numbers(x) {
			if !slices.Contains(want, int(n)) {
				want = append(want, int(n))
			}
		}
		if v := Vars(x); !slices.Equal(v, want) {
			t.Fatal(x, v, want)
		}
	}
}

// P3.2: many variables, each many times, are found without going through the list of them again and again.
func TestVarsMany(t *testing.T) {
	const many = 300000
	x := list()
	for k := range 2 * many {
		x.Kids = append(x.Kids, Let(many-k%many))
	}
	v := Vars(x)
	if len(v) != many || v[0] != many || v[many-1] != 1 {
		t.Error(len(v))
	}
}

// P3.2: Same is told by each field and by nothing else.
func TestSame(t *testing.T) {
	x := Make("f", Let(1), Make("g", Num(2), sealed(1, Atom("a"))), Atom("b"))
	if !Same(x, whole(x)) || !Same(x, x) {
		t.Error("not the same as itself")
	}
	for name, change := range map[string]func(*api.Term){
		"Kind":               func(y *api.Term) { y.Kind = api.Int },
		"N":                  func(y *api.Term) { y.N = 1 },
		"S":                  func(y *api.Term) { y.S = "g" },
		"fewer Kids":         func(y *api.Term) { y.Kids = y.Kids[:2] },
		"more Kids":          func(y *api.Term) { y.Kids = append(y.Kids, Atom("b")) },
		"no Kids":            func(y *api.Term) { y.Kids = nil },
		"order of Kids":      func(y *api.Term) { slices.Reverse(y.Kids) },
		"a Kid's N":          func(y *api.Term) { y.Kids[0].N = 2 },
		"a Kid's Kind":       func(y *api.Term) { y.Kids[0].Kind = api.Int },
		"the last Kid's S":   func(y *api.Term) { y.Kids[2].S = "c" },
		"a level within":     func(y *api.Term) { y.Kids[1].Kids[1].N = 2 },
		"a name in the Seal": func(y *api.Term) { y.Kids[1].Kids[1].Kids[0].S = "b" },
	} {
		y := whole(x)
		change(&y)
		if Same(x, y) || Same(y, x) {
			t.Error("the same with another", name)
		}
	}
	none, empty := api.Term{Kind: api.Fun, S: "a"}, api.Term{Kind: api.Fun, S: "a", Kids: []api.Term{}}
	if !Same(none, empty) || !Same(empty, none) || !Same(list(none), list(empty)) {
		t.Error("nil and empty Kids")
	}
	if Same(Let(1), Num(1)) || Same(Atom("1"), Num(1)) || Same(sealed(0, Atom("a")), Atom("a")) {
		t.Error("other Kinds")
	}
}

// P3.2: no two of many terms that differ are the same, whether they are valid or not.
func TestSameWholes(t *testing.T) {
	all := wholes()
	for k := 0; k < len(all); k += 29 {
		for j := 0; j < len(all); j += 13 {
			if Same(all[k], all[j]) != reflect.DeepEqual(whole(all[k]), whole(all[j])) {
				t.Fatal(all[k], all[j])
			}
		}
	}
}

// P3.2: Shift, with numbers that wrap round.
func TestShift(t *testing.T) {
	x := Make("f", Let(4), Num(4), Make("g", Let(2), Let(4)), sealed(1, Num(2)))
	for _, by := range []int{0, 1, 10, -1, -100, math.MaxInt, math.MinInt} {
		want := Make("f", Let(4+by), Num(4), Make("g", Let(2+by), Let(4+by)), sealed(1, Num(2)))
		if y := Shift(x, by); !Same(y, want) {
			t.Error(by, y)
		}
	}
	for _, c := range []struct {
		n    int64
		by   int
		want int64
	}{
		{4095, 1, 4096},
		{0, -1, -1},
		{math.MaxInt64, 1, math.MinInt64},
		{math.MinInt64, -1, math.MaxInt64},
		{math.MaxInt64, math.MaxInt64, -2},
		{math.MinInt64, math.MinInt64, 0},
		{math.MinInt64, math.MaxInt64, -1},
		{math.MaxInt64, math.MinInt64, -1},
		{0, math.MinInt64, math.MinInt64},
	} {
		if y := Shift(api.Term{Kind: api.Var, N: c.n}, c.by); !Same(y, api.Term{Kind: api.Var, N: c.want}) {
			t.Error(c.n, c.by, y.N)
		}
	}
	odd := api.Term{Kind: api.Var, N: 5, S: "s", Kids: []api.Term{Let(1), {Kind: 8, N: 3, S: "t", Kids: []api.Term{Let(2)}}}}
	want := api.Term{Kind: api.Var, N: 7, S: "s", Kids: []api.Term{Let(3), {Kind: 8, N: 3, S: "t", Kids: []api.Term{Let(4)}}}}
	if y := Shift(odd, 2); !Same(y, want) {
		t.Error("of what isn't valid:", y)
	}
	if y := Shift(sealed(1, Let(1)), 2); !Same(y, sealed(1, Let(3))) {
		t.Error("within a Seal:", y)
	}
}

// P3.4: a shift back undoes a shift, and variables stay as many and as often.
func TestShiftBack(t *testing.T) {
	for _, x := range wholes() {
		for _, by := range []int{0, 1, -1, 4096, math.MaxInt, -math.MaxInt, math.MinInt} {
			y := Shift(x, by)
			if !Same(Shift(y, -by), x) {
				t.Fatal(x, by)
			}
			before, after := numbers(x), numbers(y)
			if len(Vars(x)) != len(Vars(y)) || len(before) != len(after) {
				t.Fatal(x, by)
			}
			for k := range before {
				if slices.Index(before, before[k]) != slices.Index(after, after[k]) {
					t.Fatal(x, by)
				}
			}
		}
	}
}

// P3.3: what is constructed, field by field.
func TestConstruct(t *testing.T) {
	a := api.Term{Kind: 3, S: "a"}
	for name, c := range map[string][2]api.Term{
		"Atom":             {Atom("a"), a},
		"Atom of nothing":  {Atom(""), {Kind: 3}},
		"Make":             {Make("f", a, a), {Kind: 3, S: "f", Kids: []api.Term{a, a}}},
		"Make of none":     {Make("a"), a},
		"Make of nil":      {Make("a", nil...), a},
		"Make of empty":    {Make("a", []api.Term{}...), a},
		"Make of bad ones": {Make("f", api.Term{}, api.Term{Kind: -1, N: 2}), {Kind: 3, S: "f", Kids: []api.Term{{}, {Kind: -1, N: 2}}}},
		"Make of others":   {Make("f", Let(3), Num(4), sealed(2, a)), {Kind: 3, S: "f", Kids: []api.Term{{Kind: 1, N: 3}, {Kind: 2, N: 4}, {Kind: 4, N: 2, Kids: []api.Term{a}}}}},
		"Num":              {Num(-5), {Kind: 2, N: -5}},
		"greatest Num":     {Num(math.MaxInt64), {Kind: 2, N: math.MaxInt64}},
		"least Num":        {Num(math.MinInt64), {Kind: 2, N: math.MinInt64}},
		"Let":              {Let(7), {Kind: 1, N: 7}},
		"negative Let":     {Let(-7), {Kind: 1, N: -7}},
		"greatest Let":     {Let(math.MaxInt), {Kind: 1, N: math.MaxInt}},
	} {
		if !reflect.DeepEqual(whole(c[0]), whole(c[1])) {
			t.Errorf("%s: %v, want %v", name, c[0], c[1])
		}
	}
	if x := Make("f", slices.Repeat([]api.Term{a}, 100)...); len(x.Kids) != 100 {
		t.Error("many Kids:", len(x.Kids))
	}
	if long := strings.Repeat("a", 100); Atom(long).S != long {
		t.Error("a long name")
	}
}

// R3: arguments stay as they are, and share no memory with results; nor do the lists of one result.
func TestMemory(t *testing.T) {
	sample := func() api.Term { return list(list(Let(1), list(Num(2))), Atom("a")) }
	for name, build := range map[string]func(api.Term) api.Term{
		"Shift":         func(x api.Term) api.Term { return Shift(x, 3) },
		"Shift by 0":    func(x api.Term) api.Term { return Shift(x, 0) },
		"Make":          func(x api.Term) api.Term { return Make("f", x) },
		"Make of Kids":  func(x api.Term) api.Term { return Make("f", x.Kids...) },
		"Make of twice": func(x api.Term) api.Term { return Make("f", x, x) },
	} {
		x := sample()
		y := build(x)
		kept := whole(y)
		if !Same(x, sample()) {
			t.Error(name, "changes its argument")
		}
		spoil(x)
		if !Same(y, kept) {
			t.Error(name, "keeps its argument's memory")
		}
		x = sample()
		spoil(build(x))
		if !Same(x, sample()) {
			t.Error(name, "gives its argument's memory away")
		}
	}
	x := sample()
	y := Make("f", x, x)
	spoil(y.Kids[0])
	if !Same(y.Kids[1], x) {
		t.Error("two lists of one result share memory")
	}
	x = sample()
	Check(x, 2)
	Size(x)
	Deep(x)
	Same(x, sample())
	v := Vars(x)
	v[0] = 99
	if !Same(x, sample()) || !slices.Equal(Vars(x), []int{1}) {
		t.Error("an argument was changed")
	}
}

// P1: as deep as the document's limits allow.
func TestDeepest(t *testing.T) {
	x := nest(1<<16-1, Let(3))
	y := Shift(x, 2)
	if !Same(Shift(y, -2), x) || Same(x, y) || !slices.Equal(Vars(y), []int{5}) || Check(x, 2) != api.ErrFull {
		t.Error("deep")
	}
	if z := Make("f", x); Size(z) != 1<<16+1 {
		t.Error(Size(z))
	}
}
