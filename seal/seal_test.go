package seal

import (
	"math"
	"reflect"
	"slices"
	"testing"

	"torchere/api"
	"torchere/latt"
	"torchere/term"
)

// sealed is a Seal of that number around these, as they are and not copied.
func sealed(n int64, kids ...api.Term) api.Term {
	return api.Term{Kind: api.Seal, N: n, Kids: kids}
}

// list is a Fun with these Kids as they are and not copied.
func list(kids ...api.Term) api.Term {
	return api.Term{Kind: api.Fun, S: "l", Kids: kids}
}

// odd is a term of no Kind that there is, with these Kids.
func odd(kids ...api.Term) api.Term {
	return api.Term{Kind: 7, N: 5, S: "odd", Kids: kids}
}

// lattice is the one of these pairs; there has to be one.
func lattice(t *testing.T, n int, below ...[2]int) *latt.Lattice {
	t.Helper()
	l, e := latt.New(n, below)
	if e != api.OK {
		t.Fatal(n, below, e)
	}
	return l
}

// diamond has 0 at the bottom, 3 at the top, and 1 and 2 between them, neither below the other.
func diamond(t *testing.T) *latt.Lattice {
	t.Helper()
	return lattice(t, 4, [2]int{0, 1}, [2]int{0, 2}, [2]int{1, 3}, [2]int{2, 3})
}

// lattices are of several forms; in some of them neither is Bottom 0 nor Top the greatest number.
func lattices(t *testing.T) []*latt.Lattice {
	t.Helper()
	var chain, flat [][2]int
	for a := 1; a < 16; a++ {
		chain = append(chain, [2]int{a, a - 1})
	}
	for a := range 14 {
		flat = append(flat, [2]int{14, a}, [2]int{a, 15})
	}
	return []*latt.Lattice{
		lattice(t, 1),
		lattice(t, 2, [2]int{0, 1}),
		lattice(t, 2, [2]int{1, 0}),
		diamond(t),
		lattice(t, 4, [2]int{2, 0}, [2]int{2, 3}, [2]int{0, 1}, [2]int{3, 1}),
		lattice(t, 5, [2]int{4, 0}, [2]int{0, 1}, [2]int{4, 2}, [2]int{1, 3}, [2]int{2, 3}),
		lattice(t, 16, chain...),
		lattice(t, 16, flat...),
	}
}

// cores are what the terms of wholes are made of.
func cores() []api.Term {
	a := term.Atom("a")
	return []api.Term{
		{}, term.Let(0), term.Let(2), term.Num(1), term.Num(-1), a, list(), odd(),
		list(a, term.Num(2)), odd(a), {Kind: api.Var, N: 1, S: "v", Kids: []api.Term{sealed(1, a)}},
		{Kind: api.Int, N: 1, Kids: []api.Term{sealed(2, a), a}},
		sealed(0), sealed(1), sealed(3), sealed(9), {Kind: api.Seal, N: 2, Kids: []api.Term{}},
		sealed(0, a, a), sealed(1, sealed(2, a), a), sealed(-1, a, sealed(1, a)), sealed(2, a, list(sealed(0, a)), term.Num(7)),
		{Kind: api.Seal, N: 1, S: "s", Kids: []api.Term{a}}, {Kind: api.Seal, N: 2, S: "s"},
		list(sealed(1, a), term.Let(3), sealed(0, list(sealed(2, a)))),
		sealed(1, list(odd(sealed(2, list(a, sealed(1, a)))), a)),
	}
}

// wholes are the cores, and terms in which each stands within Seals, right ones and wrong ones, and within what is no Seal.
func wholes() []api.Term {
	all := cores()
	ns := []int64{math.MinInt64, -1, 0, 1, 2, 3, 4, 13, 15, 16, 1 << 32, 1<<32 + 1, math.MaxInt64}
	for k, core := range cores() {
		for j, n := range ns {
			next := ns[(j+5)%len(ns)]
			other := cores()[(k+j)%len(cores())]
			all = append(all,
				sealed(n, core), sealed(n, core, other), sealed(n, other, core, other),
				sealed(n, sealed(next, core)), sealed(n, sealed(1, sealed(next, core))),
				sealed(n, list(core, sealed(next, other))), sealed(n, list(list(other, sealed(next, core)))),
				list(sealed(n, core), other, sealed(next, core)), odd(other, sealed(n, odd(core))),
				sealed(next, sealed(n, core, other)), sealed(n, sealed(next)),
			)
		}
	}
	return all
}

// copied is a copy of a term that shares nothing with it; empty Kids become nil ones.
func copied(t api.Term) api.Term {
	kids := t.Kids
	t.Kids = nil
	for _, kid := range kids {
		t.Kids = append(t.Kids, copied(kid))
	}
	return t
}

// same reports whether two terms are equal, but for nil and empty Kids.
func same(a, b api.Term) bool {
	return reflect.DeepEqual(copied(a), copied(b))
}

// spoil overwrites each list of a term, and what there is room for behind it.
func spoil(t api.Term) {
	for k := range t.Kids {
		spoil(t.Kids[k])
	}
	room := t.Kids[:cap(t.Kids)]
	for k := range room {
		room[k] = api.Term{Kind: 99, S: "spoilt"}
	}
}

// spots are where the parts of a term are, each before its Kids.
func spots(t *api.Term) []*api.Term {
	all := []*api.Term{t}
	for k := range t.Kids {
		all = append(all, spots(&t.Kids[k])...)
	}
	return all
}

// wantLevel is the document's level of a Seal.
func wantLevel(l *latt.Lattice, n int64) int {
	for level := range l.Len() {
		if int64(level) == n {
			return level
		}
	}
	return l.Top()
}

// wantJoin is the level that all Seals' levels are below, and that is below all others like that.
func wantJoin(t *testing.T, l *latt.Lattice, x api.Term) int {
	t.Helper()
	above := func(bound int) bool {
		for _, spot := range spots(&x) {
			if spot.Kind == api.Seal && !l.Leq(wantLevel(l, spot.N), bound) {
				return false
			}
		}
		return true
	}
	for level := range l.Len() {
		least := above(level)
		for bound := range l.Len() {
			least = least && (!above(bound) || l.Leq(level, bound))
		}
		if least {
			return level
		}
	}
	t.Fatal("no join")
	return -1
}

// wantErase takes one Seal with one of Kids out after the other, until there is none.
func wantErase(x api.Term) api.Term {
	x = copied(x)
	for {
		all := spots(&x)
		k := slices.IndexFunc(all, func(s *api.Term) bool { return s.Kind == api.Seal && len(s.Kids) == 1 })
		if k < 0 {
			return x
		}
		*all[k] = all[k].Kids[0]
	}
}

// wantHide makes a hole of the first Seal that is hidden, until there is none.
func wantHide(l *latt.Lattice, x api.Term, level int) api.Term {
	x = copied(x)
	for {
		all := spots(&x)
		k := slices.IndexFunc(all, func(s *api.Term) bool {
			return s.Kind == api.Seal && !l.Leq(wantLevel(l, s.N), level)
		})
		if k < 0 {
			return x
		}
		*all[k] = api.Term{Kind: api.Fun, S: "hole"}
	}
}

// wantOpen is the document's Open: from the inside out, the levels of nested Seals are one join.
func wantOpen(l *latt.Lattice, x api.Term) (api.Term, int) {
	if x.Kind != api.Seal || len(x.Kids) != 1 {
		return x, l.Bottom()
	}
	inner, level := wantOpen(l, x.Kids[0])
	level = l.Join(level, wantLevel(l, x.N))
	inner = copied(inner)
	for k, kid := range inner.Kids {
		if end := x.Kids[0]; end.Kind == api.Seal && len(end.Kids) == 1 {
			kid = kid.Kids[0]
		}
		inner.Kids[k] = sealed(int64(level), kid)
	}
	return inner, level
}

// P4.1: Join of none, one and several Seals, wherever they stand and however many Kids they have.
func TestJoin(t *testing.T) {
	l := diamond(t)
	a := term.Atom("a")
	for name, c := range map[string]struct {
		t    api.Term
		want int
	}{
		"an atom":                     {a, 0},
		"a variable":                  {term.Let(3), 0},
		"a number that is a level":    {term.Num(3), 0},
		"a Fun with a number":         {api.Term{Kind: api.Fun, N: 3, S: "f"}, 0},
		"nothing":                     {api.Term{}, 0},
		"another Kind":                {odd(a), 0},
		"the chapter's example":       {list(sealed(2, a)), 2},
		"at Bottom":                   {sealed(0, a), 0},
		"at Top":                      {sealed(3, a), 3},
		"neither below the other":     {list(sealed(1, a), sealed(2, a)), 3},
		"one below the other":         {list(sealed(0, a), sealed(1, a)), 1},
		"twice the same":              {list(sealed(2, a), sealed(2, a)), 2},
		"one in another":              {sealed(1, sealed(2, a)), 3},
		"the lower one outside":       {sealed(0, sealed(2, a)), 2},
		"the higher one outside":      {sealed(2, sealed(0, a)), 2},
		"with terms between":          {sealed(0, list(a, list(term.Num(1), sealed(1, a)))), 1},
		"with other Seals between":    {sealed(0, list(sealed(0, list(sealed(0, list(sealed(2, a))))))), 2},
		"none of Kids":                {sealed(1), 1},
		"empty Kids":                  {api.Term{Kind: api.Seal, N: 1, Kids: []api.Term{}}, 1},
		"two of Kids":                 {sealed(1, a, a), 1},
		"two of Kids, one with more":  {sealed(1, a, sealed(2, a)), 3},
		"one less than 0":             {sealed(-1, a), 3},
		"the last level":              {list(a, sealed(3, a)), 3},
		"as many as there are levels": {sealed(4, a), 3},
		"the greatest number":         {sealed(math.MaxInt64, a), 3},
		"the least number":            {sealed(math.MinInt64, a), 3},
		"2^32":                        {sealed(1 << 32), 3},
		"within a variable":           {api.Term{Kind: api.Var, Kids: []api.Term{sealed(2, a)}}, 2},
		"within another Kind":         {odd(a, sealed(1, a)), 1},
		"in the first of many Kids":   {list(sealed(1, a), a, a, a), 1},
		"in the last of many Kids":    {list(a, a, a, sealed(1, a)), 1},
		"with a name":                 {api.Term{Kind: api.Seal, N: 2, S: "s", Kids: []api.Term{a}}, 2},
		"of a variable":               {sealed(1, term.Let(2)), 1},
		"of what is not valid":        {sealed(1, api.Term{Kind: -4, N: 2}), 1},
	} {
		if n := Join(l, c.t); n != c.want {
			t.Errorf("%s: %d, want %d", name, n, c.want)
		}
	}
}

// P4.1: Join is the least bound of the Seals' levels, in lattices of many forms.
func TestJoinWholes(t *testing.T) {
	for k, l := range lattices(t) {
		for _, x := range wholes() {
			if n, want := Join(l, x), wantJoin(t, l, x); n != want {
				t.Fatalf("lattice %d, %v: %d, want %d", k, x, n, want)
			}
		}
	}
}

// P4.1: Erase takes Seals of one term, at any depth and whatever their N, and no others.
func TestErase(t *testing.T) {
	a, b := term.Atom("a"), term.Atom("b")
	for name, c := range map[string][2]api.Term{
		"an atom":                    {a, a},
		"a variable":                 {term.Let(3), term.Let(3)},
		"a number":                   {term.Num(4), term.Num(4)},
		"nothing":                    {{}, {}},
		"nil Kids":                   {{Kind: api.Fun, S: "a"}, a},
		"empty Kids":                 {{Kind: api.Fun, S: "a", Kids: []api.Term{}}, a},
		"one Seal":                   {sealed(1, a), a},
		"one in another":             {sealed(1, sealed(2, a)), a},
		"many":                       {sealed(1, sealed(0, sealed(3, sealed(1, list(a))))), list(a)},
		"with terms between":         {sealed(1, list(b, list(a, sealed(2, b)))), list(b, list(a, b))},
		"of each Kid":                {list(sealed(1, a), sealed(1, b), sealed(2, a)), list(a, b, a)},
		"of a variable":              {sealed(1, term.Let(7)), term.Let(7)},
		"no such levels":             {list(sealed(-1, a), sealed(4, a), sealed(math.MaxInt64, b), sealed(math.MinInt64, b)), list(a, a, b, b)},
		"with a name":                {{Kind: api.Seal, N: 1, S: "s", Kids: []api.Term{a}}, a},
		"none of Kids":               {sealed(1), sealed(1)},
		"no Kids in a Seal":          {sealed(2, sealed(1)), sealed(1)},
		"two of Kids":                {sealed(1, a, b), sealed(1, a, b)},
		"two of Kids, erased":        {sealed(1, sealed(2, a), list(sealed(0, b))), sealed(1, a, list(b))},
		"two of Kids in a Seal":      {sealed(3, sealed(1, sealed(2, a), b)), sealed(1, a, b)},
		"two of Kids with a name":    {{Kind: api.Seal, N: -3, S: "s", Kids: []api.Term{sealed(2, a), b}}, {Kind: api.Seal, N: -3, S: "s", Kids: []api.Term{a, b}}},
		"another Kind":               {odd(sealed(1, a), odd(sealed(1, b))), odd(a, odd(b))},
		"a variable with Kids":       {{Kind: api.Var, N: 3, Kids: []api.Term{sealed(1, a)}}, {Kind: api.Var, N: 3, Kids: []api.Term{a}}},
		"a Seal of what isn't valid": {sealed(1, odd(sealed(1, a))), odd(a)},
	} {
		if y := Erase(c[0]); !same(y, c[1]) {
			t.Errorf("%s: %v, want %v", name, y, c[1])
		}
	}
	for _, x := range wholes() {
		y := Erase(x)
		if !same(y, wantErase(x)) {
			t.Fatalf("%v: %v, want %v", x, y, wantErase(x))
		}
		if !same(Erase(y), y) {
			t.Fatalf("%v erased again", x)
		}
	}
}

// P4.2: Put, field by field, at levels and at what is none.
func TestPut(t *testing.T) {
	for _, x := range wholes() {
		for _, level := range []int{math.MinInt, -1, 0, 1, 3, 15, 16, 1 << 32, math.MaxInt} {
			y := Put(x, level)
			if y.Kind != 4 || y.N != int64(level) || y.S != "" || len(y.Kids) != 1 || !same(y.Kids[0], x) {
				t.Fatal(x, level, y)
			}
		}
	}
	if y := Put(term.Atom("a"), 1); !same(y, api.Term{Kind: 4, N: 1, Kids: []api.Term{{Kind: 3, S: "a"}}}) {
		t.Error(y)
	}
}

// P4.2: what was Put where there is no such level is at Top.
func TestPutBeyond(t *testing.T) {
	for k, l := range lattices(t) {
		for _, level := range []int{math.MinInt, -1, l.Len(), l.Len() + 1, math.MaxInt} {
			x := Put(term.Atom("a"), level)
			if y, n := Open(l, x); Join(l, x) != l.Top() || n != l.Top() || !same(y, term.Atom("a")) {
				t.Error(k, level, Join(l, x), y, n)
			}
		}
	}
}

// P4.2: Open of none, one and several Seals.
func TestOpen(t *testing.T) {
	l := diamond(t)
	a, b := term.Atom("a"), term.Atom("b")
	for name, c := range map[string]struct {
		t, want api.Term
		level   int
	}{
		"an atom":                     {a, a, 0},
		"a variable":                  {term.Let(3), term.Let(3), 0},
		"a number":                    {term.Num(3), term.Num(3), 0},
		"nothing":                     {api.Term{}, api.Term{}, 0},
		"another Kind":                {odd(sealed(1, a)), odd(sealed(1, a)), 0},
		"no Seal, but one within":     {list(sealed(1, a), b), list(sealed(1, a), b), 0},
		"none of Kids":                {sealed(2), sealed(2), 0},
		"empty Kids":                  {api.Term{Kind: api.Seal, N: 2, Kids: []api.Term{}}, sealed(2), 0},
		"two of Kids":                 {sealed(2, sealed(1, a), b), sealed(2, sealed(1, a), b), 0},
		"the chapter's example":       {sealed(1, list(a)), list(sealed(1, a)), 1},
		"each of the Kids":            {sealed(2, list(a, b, list(a))), list(sealed(2, a), sealed(2, b), sealed(2, list(a))), 2},
		"at Bottom":                   {sealed(0, list(a)), list(sealed(0, a)), 0},
		"at Top":                      {sealed(3, list(a)), list(sealed(3, a)), 3},
		"an atom within":              {sealed(1, a), a, 1},
		"empty Kids within":           {sealed(1, api.Term{Kind: api.Fun, S: "a", Kids: []api.Term{}}), a, 1},
		"a number within":             {sealed(2, term.Num(1)), term.Num(1), 2},
		"a variable within":           {sealed(2, term.Let(1)), term.Let(1), 2},
		"nothing within":              {sealed(2, api.Term{}), api.Term{}, 2},
		"another Kind within":         {sealed(2, odd(a, b)), odd(sealed(2, a), sealed(2, b)), 2},
		"two":                         {sealed(1, sealed(2, list(a, b))), list(sealed(3, a), sealed(3, b)), 3},
		"two, the lower one first":    {sealed(0, sealed(1, list(a))), list(sealed(1, a)), 1},
		"two, the higher one first":   {sealed(1, sealed(0, list(a))), list(sealed(1, a)), 1},
		"three, an atom within":       {sealed(1, sealed(0, sealed(2, a))), a, 3},
		"many, all the same":          {sealed(2, sealed(2, sealed(2, sealed(2, list(a))))), list(sealed(2, a)), 2},
		"Seals of the Kids stay":      {sealed(1, list(sealed(2, a), sealed(0, b))), list(sealed(1, sealed(2, a)), sealed(1, sealed(0, b))), 1},
		"Seals further within":        {sealed(1, list(list(sealed(2, a)))), list(sealed(1, list(sealed(2, a)))), 1},
		"one less than 0":             {sealed(-1, list(a)), list(sealed(3, a)), 3},
		"as many as there are levels": {sealed(4, list(a)), list(sealed(3, a)), 3},
		"the greatest number":         {sealed(math.MaxInt64, list(a)), list(sealed(3, a)), 3},
		"the least number":            {sealed(math.MinInt64, list(a)), list(sealed(3, a)), 3},
		"no level and a level":        {sealed(1, sealed(9, list(a))), list(sealed(3, a)), 3},
		"with a name":                 {api.Term{Kind: api.Seal, N: 1, S: "s", Kids: []api.Term{list(a)}}, list(sealed(1, a)), 1},
		"ends at none of Kids":        {sealed(1, sealed(2)), sealed(2), 1},
		"ends at two of Kids":         {sealed(1, sealed(2, a, sealed(2, b))), sealed(2, sealed(1, a), sealed(1, sealed(2, b))), 1},
		"ends at two, no level":       {sealed(1, sealed(1, sealed(-8, a, b))), sealed(-8, sealed(1, a), sealed(1, b)), 1},
	} {
		y, n := Open(l, c.t)
		if !same(y, c.want) || n != c.level {
			t.Errorf("%s: %v and %d, want %v and %d", name, y, n, c.want, c.level)
		}
	}
}

// P4.2: Open as the document says it, in lattices of many forms.
func TestOpenWholes(t *testing.T) {
	for k, l := range lattices(t) {
		for _, x := range wholes() {
			want, level := wantOpen(l, x)
			if y, n := Open(l, x); !same(y, want) || n != level {
				t.Fatalf("lattice %d, %v: %v and %d, want %v and %d", k, x, y, n, want, level)
			}
		}
	}
}

// P4.3: Hide at each level, and at what is none.
func TestHide(t *testing.T) {
	l := diamond(t)
	a, b, hole := term.Atom("a"), term.Atom("b"), api.Term{Kind: 3, S: "hole"}
	for name, c := range map[string]struct {
		t     api.Term
		level int
		want  api.Term
	}{
		"no Seal, at Bottom":              {list(a, term.Let(1), term.Num(3)), 0, list(a, term.Let(1), term.Num(3))},
		"no Seal, at no level":            {list(a, odd(b), term.Num(3)), -1, list(a, odd(b), term.Num(3))},
		"nothing":                         {api.Term{}, 0, api.Term{}},
		"empty Kids":                      {api.Term{Kind: api.Fun, S: "a", Kids: []api.Term{}}, 1, a},
		"at Bottom, Seals at Bottom stay": {sealed(0, a), 0, sealed(0, a)},
		"at Bottom, others go":            {list(sealed(0, a), sealed(1, a), sealed(2, a), sealed(3, a)), 0, list(sealed(0, a), hole, hole, hole)},
		"at 1":                            {list(sealed(0, a), sealed(1, a), sealed(2, a), sealed(3, a)), 1, list(sealed(0, a), sealed(1, a), hole, hole)},
		"at 2":                            {list(sealed(0, a), sealed(1, a), sealed(2, a), sealed(3, a)), 2, list(sealed(0, a), hole, sealed(2, a), hole)},
		"at Top":                          {list(sealed(0, a), sealed(1, a), sealed(2, a), sealed(3, a)), 3, list(sealed(0, a), sealed(1, a), sealed(2, a), sealed(3, a))},
		"at -1":                           {list(sealed(0, a), sealed(1, a), sealed(-1, a), sealed(3, a)), -1, list(hole, hole, hole, hole)},
		"at 4":                            {list(sealed(0, a), sealed(1, a), sealed(4, a), sealed(3, a)), 4, list(hole, hole, hole, hole)},
		"at the greatest number":          {list(sealed(0, a), sealed(math.MaxInt64, a)), math.MaxInt, list(hole, hole)},
		"at the least number":             {list(sealed(0, a), sealed(math.MinInt64, a)), math.MinInt, list(hole, hole)},
		"no levels, at Top":               {list(sealed(-1, a), sealed(4, a), sealed(math.MaxInt64, a), sealed(math.MinInt64, a)), 3, list(sealed(-1, a), sealed(4, a), sealed(math.MaxInt64, a), sealed(math.MinInt64, a))},
		"no levels, below Top":            {list(sealed(-1, a), sealed(4, a), sealed(math.MaxInt64, a), sealed(math.MinInt64, a)), 2, list(hole, hole, hole, hole)},
		"the whole term":                  {sealed(2, list(a, sealed(0, b))), 1, hole},
		"within a Seal that stays":        {sealed(1, list(a, sealed(2, b))), 1, sealed(1, list(a, hole))},
		"right within one that stays":     {sealed(1, sealed(2, b)), 1, sealed(1, hole)},
		"deep within some that stay":      {sealed(1, list(sealed(0, list(b, sealed(1, sealed(3, a)))))), 1, sealed(1, list(sealed(0, list(b, sealed(1, hole)))))},
		"what stays within a hidden one":  {list(sealed(2, list(sealed(1, a)))), 1, list(hole)},
		"none of Kids, hidden":            {list(sealed(2), b), 1, list(hole, b)},
		"none of Kids, stays":             {list(sealed(1), b), 1, list(sealed(1), b)},
		"two of Kids, hidden":             {sealed(2, a, b), 1, hole},
		"two of Kids, stays":              {sealed(1, a, sealed(2, b)), 1, sealed(1, a, hole)},
		"with a name, hidden":             {api.Term{Kind: api.Seal, N: 2, S: "s", Kids: []api.Term{a}}, 1, hole},
		"with a name, stays":              {api.Term{Kind: api.Seal, N: 1, S: "s", Kids: []api.Term{sealed(2, a)}}, 1, api.Term{Kind: api.Seal, N: 1, S: "s", Kids: []api.Term{hole}}},
		"within another Kind":             {odd(a, sealed(2, b)), 1, odd(a, hole)},
		"within a variable":               {api.Term{Kind: api.Var, N: 2, Kids: []api.Term{sealed(2, b)}}, 1, api.Term{Kind: api.Var, N: 2, Kids: []api.Term{hole}}},
		"of a variable":                   {list(sealed(2, term.Let(0)), term.Let(0)), 1, list(hole, term.Let(0))},
		"a hole that was there":           {list(hole, sealed(1, hole), sealed(2, hole)), 1, list(hole, sealed(1, hole), hole)},
	} {
		if y := Hide(l, c.t, c.level); !same(y, c.want) {
			t.Errorf("%s: %v, want %v", name, y, c.want)
		}
	}
}

// P4.3 and P4.4: Hide as the document says it, in lattices of many forms; what was hidden stays as it is.
func TestHideWholes(t *testing.T) {
	for k, l := range lattices(t) {
		for level := -2; level < l.Len()+2; level++ {
			for _, x := range wholes() {
				y, want := Hide(l, x, level), wantHide(l, x, level)
				if !same(y, want) {
					t.Fatalf("lattice %d, %v at %d: %v, want %v", k, x, level, y, want)
				}
				if !same(Hide(l, y, level), y) {
					t.Fatalf("lattice %d, %v hidden twice at %d", k, x, level)
				}
				if level == l.Top() && !same(x, y) {
					t.Fatalf("lattice %d, %v changed at Top", k, x)
				}
			}
		}
	}
}

// P4.4: opening loses nothing: erased it is the same, and its levels, with the one that Open returns beside it, are not lower. Where there are Kids for them, they are all within it.
func TestOpenLosesNothing(t *testing.T) {
	for k, l := range lattices(t) {
		for _, x := range wholes() {
			y, n := Open(l, x)
			if !same(Erase(y), Erase(x)) {
				t.Fatalf("lattice %d, %v: erased %v, want %v", k, x, Erase(y), Erase(x))
			}
			if !l.Leq(Join(l, x), l.Join(Join(l, y), n)) {
				t.Fatalf("lattice %d, %v: %d and %d, want %d", k, x, Join(l, y), n, Join(l, x))
			}
			if len(y.Kids) > 0 && !l.Leq(Join(l, x), Join(l, y)) {
				t.Fatalf("lattice %d, %v: %d, want %d", k, x, Join(l, y), Join(l, x))
			}
		}
	}
}

// P4.1 to P4.3: where there is one level, all is at it.
func TestOneLevel(t *testing.T) {
	l := lattice(t, 1)
	a := term.Atom("a")
	x := sealed(0, list(a, sealed(1, a), sealed(-1, sealed(0, a))))
	if Join(l, x) != 0 || Join(l, a) != 0 {
		t.Error("Join:", Join(l, x), Join(l, a))
	}
	if y, n := Open(l, sealed(5, list(a))); n != 0 || !same(y, list(sealed(0, a))) {
		t.Error("Open:", y, n)
	}
	if y := Hide(l, x, 0); !same(y, x) {
		t.Error("Hide at 0:", y)
	}
	for _, level := range []int{-1, 1} {
		if y := Hide(l, list(a, x), level); !same(y, list(a, term.Atom("hole"))) {
			t.Error("Hide at", level, y)
		}
	}
}

// makers are the functions that return terms, each in the ways that it goes.
func makers(l *latt.Lattice) map[string]func(api.Term) api.Term {
	open := func(t api.Term) api.Term {
		y, _ := Open(l, t)
		return y
	}
	return map[string]func(api.Term) api.Term{
		"Erase":            Erase,
		"Erase of a Seal":  func(t api.Term) api.Term { return Erase(sealed(1, t)) },
		"Put":              func(t api.Term) api.Term { return Put(t, 1) },
		"Open":             open,
		"Open of a Seal":   func(t api.Term) api.Term { return open(sealed(1, t)) },
		"Open of Seals":    func(t api.Term) api.Term { return open(sealed(1, sealed(2, t))) },
		"Hide at Top":      func(t api.Term) api.Term { return Hide(l, t, 3) },
		"Hide at 1":        func(t api.Term) api.Term { return Hide(l, t, 1) },
		"Hide at no level": func(t api.Term) api.Term { return Hide(l, t, -1) },
	}
}

// R3: arguments stay as they are, and share no memory with results; nor do the lists of one result.
func TestMemory(t *testing.T) {
	l := diamond(t)
	plain := func() api.Term {
		return list(list(term.Let(1), list(term.Num(2))), sealed(1, list(term.Atom("a"), sealed(2, list(term.Num(3))))))
	}
	samples := []func() api.Term{
		plain,
		func() api.Term { return sealed(1, plain()) },
		func() api.Term { return sealed(0, sealed(1, plain())) },
		func() api.Term { return sealed(1, plain(), sealed(2, plain())) },
		func() api.Term { x := plain(); return list(x, x, sealed(1, x)) },
		func() api.Term { x := plain(); return sealed(1, x, x) },
	}
	for name, build := range makers(l) {
		for k, sample := range samples {
			x := sample()
			y := build(x)
			kept := copied(y)
			if !same(x, sample()) {
				t.Error(name, k, "changes its argument")
			}
			spoil(x)
			if !same(y, kept) {
				t.Error(name, k, "keeps its argument's memory")
			}
			x = sample()
			spoil(build(x))
			if !same(x, sample()) {
				t.Error(name, k, "gives its argument's memory away")
			}
			unshared(t, name, build(x))
		}
	}
	x := plain()
	if Join(l, x); !same(x, plain()) {
		t.Error("Join changes its argument")
	}
}

// unshared fails if two lists of a term share memory: then what is written to one shows in the other.
func unshared(t *testing.T, name string, x api.Term) {
	t.Helper()
	for k := range x.Kids {
		kept := copied(x)
		spoil(x.Kids[k])
		for j := range x.Kids {
			if j != k && !same(x.Kids[j], kept.Kids[j]) {
				t.Error(name, "shares memory between Kids", k, "and", j)
			}
		}
	}
}

// R4: nothing is kept: the same call returns the same, whatever came between.
func TestNothingKept(t *testing.T) {
	all := lattices(t)
	x := sealed(1, list(sealed(2, term.Atom("a")), sealed(0, term.Num(1))))
	for _, l := range all {
		y, n := Open(l, x)
		j, h := Join(l, x), Hide(l, x, 0)
		for _, other := range all {
			Open(other, y)
			Join(other, y)
			Hide(other, y, 1)
		}
		again, m := Open(l, x)
		if !same(y, again) || n != m || j != Join(l, x) || !same(h, Hide(l, x, 0)) {
			t.Error(l.Len(), y, again)
		}
	}
}

// P1: as deep as the document's limits allow, in Seals and in Funs, and wide.
func TestDeepest(t *testing.T) {
	l := diamond(t)
	a := term.Atom("a")
	seals, funs := list(a), sealed(2, a)
	for k := range 1<<16 - 3 {
		seals = sealed(int64(k%2), seals)
		funs = list(funs)
	}
	if y, n := Open(l, seals); n != 1 || !same(y, list(sealed(1, a))) {
		t.Error("Open:", n, term.Size(y))
	}
	if Join(l, seals) != 1 || Join(l, funs) != 2 {
		t.Error("Join:", Join(l, seals), Join(l, funs))
	}
	if y := Erase(seals); !same(y, list(a)) {
		t.Error("Erase of Seals:", term.Size(y))
	}
	if y := Erase(funs); term.Size(y) != 1<<16-2 || term.Deep(y) != 1<<16-2 {
		t.Error("Erase of Funs:", term.Size(y))
	}
	if y := Hide(l, seals, 1); !term.Same(y, seals) {
		t.Error("Hide of Seals at 1:", term.Size(y))
	}
	if y := Hide(l, seals, 0); !same(y, sealed(0, term.Atom("hole"))) {
		t.Error("Hide of Seals at 0:", term.Size(y))
	}
	if y := Hide(l, funs, 1); term.Size(y) != 1<<16-2 || Join(l, y) != 0 {
		t.Error("Hide of Funs:", term.Size(y))
	}
	if y := Put(funs, 1); !term.Same(y.Kids[0], funs) {
		t.Error("Put:", term.Size(y))
	}
	wide := sealed(1, list(slices.Repeat([]api.Term{sealed(2, a)}, 5000)...))
	if y, n := Open(l, wide); n != 1 || len(y.Kids) != 5000 || !same(y.Kids[4999], sealed(1, sealed(2, a))) {
		t.Error("wide:", n, len(y.Kids))
	}
	if y := Hide(l, wide, 1); term.Size(y) != 5002 || Join(l, wide) != 3 || term.Size(Erase(wide)) != 5001 {
		t.Error("wide:", term.Size(y))
	}
}
