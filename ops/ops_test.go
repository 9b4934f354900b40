package ops

import (
	"slices"
	"strings"
	"testing"

	"torchere/api"
)

// row is a row of the document's list: names that have the same priority and the same type.
type row struct {
	pri   int
	kind  string
	names []string
}

// list is the document's list of the operators, in its order.
func list() []row {
	return []row{
		{1200, "xfx", []string{":-"}},
		{1200, "fx", []string{":-"}},
		{1150, "xfx", []string{"::"}},
		{1100, "xfy", []string{";"}},
		{1050, "xfy", []string{"->"}},
		{1000, "xfy", []string{","}},
		{900, "fy", []string{"\\+"}},
		{700, "xfx", []string{"=", "\\=", "==", "\\==", "@<", "is", "=:=", "=\\=", "<", ">", "=<", ">="}},
		{500, "yfx", []string{"+", "-"}},
		{400, "yfx", []string{"*", "//", "mod"}},
		{200, "fy", []string{"-"}},
		{190, "xfx", []string{"@"}},
	}
}

// wantAll is the document's list, an operator each.
func wantAll() []api.Op {
	var all []api.Op
	for _, r := range list() {
		for _, name := range r.names {
			all = append(all, api.Op{Pri: r.pri, Type: r.kind, Name: name})
		}
	}
	return all
}

// between is what Infix returns.
type between struct {
	left, own, right int
	ok               bool
}

// before is what Prefix returns.
type before struct {
	own, right int
	ok         bool
}

// wantInfix is what Infix returns of each name for which there is one.
func wantInfix() map[string]between {
	want := map[string]between{
		":-": {1199, 1200, 1199, true},
		"::": {1149, 1150, 1149, true},
		";":  {1099, 1100, 1100, true},
		"->": {1049, 1050, 1050, true},
		",":  {999, 1000, 1000, true},
		"@":  {189, 190, 189, true},
	}
	for _, name := range []string{"=", "\\=", "==", "\\==", "@<", "is", "=:=", "=\\=", "<", ">", "=<", ">="} {
		want[name] = between{699, 700, 699, true}
	}
	for _, name := range []string{"+", "-"} {
		want[name] = between{500, 500, 499, true}
	}
	for _, name := range []string{"*", "//", "mod"} {
		want[name] = between{400, 400, 399, true}
	}
	return want
}

// wantPrefix is what Prefix returns of each name for which there is one.
func wantPrefix() map[string]before {
	return map[string]before{
		":-":  {1200, 1199, true},
		"\\+": {900, 900, true},
		"-":   {200, 200, true},
	}
}

// infix is Infix's results as one.
func infix(name string) between {
	left, own, right, ok := Infix(name)
	return between{left, own, right, ok}
}

// prefix is Prefix's results as one.
func prefix(name string) before {
	own, right, ok := Prefix(name)
	return before{own, right, ok}
}

// held holds Infix and Prefix of a name to what the document says; a name that isn't in the maps has zeros and false there.
func held(t *testing.T, name string, forInfix map[string]between, forPrefix map[string]before) {
	t.Helper()
	if got := infix(name); got != forInfix[name] {
		t.Errorf("Infix(%.80q): %v, want %v", name, got, forInfix[name])
	}
	if got := prefix(name); got != forPrefix[name] {
		t.Errorf("Prefix(%.80q): %v, want %v", name, got, forPrefix[name])
	}
}

// P6.1: each operator with its priority, its type and its place.
func TestAll(t *testing.T) {
	got, want := All(), wantAll()
	if len(got) != 26 || len(want) != 26 {
		t.Fatalf("%d operators, want %d", len(got), len(want))
	}
	for k := range want {
		if got[k] != want[k] {
			t.Errorf("%d: %v, want %v", k, got[k], want[k])
		}
	}
}

// P6.1, R3: what All returns is the caller's, and changing it changes nothing else.
func TestAllIsTheCallers(t *testing.T) {
	first, second := All(), All()
	for k := range first {
		first[k] = api.Op{Pri: 1, Type: "yfy", Name: "changed"}
	}
	slices.Reverse(first)
	_ = append(first[:0], api.Op{Pri: 2, Type: "fx", Name: "first"})
	_ = append(first, api.Op{Pri: 3, Type: "xfx", Name: "last"})
	if !slices.Equal(second, wantAll()) {
		t.Errorf("the list that was returned before: %v", second)
	}
	if third := All(); !slices.Equal(third, wantAll()) {
		t.Errorf("the list that was returned after: %v", third)
	}
	for _, op := range wantAll() {
		held(t, op.Name, wantInfix(), wantPrefix())
	}
	for _, name := range []string{"changed", "first", "last"} {
		held(t, name, wantInfix(), wantPrefix())
	}
}

// P6.2: every operator, of either sort.
func TestOperators(t *testing.T) {
	forInfix, forPrefix := wantInfix(), wantPrefix()
	if len(forInfix) != 23 || len(forPrefix) != 3 {
		t.Fatalf("%d infix, %d prefix", len(forInfix), len(forPrefix))
	}
	for name := range forInfix {
		held(t, name, forInfix, forPrefix)
	}
	for name := range forPrefix {
		held(t, name, forInfix, forPrefix)
	}
}

// P6.2, the document's examples, and the other name that is an operator of both sorts.
func TestBothSorts(t *testing.T) {
	if got := infix("-"); got != (between{500, 500, 499, true}) {
		t.Errorf("Infix of -: %v", got)
	}
	if got := prefix("-"); got != (before{200, 200, true}) {
		t.Errorf("Prefix of -: %v", got)
	}
	if got := infix(":-"); got != (between{1199, 1200, 1199, true}) {
		t.Errorf("Infix of :- : %v", got)
	}
	if got := prefix(":-"); got != (before{1200, 1199, true}) {
		t.Errorf("Prefix of :- : %v", got)
	}
}

// P6.2: names that are operators of the other sort only have zeros and false.
func TestOtherSort(t *testing.T) {
	if got := infix("\\+"); got != (between{}) {
		t.Errorf("Infix of \\+: %v", got)
	}
	for name := range wantInfix() {
		if name == "-" || name == ":-" {
			continue
		}
		if got := prefix(name); got != (before{}) {
			t.Errorf("Prefix of %s: %v", name, got)
		}
	}
}

// operand is the greatest priority of an operand that a type calls y or x.
func operand(t *testing.T, letter byte, pri int) int {
	t.Helper()
	switch letter {
	case 'y':
		return pri
	case 'x':
		return pri - 1
	}
	t.Errorf("an operand %q", letter)
	return 0
}

// P6.2: the operators of All are those that are found, each with the operands that its type asks for.
func TestTypes(t *testing.T) {
	for _, op := range All() {
		switch op.Type {
		case "xfx", "xfy", "yfx":
			want := between{operand(t, op.Type[0], op.Pri), op.Pri, operand(t, op.Type[2], op.Pri), true}
			if got := infix(op.Name); got != want {
				t.Errorf("%v: Infix %v, want %v", op, got, want)
			}
		case "fx", "fy":
			want := before{op.Pri, operand(t, op.Type[1], op.Pri), true}
			if got := prefix(op.Name); got != want {
				t.Errorf("%v: Prefix %v, want %v", op, got, want)
			}
		default:
			t.Errorf("%v: no such type", op)
		}
	}
}

// P6.2: a name that begins like an operator or goes on behind one is an operator only if it is another one.
func TestNearNames(t *testing.T) {
	forInfix, forPrefix := wantInfix(), wantPrefix()
	for _, op := range wantAll() {
		for k := range len(op.Name) {
			held(t, op.Name[:k], forInfix, forPrefix)
			held(t, op.Name[k:], forInfix, forPrefix)
		}
		for c := range 256 {
			one := string([]byte{byte(c)})
			held(t, op.Name+one, forInfix, forPrefix)
			held(t, one+op.Name, forInfix, forPrefix)
			for k := range len(op.Name) {
				held(t, op.Name[:k]+one+op.Name[k+1:], forInfix, forPrefix)
			}
		}
		for _, other := range wantAll() {
			held(t, op.Name+other.Name, forInfix, forPrefix)
			held(t, op.Name+" "+other.Name, forInfix, forPrefix)
		}
	}
}

// P6.2: all names of at most two bytes.
func TestShortNames(t *testing.T) {
	forInfix, forPrefix := wantInfix(), wantPrefix()
	held(t, "", forInfix, forPrefix)
	for a := range 256 {
		held(t, string([]byte{byte(a)}), forInfix, forPrefix)
		for b := range 256 {
			held(t, string([]byte{byte(a), byte(b)}), forInfix, forPrefix)
		}
	}
}

// P6.2: all names of three and of four bytes that occur in an operator, which are those that could be taken for one.
func TestNamesOfTheirBytes(t *testing.T) {
	forInfix, forPrefix := wantInfix(), wantPrefix()
	letters := ":->;,\\+=@<ismod*/"
	for _, a := range letters {
		for _, b := range letters {
			for _, c := range letters {
				three := string([]rune{a, b, c})
				held(t, three, forInfix, forPrefix)
				for _, d := range letters {
					held(t, three+string(d), forInfix, forPrefix)
				}
			}
		}
	}
}

// P6.2, P1, R5: names that no text could hold, names of other languages, long names, and operators of other Prologs.
func TestOtherNames(t *testing.T) {
	none := []string{
		"a", "foo", "X", "_", "0", "[]", "{}", "()", "|", "!", ".", "...",
		"IS", "Is", "iS", "MOD", "Mod", "i s", "'is'", "'-'", "mod ", " mod", "\tis", "is\n", "is\x00", "\x00is", "\x00",
		"-->", "?-", "@>", "@=<", "@>=", "=..", "/", "**", "^", "\\", "rem", "not", "dynamic", "<=", "=>", "===", "!=", "\\/", "/\\", "<<", ">>", "&&", "||", ":",
		"\u2212", "\uff0b", "\u2264", "\u00b7", "i\u0301s", "\xff", "\xc3\x28", "\xe2\x88",
		"xfx", "fy", "1200", "700 is",
		strings.Repeat("-", 64), strings.Repeat("-", 65), strings.Repeat(":-", 4096), strings.Repeat("mod", 1<<16), "is" + strings.Repeat(" ", 1<<16),
	}
	for _, name := range none {
		if got := infix(name); got != (between{}) {
			t.Errorf("Infix(%.80q): %v", name, got)
		}
		if got := prefix(name); got != (before{}) {
			t.Errorf("Prefix(%.80q): %v", name, got)
		}
	}
}

// P6.3: no two infix operators and no two prefix operators have the same name.
func TestNamesOnce(t *testing.T) {
	var forInfix, forPrefix []string
	for _, op := range All() {
		if strings.HasPrefix(op.Type, "f") {
			forPrefix = append(forPrefix, op.Name)
		} else {
			forInfix = append(forInfix, op.Name)
		}
	}
	if len(forInfix) != 23 || len(forPrefix) != 3 {
		t.Errorf("%d infix, %d prefix", len(forInfix), len(forPrefix))
	}
	for _, names := range [][]string{forInfix, forPrefix} {
		slices.Sort(names)
		if once := slices.Compact(slices.Clone(names)); len(once) != len(names) {
			t.Errorf("a name twice: %q", names)
		}
	}
}

// R4: what was asked before changes nothing.
func TestNothingKept(t *testing.T) {
	forInfix, forPrefix := wantInfix(), wantPrefix()
	for _, op := range wantAll() {
		for _, other := range wantAll() {
			held(t, op.Name, forInfix, forPrefix)
			held(t, "no "+op.Name, forInfix, forPrefix)
			held(t, other.Name, forInfix, forPrefix)
		}
	}
	if got := All(); !slices.Equal(got, wantAll()) {
		t.Errorf("%v", got)
	}
}
