package token

import (
	"errors"
	"math"
	"math/big"
	"regexp"
	"slices"
	"strings"
	"testing"

	"torchere/api"
)

// name is the token of a name without quotation marks.
func name(s string) api.Token {
	return api.Token{Kind: api.TokName, S: s}
}

// inMarks is the token of a name in quotation marks.
func inMarks(s string) api.Token {
	return api.Token{Kind: api.TokName, S: s, Quoted: true}
}

// variable is the token of a variable.
func variable(s string) api.Token {
	return api.Token{Kind: api.TokVar, S: s}
}

// num is the token of a number.
func num(n int64) api.Token {
	return api.Token{Kind: api.TokInt, N: n}
}

// punct is the token of a parenthesis, a bracket, a comma or a bar.
func punct(s string) api.Token {
	return api.Token{Kind: api.TokPunct, S: s}
}

// end is the token of an end.
func end() api.Token {
	return api.Token{Kind: api.TokEnd, S: "."}
}

// tight is that token with nothing skipped before it.
func tight(t api.Token) api.Token {
	t.Tight = true
	return t
}

// loose are these tokens as if something had been skipped before each.
func loose(all []api.Token) []api.Token {
	all = slices.Clone(all)
	for k := range all {
		all[k].Tight = false
	}
	return all
}

// codes are all that there are, OK apart.
var codes = []api.Errno{api.ErrArg, api.ErrRange, api.ErrFull, api.ErrForm, api.ErrNone, api.ErrThere, api.ErrDeep, api.ErrInst, api.ErrType, api.ErrEval}

// scanned holds Scan to these tokens, the position 0 and no error.
func scanned(t *testing.T, s string, want ...api.Token) {
	t.Helper()
	all, at, e := Scan(s)
	if e != nil || at != 0 || !slices.Equal(all, want) {
		t.Errorf("%.80q: %v at %d, %v; want %v", s, all, at, e, want)
	}
}

// refused holds Scan to an error of that code and of no other, to that position, and to no tokens.
func refused(t *testing.T, s string, place int, want api.Errno) {
	t.Helper()
	all, at, e := Scan(s)
	if len(all) != 0 || at != place || e == nil {
		t.Errorf("%.80q: %v at %d, %v; want %v at %d", s, all, at, e, want, place)
		return
	}
	for _, c := range append(codes, api.OK) {
		if errors.Is(e, c) != (c == want) {
			t.Errorf("%.80q: %v: errors.Is of %v, want %v", s, e, c, want)
		}
	}
	var found api.Errno
	if !errors.As(e, &found) || found != want {
		t.Errorf("%.80q: %v: errors.As %v, want %v", s, e, found, want)
	}
	if e == error(want) || errors.Unwrap(e) == nil || e.Error() == "" {
		t.Errorf("%.80q: %v isn't wrapped, or has no text", s, e)
	}
}

// A second way to divide a text, to hold Scan against: what is skipped, and the tokens, as forms that a text begins with.
var (
	forSkip   = regexp.MustCompile(`^(?:[\t\n\r ]|%[^\n]*)*`)
	forName   = regexp.MustCompile(`^[a-z][a-zA-Z_0-9]*`)
	forVar    = regexp.MustCompile(`^[A-Z_][a-zA-Z_0-9]*`)
	forInt    = regexp.MustCompile(`^[0-9]+(?:\.[0-9])?`)
	forQuoted = regexp.MustCompile(`^'(?:[^'\\\x00-\x1f]|''|\\\\|\\n|\\')*'`)
	forPunct  = regexp.MustCompile(`^[()\[\],|]`)
	forSingle = regexp.MustCompile(`^[!;]`)
	forEnd    = regexp.MustCompile(`^\.(?:[\t\n\r %]|\z)`)
	forSymbol = regexp.MustCompile(`^[-+*/\\^<>=~:.?@#&$]+`)
	unquoted  = strings.NewReplacer(`''`, `'`, `\\`, `\`, `\n`, "\n", `\'`, `'`)
)

// wantToken is the token that a text begins with, and the rest of the text.
func wantToken(s string) (api.Token, string, api.Errno) {
	for _, c := range []struct {
		kind int
		form *regexp.Regexp
	}{{api.TokName, forName}, {api.TokVar, forVar}, {api.TokPunct, forPunct}, {api.TokName, forSingle}} {
		if found := c.form.FindString(s); found != "" {
			return api.Token{Kind: c.kind, S: found}, s[len(found):], api.OK
		}
	}
	if found := forInt.FindString(s); found != "" {
		n, whole := new(big.Int).SetString(found, 10)
		if !whole {
			return api.Token{}, "", api.ErrForm
		}
		if n.Cmp(new(big.Int).Lsh(big.NewInt(1), 63)) > 0 {
			return api.Token{}, "", api.ErrRange
		}
		if !n.IsInt64() {
			n.Neg(n)
		}
		return num(n.Int64()), s[len(found):], api.OK
	}
	// A match that another mark follows has taken the first of two marks for the closing one: then there is none.
	if found := forQuoted.FindString(s); found != "" && !strings.HasPrefix(s[len(found):], "'") {
		return inMarks(unquoted.Replace(found[1 : len(found)-1])), s[len(found):], api.OK
	}
	if forEnd.MatchString(s) {
		return end(), s[1:], api.OK
	}
	if found := forSymbol.FindString(s); found != "" {
		return name(found), s[len(found):], api.OK
	}
	return api.Token{}, "", api.ErrForm
}

// wantScan is the document's Scan, with the code of the error.
func wantScan(s string) ([]api.Token, int, api.Errno) {
	if len(s) > 4096 {
		return nil, 0, api.ErrFull
	}
	var all []api.Token
	rest := s
	for {
		skipped := forSkip.FindString(rest)
		rest = rest[len(skipped):]
		if rest == "" {
			return all, 0, api.OK
		}
		t, behind, code := wantToken(rest)
		if code == api.OK && len(t.S) > 64 {
			code = api.ErrFull
		}
		if code != api.OK {
			return nil, len(s) - len(rest), code
		}
		t.Tight = len(skipped) == 0 && len(all) > 0
		all = append(all, t)
		rest = behind
	}
}

// asDocument holds Scan to wantScan; it says whether it was so.
func asDocument(t *testing.T, s string) bool {
	t.Helper()
	all, at, e := Scan(s)
	want, place, code := wantScan(s)
	right := slices.Equal(all, want) && at == place
	if code == api.OK {
		right = right && e == nil
	} else {
		right = right && errors.Is(e, code)
	}
	if !right {
		t.Errorf("%q: %v at %d, %v; want %v at %d, %v", s, all, at, e, want, place, code)
	}
	return right
}

// texts calls f with each text of at most that many of these bytes, while it wants more.
func texts(bytes string, most int, f func(string) bool) bool {
	var grow func(string) bool
	grow = func(s string) bool {
		if !f(s) {
			return false
		}
		for k := 0; k < len(bytes) && len(s) < most; k++ {
			if !grow(s + bytes[k:k+1]) {
				return false
			}
		}
		return true
	}
	return grow("")
}

// P5.1: names and variables, with all word characters after them.
func TestWords(t *testing.T) {
	scanned(t, "a", name("a"))
	scanned(t, "z", name("z"))
	scanned(t, "foo", name("foo"))
	scanned(t, "aAzZ_09", name("aAzZ_09"))
	scanned(t, "a_", name("a_"))
	scanned(t, "A", variable("A"))
	scanned(t, "Z", variable("Z"))
	scanned(t, "_", variable("_"))
	scanned(t, "__", variable("__"))
	scanned(t, "_a", variable("_a"))
	scanned(t, "_0", variable("_0"))
	scanned(t, "AaZz_09", variable("AaZz_09"))
	scanned(t, "aB Ab _b b_", name("aB"), variable("Ab"), variable("_b"), name("b_"))
	scanned(t, "a1b 1b", name("a1b"), num(1), tight(name("b")))
	scanned(t, "a-B", name("a"), tight(name("-")), tight(variable("B")))
	refused(t, "a\xc3\xa9", 1, api.ErrForm)
	refused(t, "A\x80", 1, api.ErrForm)
}

// P5.1: the chapter's example, and the form of each token in it.
func TestExample(t *testing.T) {
	scanned(t, "foo(X,12).", name("foo"), tight(punct("(")), tight(variable("X")), tight(punct(",")), tight(num(12)), tight(punct(")")), tight(end()))
}

// P5.1: numbers up to 2^63, zeros ahead of them, and no fractions.
func TestNumbers(t *testing.T) {
	for s, n := range map[string]int64{
		"0": 0, "9": 9, "10": 10, "12": 12, "1234567890": 1234567890,
		"00": 0, "007": 7, "000000000000000000000000000000": 0,
		"9223372036854775806":                             math.MaxInt64 - 1,
		"9223372036854775807":                             math.MaxInt64,
		"9223372036854775808":                             math.MinInt64,
		strings.Repeat("0", 4000) + "9223372036854775807": math.MaxInt64,
		strings.Repeat("0", 4000) + "9223372036854775808": math.MinInt64,
		strings.Repeat("0", 4096):                         0,
	} {
		scanned(t, s, num(n))
	}
	for _, s := range []string{
		"9223372036854775809", "009223372036854775809", "9223372036854775810", "10000000000000000000",
		"18446744073709551615", "18446744073709551616", "18446744073709551617", "27670116110564327424",
		"340282366920938463463374607431768211456", strings.Repeat("9", 4096),
	} {
		refused(t, s, 0, api.ErrRange)
		refused(t, "a(7,"+s[:min(len(s), 4000)]+")", 4, api.ErrRange)
	}
	scanned(t, "- 9223372036854775808", name("-"), num(math.MinInt64))
	scanned(t, "-9223372036854775808", name("-"), tight(num(math.MinInt64)))
	scanned(t, "+1", name("+"), tight(num(1)))
	scanned(t, "12ab", num(12), tight(name("ab")))
	scanned(t, "12AB", num(12), tight(variable("AB")))
	scanned(t, "1_000", num(1), tight(variable("_000")))
	scanned(t, "0x1f", num(0), tight(name("x1f")))
	scanned(t, "0'a'", num(0), tight(inMarks("a")))
	scanned(t, "1e5", num(1), tight(name("e5")))
	scanned(t, "1 2", num(1), num(2))
}

// P5.1: a point behind a number: a digit makes it wrong, whatever the number; nothing else does.
func TestNumberAndPoint(t *testing.T) {
	scanned(t, "1.", num(1), tight(end()))
	scanned(t, "1. ", num(1), tight(end()))
	scanned(t, "1. 5", num(1), tight(end()), num(5))
	scanned(t, "1.\n5", num(1), tight(end()), num(5))
	scanned(t, "1.%\n5", num(1), tight(end()), num(5))
	scanned(t, "1 .5", num(1), name("."), tight(num(5)))
	scanned(t, "1..5", num(1), tight(name("..")), tight(num(5)))
	scanned(t, "1.a", num(1), tight(name(".")), tight(name("a")))
	scanned(t, "1.(", num(1), tight(name(".")), tight(punct("(")))
	scanned(t, "1.+5", num(1), tight(name(".+")), tight(num(5)))
	scanned(t, "1+.5", num(1), tight(name("+.")), tight(num(5)))
	scanned(t, "a.5", name("a"), tight(name(".")), tight(num(5)))
	refused(t, "1.5", 0, api.ErrForm)
	refused(t, "1.0", 0, api.ErrForm)
	refused(t, "1.9", 0, api.ErrForm)
	refused(t, "0.0.", 0, api.ErrForm)
	refused(t, "a 12.34", 2, api.ErrForm)
	refused(t, "-1.5", 1, api.ErrForm)
	refused(t, "9223372036854775809.5", 0, api.ErrForm)
	refused(t, strings.Repeat("9", 100)+".5", 0, api.ErrForm)
	refused(t, "9223372036854775809.", 0, api.ErrRange)
	refused(t, "9223372036854775809. 5", 0, api.ErrRange)
	refused(t, "9223372036854775809.a", 0, api.ErrRange)
}

// P5.1: what stands between quotation marks, and what stands for what.
func TestMarks(t *testing.T) {
	for s, want := range map[string]string{
		`''`: "", `'a'`: "a", `'a b'`: "a b", `'A'`: "A", `'1.5'`: "1.5", `'%'`: "%", `'.'`: ".", `'a. b'`: "a. b", `'[]'`: "[]", `'!'`: "!",
		`''''`: "'", `'a''b'`: "a'b", `'''a'`: "'a", `'a'''`: "a'", `''''''`: "''", `'a''''b'`: "a''b",
		`'\\'`: `\`, `'\n'`: "\n", `'\''`: "'", `'a\\b'`: `a\b`, `'a\nb'`: "a\nb", `'a\'b'`: "a'b",
		`'\\n'`: `\n`, `'\\\n'`: "\\\n", `'\\\\'`: `\\`, `'\'\''`: "''", `'\''''`: "''", `'''\''`: "''", `'\\'''`: `\'`, `'n'`: "n",
		`'\' a'`: "' a", `'"'`: `"`, `'{}'`: "{}",
		"'\x20\x7f\x80\xff'": "\x20\x7f\x80\xff", "'\xc3\xa9'": "\xc3\xa9",
	} {
		scanned(t, s, inMarks(want))
	}
	scanned(t, `'a'b`, inMarks("a"), tight(name("b")))
	scanned(t, `'a' 'b'`, inMarks("a"), inMarks("b"))
	scanned(t, `a'b'`, name("a"), tight(inMarks("b")))
	scanned(t, `'a'.`, inMarks("a"), tight(end()))
	scanned(t, `'a'%'`, inMarks("a"))
	scanned(t, `'foo'(''''''(`, inMarks("foo"), tight(punct("(")), tight(inMarks("''")), tight(punct("(")))
}

// P5.1: wrong quotation marks; the position is that of the opening one.
func TestWrongMarks(t *testing.T) {
	for _, s := range []string{
		`'`, `'a`, `'''`, `'a''`, `'a''b`, `'''''`, `'\'`, `'a\'`, `'\'''`, `'\\''`, `'a\\''`, `'\n`, `'a% `, `'a.`,
		`'\`, `'a\`, `'\\\`, `'\a'`, `'\N'`, `'\t'`, `'\0'`, `'\ '`, `'\"'`, `'\%'`, "'\\\n'", "'\\\x00'", "'\\\xff'", `'ok\q`, `'\x41'`,
		"'\n'", "'a\n'", "'a\n", "'\t'", "'\r'", "'a\x00b'", "'\x1f'", "'a''\n'",
	} {
		refused(t, s, 0, api.ErrForm)
		refused(t, "  b "+s, 4, api.ErrForm)
		refused(t, "b("+s, 2, api.ErrForm)
	}
	refused(t, "'a'''\n'", 6, api.ErrForm)
	for c := range 256 {
		inside := "'a" + string([]byte{byte(c)}) + "b'"
		if c < 32 {
			refused(t, inside, 0, api.ErrForm)
		}
		behind := `'a\` + string([]byte{byte(c)}) + "'"
		if c != '\\' && c != 'n' && c != '\'' {
			refused(t, behind, 0, api.ErrForm)
		}
	}
}

// P5.1: names and variables of 64 bytes and of one more; it is the S that counts, and only when there is one.
func TestLongNames(t *testing.T) {
	for _, c := range []struct {
		first string
		kind  int
	}{{"a", api.TokName}, {"A", api.TokVar}, {"_", api.TokVar}} {
		long := c.first + strings.Repeat("b", 63)
		scanned(t, long, api.Token{Kind: c.kind, S: long})
		refused(t, long+"b", 0, api.ErrFull)
		refused(t, "x "+long+"b.", 2, api.ErrFull)
		scanned(t, long+" "+long, api.Token{Kind: c.kind, S: long}, api.Token{Kind: c.kind, S: long})
	}
	long := strings.Repeat("=", 64)
	scanned(t, long, name(long))
	refused(t, long+"=", 0, api.ErrFull)
	refused(t, "a"+long+".", 1, api.ErrFull)
	for s, one := range map[string]string{"b": "b", " ": " ", `''`: "'", `\'`: "'", `\\`: `\`, `\n`: "\n", "\xff": "\xff"} {
		scanned(t, "'"+strings.Repeat(s, 64)+"'", inMarks(strings.Repeat(one, 64)))
		refused(t, "'"+strings.Repeat(s, 65)+"'", 0, api.ErrFull)
		refused(t, "a,'"+strings.Repeat(s, 65)+"'", 2, api.ErrFull)
		refused(t, "'"+strings.Repeat(s, 65), 0, api.ErrForm)
		refused(t, "'"+strings.Repeat(s, 65)+"\n'", 0, api.ErrForm)
		refused(t, "'"+strings.Repeat(s, 65)+`\q'`, 0, api.ErrForm)
	}
	scanned(t, strings.Repeat("!", 65), append([]api.Token{name("!")}, slices.Repeat([]api.Token{tight(name("!"))}, 64)...)...)
	scanned(t, strings.Repeat("1", 10)+strings.Repeat(" ", 65), num(1111111111))
}

// P5.1: a text of 4096 bytes and of one more, whatever is in it.
func TestLongTexts(t *testing.T) {
	scanned(t, strings.Repeat(" ", 4096))
	scanned(t, "%"+strings.Repeat("\x00", 4095))
	scanned(t, strings.Repeat(" ", 4095)+"a", name("a"))
	scanned(t, "a"+strings.Repeat("\n", 4095), name("a"))
	all, at, e := Scan(strings.Repeat("a ", 2048))
	if len(all) != 2048 || at != 0 || e != nil || all[2047] != name("a") {
		t.Error(len(all), at, e)
	}
	all, at, e = Scan(strings.Repeat("(", 4096))
	if len(all) != 4096 || at != 0 || e != nil || all[0] != punct("(") || all[4095] != tight(punct("(")) {
		t.Error(len(all), at, e)
	}
	refused(t, strings.Repeat(" ", 4095)+"{", 4095, api.ErrForm)
	for _, s := range []string{" ", "a", "(", "1", "'", "\x00", "{", "%", "a "} {
		refused(t, strings.Repeat(s, 4097), 0, api.ErrFull)
	}
	refused(t, "{"+strings.Repeat(" ", 4096), 0, api.ErrFull)
	refused(t, "a 1.5"+strings.Repeat(" ", 4092), 0, api.ErrFull)
	refused(t, strings.Repeat("a ", 1<<20), 0, api.ErrFull)
}

// P5.1: bytes that are tokens by themselves.
func TestSingles(t *testing.T) {
	for _, s := range []string{"(", ")", "[", "]", ",", "|"} {
		scanned(t, s, punct(s))
		scanned(t, s+s, punct(s), tight(punct(s)))
		scanned(t, "a"+s+"b", name("a"), tight(punct(s)), tight(name("b")))
		scanned(t, "-"+s+"-", name("-"), tight(punct(s)), tight(name("-")))
	}
	for _, s := range []string{"!", ";"} {
		scanned(t, s, name(s))
		scanned(t, s+s, name(s), tight(name(s)))
		scanned(t, "a"+s+"b", name("a"), tight(name(s)), tight(name("b")))
		scanned(t, "-"+s+"-", name("-"), tight(name(s)), tight(name("-")))
		scanned(t, s+".", name(s), tight(end()))
	}
	scanned(t, "[]", punct("["), tight(punct("]")))
	scanned(t, "!;", name("!"), tight(name(";")))
	scanned(t, "||", punct("|"), tight(punct("|")))
}

// P5.1: points: before a blank, a percent sign and the end they are ends; else they belong to a sequence of symbol characters, of which they may be the only one.
func TestPoints(t *testing.T) {
	for _, behind := range []string{"", " ", "\t", "\n", "\r", "%", "%.", "% x\n", "  "} {
		scanned(t, "."+behind, end())
		scanned(t, "a."+behind, name("a"), tight(end()))
		scanned(t, "a ."+behind, name("a"), end())
		scanned(t, ".."+behind, name(".."))
		scanned(t, "=."+behind, name("=."))
		scanned(t, "a=.."+behind, name("a"), tight(name("=..")))
	}
	scanned(t, ". .", end(), end())
	scanned(t, ".%\n.", end(), end())
	scanned(t, "a.b.", name("a"), tight(name(".")), tight(name("b")), tight(end()))
	for _, behind := range []api.Token{name("a"), variable("A"), variable("_"), punct("("), punct(")"), punct("["), punct("]"), punct(","), punct("|"), name("!"), name(";")} {
		scanned(t, "."+behind.S, name("."), tight(behind))
	}
	scanned(t, ".5", name("."), tight(num(5)))
	scanned(t, ".'a'", name("."), tight(inMarks("a")))
	for k := range len("+-*/\\^<>=~:?@#&$") {
		s := "+-*/\\^<>=~:?@#&$"[k : k+1]
		scanned(t, "."+s, name("."+s))
		scanned(t, s+".", name(s+"."))
		scanned(t, s+".a", name(s+"."), tight(name("a")))
		scanned(t, s+" .", name(s), end())
	}
	refused(t, ".\x00", 1, api.ErrForm)
	refused(t, ".\v", 1, api.ErrForm)
	refused(t, "a.{", 2, api.ErrForm)
}

// P5.1: sequences of symbol characters, each of them and all of them.
func TestSymbols(t *testing.T) {
	list := `+-*/\^<>=~:.?@#&$`
	scanned(t, list, name(list))
	for k := range list {
		s := list[k : k+1]
		scanned(t, s+"=", name(s+"="))
		scanned(t, "="+s, name("="+s))
		if s == "." {
			continue
		}
		scanned(t, s, name(s))
		scanned(t, "a"+s+"1", name("a"), tight(name(s)), tight(num(1)))
		scanned(t, s+"A", name(s), tight(variable("A")))
		scanned(t, s+"%"+s, name(s))
	}
	scanned(t, ":- \\+ a", name(":-"), name("\\+"), name("a"))
	scanned(t, "/* a */", name("/*"), name("a"), name("*/"))
	scanned(t, `\n`, name(`\`), tight(name("n")))
	scanned(t, `\\`, name(`\\`))
}

// P5.1: blanks and comments are skipped, and tell what is Tight.
func TestSkipped(t *testing.T) {
	for _, s := range []string{"", " ", "\t", "\n", "\r", " \t\r\n ", "%", "%\n", "% a", "% a\n", "%%\n%", "%\n%\n", " % a ' { \x00\xff\n\t", "%\r%\t'"} {
		scanned(t, s)
	}
	for _, s := range []string{" ", "\t", "\n", "\r", "\r\n", "%\n", "% b\n", "%%%\n", "%'\n", "%.\n", "%{\x00\xff\n", " %\n ", "%\r b\n", "%a\n%b\n"} {
		scanned(t, s+"a", name("a"))
		scanned(t, "a"+s, name("a"))
		scanned(t, "a"+s+"b", name("a"), name("b"))
		scanned(t, "("+s+"1"+s+")", punct("("), num(1), punct(")"))
		scanned(t, "a"+s+"(b", name("a"), punct("("), tight(name("b")))
		scanned(t, s+"'a'"+s+"'b'", inMarks("a"), inMarks("b"))
	}
	scanned(t, "a%b", name("a"))
	scanned(t, "a%", name("a"))
	scanned(t, "a. % b.", name("a"), tight(end()))
	scanned(t, "a%b\rc", name("a"))
	scanned(t, "a(b", name("a"), tight(punct("(")), tight(name("b")))
	scanned(t, "'a%b'", inMarks("a%b"))
	refused(t, "%\n{", 2, api.ErrForm)
	refused(t, "% {\n  {", 6, api.ErrForm)
}

// P5.1: bytes that begin no token, alone, ahead of a token and behind one.
func TestWrongBytes(t *testing.T) {
	for c := range 256 {
		one := string([]byte{byte(c)})
		word := c >= 'a' && c <= 'z' || c >= 'A' && c <= 'Z' || c >= '0' && c <= '9'
		if word || strings.Contains("_'()[],|!;%\t\n\r +-*/\\^<>=~:.?@#&$", one) {
			continue
		}
		refused(t, one, 0, api.ErrForm)
		refused(t, one+"a", 0, api.ErrForm)
		refused(t, "a"+one, 1, api.ErrForm)
		refused(t, "A"+one, 1, api.ErrForm)
		refused(t, "12"+one, 2, api.ErrForm)
		refused(t, "=="+one, 2, api.ErrForm)
		refused(t, "'a'"+one, 3, api.ErrForm)
		refused(t, "% a\n (b)\n"+one+" c.", 9, api.ErrForm)
	}
	for _, s := range []string{"{", "}", "\"", "`", "\x00", "\v", "\f", "\x7f", "\x80", "\xff", "\xc2\xa0", "\u2028", "\ufeff", "\xc3\xa9", "\x1b"} {
		refused(t, s, 0, api.ErrForm)
	}
}

// P5.1: the first wrong token from the left is the one that counts, whatever its code.
func TestFirstError(t *testing.T) {
	long := strings.Repeat("a", 65)
	refused(t, "{ 9223372036854775809 "+long, 0, api.ErrForm)
	refused(t, "9223372036854775809 { "+long, 0, api.ErrRange)
	refused(t, long+" { 9223372036854775809", 0, api.ErrFull)
	refused(t, "b "+long+"{", 2, api.ErrFull)
	refused(t, "b 'c'. 1.5 {", 7, api.ErrForm)
	refused(t, "b 'c'. 9223372036854775809 1.5 {", 7, api.ErrRange)
}

// P5.1: Scan as the document says it, for all texts of one and two bytes, and for all short ones of some that mean much beside each other.
func TestScanAll(t *testing.T) {
	every := make([]byte, 256)
	for k := range every {
		every[k] = byte(k)
	}
	for _, c := range []struct {
		bytes string
		most  int
	}{
		{string(every), 2},
		{"aB_0'(!.-% \n\\{", 4},
		{"'\\na \n%", 6},
		{".0 %\n-a", 6},
		{"aA0", 7},
	} {
		texts(c.bytes, c.most, func(s string) bool { return asDocument(t, s) })
	}
}

// P5.1: Scan as the document says it, where lengths and sizes come near the limits.
func TestScanNearLimits(t *testing.T) {
	for n := 62; n <= 66; n++ {
		for _, s := range []string{"a", "B", "_", "0", "=", ".", "!", " ", "(", "{", "'", "\\", "''", `\n`, `\\`, `\'`} {
			long := strings.Repeat(s, n)
			for _, text := range []string{long, "'" + long + "'", "'" + long, "a" + long, "a " + long, "A" + long, long + ".", long + "\n", "1" + long, "='" + long + "'."} {
				asDocument(t, text)
			}
		}
	}
	for n := 4090; n <= 4100; n++ {
		for _, s := range []string{"a", " ", "(", "%", "\n", "'", "{", "0"} {
			asDocument(t, strings.Repeat(s, n))
			asDocument(t, strings.Repeat(" ", n)+s)
		}
	}
}

// wantPlain is the document's Plain.
var wantPlain = regexp.MustCompile(`\A(?:[a-z][a-zA-Z_0-9]*|\[\]|!|;|[-+*/\\^<>=~:.?@#&$]+)\z`)

// wantQuote is the document's Quote.
func wantQuote(s string) string {
	if s != "." && wantPlain.MatchString(s) {
		return s
	}
	s = strings.ReplaceAll(s, `\`, `\\`)
	s = strings.ReplaceAll(s, `'`, `''`)
	return "'" + strings.ReplaceAll(s, "\n", `\n`) + "'"
}

// P5.2: Plain and Quote of names that need no quotation marks, and of others.
func TestQuote(t *testing.T) {
	long := strings.Repeat("a", 5000)
	for _, s := range []string{
		"a", "z", "foo", "aB_1", "a_", "a0", "z9Z", "[]", "!", ";", "+", "-", "*", "/", "\\", "^", "<", ">", "=", "~", ":", "?", "@", "#", "&", "$",
		"..", "...", "=..", ".=", ":-", "\\+", "\\\\", "+-*/\\^<>=~:.?@#&$", long, strings.Repeat(".", 5000),
	} {
		if !Plain(s) || Quote(s) != s {
			t.Errorf("%.80q: %v, %.80q", s, Plain(s), Quote(s))
		}
	}
	for s, want := range map[string]string{
		"": `''`, ".": `'.'`, "A": `'A'`, "_": `'_'`, "_a": `'_a'`, "0": `'0'`, "12": `'12'`, "1a": `'1a'`, " ": `' '`, "a b": `'a b'`, " a": `' a'`, "a ": `'a '`,
		"'": `''''`, "''": `''''''`, "a'b": `'a''b'`, "a\\": `'a\\'`, "\\a": `'\\a'`, "\\n": `'\\n'`, "\\'": `'\\'''`, "'\\": `'''\\'`, "\n": `'\n'`, "a\nb": `'a\nb'`, "a\\\n": `'a\\\n'`, "\n\n": `'\n\n'`,
		"[": `'['`, "]": `']'`, "[ ]": `'[ ]'`, "[]]": `'[]]'`, "[][]": `'[][]'`, "a[]": `'a[]'`, "()": `'()'`, "{}": `'{}'`, ",": `','`, "|": `'|'`, "(": `'('`,
		"!!": `'!!'`, ";;": `';;'`, "!;": `'!;'`, "!a": `'!a'`, "a!": `'a!'`, "%": `'%'`, "=%": `'=%'`, "a=": `'a='`, "=a": `'=a'`, ". ": `'. '`, ".a": `'.a'`, "-1": `'-1'`,
		"\t": "'\t'", "\r": "'\r'", "\x00": "'\x00'", "\xff": "'\xff'", "a\xc3\xa9": "'a\xc3\xa9'", "\"": `'"'`, "`": "'`'",
		long + "'": "'" + long + "'''", "+!": `'+!'`, "é": `'é'`,
	} {
		if Plain(s) || Quote(s) != want {
			t.Errorf("%.80q: %v, %.80q, want %.80q", s, Plain(s), Quote(s), want)
		}
	}
}

// P5.2: Plain and Quote as the document says them, for all texts of one and two bytes and many more.
func TestQuoteAll(t *testing.T) {
	every := make([]byte, 256)
	for k := range every {
		every[k] = byte(k)
	}
	for _, c := range []struct {
		bytes string
		most  int
	}{{string(every), 2}, {"aB_0'.-\\ \n[]!;n%", 4}} {
		texts(c.bytes, c.most, func(s string) bool {
			want := wantQuote(s)
			if Quote(s) != want || Plain(s) != (want == s) {
				t.Errorf("%q: %v, %q, want %q", s, Plain(s), Quote(s), want)
				return false
			}
			return true
		})
	}
}

// mayOccur reports whether a name may occur in a text: it has at most 64 bytes, and none below 32 but 10.
func mayOccur(s string) bool {
	return len(s) <= 64 && !strings.ContainsFunc(strings.ReplaceAll(s, "\n", ""), func(r rune) bool { return r < 32 })
}

// P5.3, P2: a quoted name is scanned as the original one, alone and within a text; one that may not occur is refused. The name [] is its own Quote, and that is two tokens: the reader makes one name of them.
func TestRoundTrip(t *testing.T) {
	every := make([]byte, 256)
	for k := range every {
		every[k] = byte(k)
	}
	trip := func(s string) bool {
		q := Quote(s)
		want := name(s)
		if !Plain(s) {
			want = inMarks(s)
		}
		switch {
		case s == "[]":
			scanned(t, q, punct("["), tight(punct("]")))
		case !mayOccur(s) && len(s) > 64:
			refused(t, q, 0, api.ErrFull)
		case !mayOccur(s):
			refused(t, q, 0, api.ErrForm)
		default:
			scanned(t, q, want)
			scanned(t, "f("+q+",a).", name("f"), tight(punct("(")), tight(want), tight(punct(",")), tight(name("a")), tight(punct(")")), tight(end()))
			scanned(t, "a "+q+" (% b\n", name("a"), want, punct("("))
		}
		return !t.Failed()
	}
	for _, c := range []struct {
		bytes string
		most  int
	}{{string(every), 2}, {"a'.\\ \nn[]!%", 4}} {
		texts(c.bytes, c.most, trip)
	}
	for n := 60; n <= 70; n++ {
		for _, s := range []string{"a", "A", "'", "\\", "\n", "=", ".", " ", "\xff"} {
			trip(strings.Repeat(s, n))
		}
	}
}

// samples are tokens as they are written, with none that another could be joined to but by a name.
func samples() []string {
	return []string{"a", "bC_1", "X", "_", "_y", "0", "12", "9223372036854775808", "'a b'", "''", `'\n'`, `'a''%'`, "(", ")", "[", "]", ",", "|", "!", ";", "+", ":-", "=..", "..", ".%\n"}
}

// P5.3: blanks and comments between tokens change nothing except Tight.
func TestBlanksChangeNothing(t *testing.T) {
	fill := []string{" ", "\t", "\r\n", "%\n", "% 'a {\n", "\n\n%%\n ", " % .\n\t"}
	for _, a := range samples() {
		for _, b := range samples() {
			for _, c := range []string{"a", "'b'", "(", "1", "-"} {
				want, _, e := Scan(a + " " + b + " " + c)
				if e != nil || len(want) != 3 {
					t.Fatal(a, b, c, want, e)
				}
				for k, f := range fill {
					next := fill[(k+3)%len(fill)]
					for _, s := range []string{a + f + b + next + c, f + a + next + b + f + c + next, a + f + b + f + c + "%"} {
						if all, at, e := Scan(s); e != nil || at != 0 || !slices.Equal(all, loose(want)) {
							t.Fatalf("%q: %v at %d, %v; want %v", s, all, at, e, loose(want))
						}
					}
				}
			}
		}
	}
}

// P5.3: where tokens stand tight, blanks between them change Tight alone; but not behind a single point, which they would make an end.
func TestBlanksBetween(t *testing.T) {
	for _, parts := range [][]string{
		{"foo", "(", "X", ",", "12", ")", "."},
		{"p", "(", "X", ")", ":-", "q", "(", "X", ",", "'a b'", ")", ",", "!", "."},
		{"[", "a", "|", "_", "]", "=..", "Y", ";", "\\+", "z", "."},
		{"-", "9223372036854775808", "a", "'b'", "c", "..", "d"},
	} {
		dense, at, e := Scan(strings.Join(parts, ""))
		if e != nil || at != 0 || len(dense) != len(parts) {
			t.Fatal(parts, dense, at, e)
		}
		for k := range dense {
			if dense[k].Tight != (k > 0) {
				t.Error(parts, k, dense[k])
			}
		}
		for k := 1; k < len(parts); k++ {
			want := slices.Clone(dense)
			want[k].Tight = false
			for _, f := range []string{" ", "\n", "%\n", " % a\n"} {
				scanned(t, strings.Join(parts[:k], "")+f+strings.Join(parts[k:], ""), want...)
			}
		}
	}
	scanned(t, "a.b", name("a"), tight(name(".")), tight(name("b")))
	scanned(t, "a. b", name("a"), tight(end()), name("b"))
}

// R3 and R4: results belong to the caller, and nothing is kept from call to call.
func TestNothingKept(t *testing.T) {
	s := "foo(X, 'a b', 12) :- [!|_]. % end"
	want, _, _ := Scan(s)
	kept := slices.Clone(want)
	again, _, _ := Scan(s)
	for k := range again {
		again[k] = api.Token{Kind: 99, S: "spoilt"}
	}
	Scan("{")
	Scan("'")
	Quote("'")
	Plain("a")
	if !slices.Equal(want, kept) {
		t.Error("results share memory:", want)
	}
	scanned(t, s, kept...)
	if Quote("a b") != "'a b'" || Quote("a b") != "'a b'" {
		t.Error(Quote("a b"))
	}
}

// P1: whatever a text is, and wherever it is cut off, Scan ends, and answers as the document says.
func TestCutOff(t *testing.T) {
	s := "p(X, 'a''\\n\\\\\\' b') :- q[12|_x], !. % end\n-9. a.b 'c'..1.5 {"
	for from := range len(s) {
		for to := from; to <= len(s); to++ {
			if !asDocument(t, s[from:to]) {
				return
			}
		}
	}
}
