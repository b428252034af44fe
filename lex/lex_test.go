package lex_test

import (
	"math"
	"regexp"
	"slices"
	"strconv"
	"strings"
	"testing"

	"duologue/api"
	"duologue/lex"
)

const allSigns = "!?.(){}<>,:;|&+="

func word(text string, at int) lex.Token {
	return lex.Token{Kind: lex.Word, Text: text, At: at}
}

func num(text string, n int64, at int) lex.Token {
	return lex.Token{Kind: lex.Number, Text: text, N: n, At: at}
}

func sign(text string, at int) lex.Token {
	return lex.Token{Kind: lex.Sign, Text: text, At: at}
}

// short shortens a text for a message.
func short(s string) string {
	if len(s) <= 60 {
		return strconv.Quote(s)
	}
	return strconv.Quote(s[:60]) + ".. (" + strconv.Itoa(len(s)) + " bytes)"
}

func wantTokens(t *testing.T, s string, want ...lex.Token) {
	t.Helper()
	got, f := lex.Tokens(s)
	if f != (api.Fault{}) {
		t.Errorf("%s: fault %v", short(s), f)
	} else if !slices.Equal(got, want) {
		t.Errorf("%s: got %v, want %v", short(s), got, want)
	}
}

func wantFault(t *testing.T, s string, err api.Errno, at int) {
	t.Helper()
	got, f := lex.Tokens(s)
	if want := (api.Fault{Err: err, At: at}); f != want || got != nil {
		t.Errorf("%s: got %d tokens and fault %v, want no tokens and %v", short(s), len(got), f, want)
	}
}

// P1.1: ordinary texts.

func TestTokensOfOrdinaryTexts(t *testing.T) {
	wantTokens(t, "a!<-5>.stop", word("a", 0), sign("!", 1), sign("<", 2), num("-5", -5, 3), sign(">", 5), sign(".", 6), word("stop", 7))
	wantTokens(t, "def X(a: !3 int.end) = X<a>;",
		word("def", 0), word("X", 4), sign("(", 5), word("a", 6), sign(":", 7), sign("!", 9), num("3", 3, 10), word("int", 12), sign(".", 15), word("end", 16), sign(")", 19),
		sign("=", 21), word("X", 23), sign("<", 24), word("a", 25), sign(">", 26), sign(";", 27))
	wantTokens(t, "c&{go: stop, no: stop}",
		word("c", 0), sign("&", 1), sign("{", 2), word("go", 3), sign(":", 5), word("stop", 7), sign(",", 11), word("no", 13), sign(":", 15), word("stop", 17), sign("}", 21))
	wantTokens(t, "t+2 | true", word("t", 0), sign("+", 1), num("2", 2, 2), sign("|", 4), word("true", 6))
}

func TestTokensOfNothing(t *testing.T) {
	for _, s := range []string{"", " ", "\t", "\n", "\r", " \t\n\r\r\n\t ", "#", "##", "# a b\n", "#a\n#b", " #\n #"} {
		wantTokens(t, s)
	}
}

// P1.1: each byte alone is a token, a blank, a comment, or a fault.

func TestTokensOfSingleBytes(t *testing.T) {
	for i := range 256 {
		b := byte(i)
		s := string([]byte{b})
		switch {
		case b >= 'a' && b <= 'z', b >= 'A' && b <= 'Z', b == '_':
			wantTokens(t, s, word(s, 0))
		case b >= '0' && b <= '9':
			wantTokens(t, s, num(s, int64(b-'0'), 0))
		case strings.Contains(allSigns, s):
			wantTokens(t, s, sign(s, 0))
		case b == ' ', b == '\t', b == '\n', b == '\r', b == '#':
			wantTokens(t, s)
		default:
			wantFault(t, s, api.ErrSyntax, 0)
		}
	}
}

func TestEverySignIsATokenOfItsOwn(t *testing.T) {
	var want []lex.Token
	for i := range len(allSigns) {
		want = append(want, sign(allSigns[i:i+1], i))
	}
	wantTokens(t, allSigns, want...)
	wantTokens(t, "!!<<", sign("!", 0), sign("!", 1), sign("<", 2), sign("<", 3))
}

// P1.1: blanks and comments.

func TestBlanksSeparateTokens(t *testing.T) {
	for _, blank := range []string{" ", "\t", "\n", "\r"} {
		wantTokens(t, blank+"a"+blank+"b"+blank, word("a", 1), word("b", 3))
		wantTokens(t, "1"+blank+"2", num("1", 1, 0), num("2", 2, 2))
	}
	for _, other := range []string{"\v", "\f", "\x00", "\x7f", "\u00a0", "\u2028", "\ufeff"} {
		wantFault(t, "a"+other+"b", api.ErrSyntax, 1)
	}
}

func TestCommentsEndInFrontOfALineFeed(t *testing.T) {
	wantTokens(t, "a#b\nc", word("a", 0), word("c", 4))
	wantTokens(t, "#a\nb", word("b", 3))
	wantTokens(t, "a # b # c\nd", word("a", 0), word("d", 10))
	wantTokens(t, "#\n\n#\na", word("a", 5))
	wantTokens(t, "ab#\ncd", word("ab", 0), word("cd", 4))
	wantTokens(t, "1#\n2", num("1", 1, 0), num("2", 2, 3))
}

func TestCommentsEndAtTheEndOfTheText(t *testing.T) {
	wantTokens(t, "a#", word("a", 0))
	wantTokens(t, "a#b", word("a", 0))
	wantTokens(t, "a #b\t;", word("a", 0))
}

func TestACarriageReturnDoesNotEndAComment(t *testing.T) {
	wantTokens(t, "a#b\rc", word("a", 0))
	wantTokens(t, "a#b\rc\nd", word("a", 0), word("d", 6))
	wantTokens(t, "#\r\na", word("a", 3))
}

func TestCommentsHideFaults(t *testing.T) {
	wantTokens(t, "#@$\x00\xff-0 9223372036854775808\na", word("a", 28))
	wantTokens(t, "#\u00e9")
	wantFault(t, "#@\n@", api.ErrSyntax, 3)
}

// P1.1: each token is as long as possible.

func TestTokensAreAsLongAsPossible(t *testing.T) {
	wantTokens(t, "abc_9X", word("abc_9X", 0))
	wantTokens(t, "_", word("_", 0))
	wantTokens(t, "__1", word("__1", 0))
	wantTokens(t, "defx maintain", word("defx", 0), word("maintain", 5))
	wantTokens(t, "9a", num("9", 9, 0), word("a", 1))
	wantTokens(t, "12_3", num("12", 12, 0), word("_3", 2))
	wantTokens(t, "120a", num("120", 120, 0), word("a", 3))
	wantTokens(t, "a.b", word("a", 0), sign(".", 1), word("b", 2))
}

func TestZeroIsATokenOfItsOwn(t *testing.T) {
	wantTokens(t, "0", num("0", 0, 0))
	wantTokens(t, "00", num("0", 0, 0), num("0", 0, 1))
	wantTokens(t, "007", num("0", 0, 0), num("0", 0, 1), num("7", 7, 2))
	wantTokens(t, "010", num("0", 0, 0), num("10", 10, 1))
	wantTokens(t, "100", num("100", 100, 0))
	wantTokens(t, "0x", num("0", 0, 0), word("x", 1))
}

func TestMinusSignsBelongToNumbersOnly(t *testing.T) {
	wantTokens(t, "-1", num("-1", -1, 0))
	wantTokens(t, "-10", num("-10", -10, 0))
	wantTokens(t, "a-1", word("a", 0), num("-1", -1, 1))
	wantTokens(t, "1-2-3", num("1", 1, 0), num("-2", -2, 1), num("-3", -3, 3))
	wantTokens(t, "0-1", num("0", 0, 0), num("-1", -1, 1))
	wantTokens(t, "+-9", sign("+", 0), num("-9", -9, 1))
	for s, at := range map[string]int{"-": 0, "-0": 0, "-01": 0, "--1": 0, "- 1": 0, "-a": 0, "-#1": 0, "a-b": 1, "1-": 1, "-1-": 2, "a -\n1": 2, "0-0": 1} {
		wantFault(t, s, api.ErrSyntax, at)
	}
}

// P1.1: numbers at the ends of int64.

func TestNumbersAtTheEndsOfInt64(t *testing.T) {
	wantTokens(t, "9223372036854775807", num("9223372036854775807", math.MaxInt64, 0))
	wantTokens(t, "-9223372036854775808", num("-9223372036854775808", math.MinInt64, 0))
	wantTokens(t, "9223372036854775806 -9223372036854775807", num("9223372036854775806", math.MaxInt64-1, 0), num("-9223372036854775807", math.MinInt64+1, 20))
	wantTokens(t, "09223372036854775807", num("0", 0, 0), num("9223372036854775807", math.MaxInt64, 1))
	wantFault(t, "9223372036854775808", api.ErrLimit, 0)
	wantFault(t, "-9223372036854775809", api.ErrLimit, 0)
	wantFault(t, "18446744073709551616", api.ErrLimit, 0)
	wantFault(t, "18446744073709551617", api.ErrLimit, 0)
	wantFault(t, "-18446744073709551617", api.ErrLimit, 0)
	wantFault(t, "10000000000000000000", api.ErrLimit, 0)
	wantFault(t, "a <-99999999999999999999>", api.ErrLimit, 3)
	wantFault(t, strings.Repeat("9", api.MaxBytes), api.ErrLimit, 0)
}

// P1.1: the first fault counts.

func TestTheFirstFaultCounts(t *testing.T) {
	wantFault(t, "a @ $", api.ErrSyntax, 2)
	wantFault(t, "$ 9223372036854775808", api.ErrSyntax, 0)
	wantFault(t, "9223372036854775808 $", api.ErrLimit, 0)
	wantFault(t, "9223372036854775808$", api.ErrLimit, 0)
	wantFault(t, "1 -9223372036854775809 @", api.ErrLimit, 2)
	wantFault(t, "0 9223372036854775808 -9223372036854775809", api.ErrLimit, 2)
	wantFault(t, "-09223372036854775808", api.ErrSyntax, 0)
	wantFault(t, "a\u00e9", api.ErrSyntax, 1)
	wantFault(t, "\xff", api.ErrSyntax, 0)
	wantFault(t, "stop;\n/", api.ErrSyntax, 6)
}

// P1.1: the limit of a text.

func TestTextsOfMaxBytes(t *testing.T) {
	wantTokens(t, strings.Repeat(" ", api.MaxBytes))
	wantTokens(t, "#"+strings.Repeat("@", api.MaxBytes-1))
	wantTokens(t, strings.Repeat("a", api.MaxBytes), word(strings.Repeat("a", api.MaxBytes), 0))
	wantTokens(t, strings.Repeat("\n", api.MaxBytes-1)+"7", num("7", 7, api.MaxBytes-1))
	l, f := lex.Tokens(strings.Repeat(";", api.MaxBytes))
	if f != (api.Fault{}) || len(l) != api.MaxBytes || l[api.MaxBytes-1] != sign(";", api.MaxBytes-1) {
		t.Errorf("%d tokens, fault %v", len(l), f)
	}
	wantFault(t, strings.Repeat(" ", api.MaxBytes-1)+"@", api.ErrSyntax, api.MaxBytes-1)
}

func TestTextsOfMoreThanMaxBytes(t *testing.T) {
	for _, part := range []string{" ", "a", "0", "9", ";", "#", "@", "-", "\x00"} {
		wantFault(t, strings.Repeat(part, api.MaxBytes+1), api.ErrLimit, api.MaxBytes)
	}
	wantFault(t, strings.Repeat("@", 3*api.MaxBytes), api.ErrLimit, api.MaxBytes)
	wantFault(t, strings.Repeat(" ", api.MaxBytes)+"@", api.ErrLimit, api.MaxBytes)
	wantFault(t, "9223372036854775808"+strings.Repeat(" ", api.MaxBytes), api.ErrLimit, api.MaxBytes)
}

// P1 and P1.1: all short texts over some bytes, against regular expressions.

var (
	skipped = regexp.MustCompile(`^([ \t\n\r]|#[^\n]*)*`)
	token   = regexp.MustCompile(`^([A-Za-z_][A-Za-z0-9_]*|(0|-?[1-9][0-9]*)|[!?.(){}<>,:;|&+=])`)
)

// expected returns the tokens of a text without large numbers, as the regular expressions find them.
func expected(s string) ([]lex.Token, api.Fault) {
	var l []lex.Token
	at := 0
	for {
		at += len(skipped.FindString(s[at:]))
		if at == len(s) {
			return l, api.Fault{}
		}
		m := token.FindStringSubmatch(s[at:])
		switch {
		case m == nil:
			return nil, api.Fault{Err: api.ErrSyntax, At: at}
		case m[2] != "":
			n, _ := strconv.ParseInt(m[2], 10, 64)
			l = append(l, num(m[2], n, at))
		case strings.Contains(allSigns, m[0]):
			l = append(l, sign(m[0], at))
		default:
			l = append(l, word(m[0], at))
		}
		at += len(m[0])
	}
}

// eachText calls f for all texts of at most n of the given bytes.
func eachText(bytes string, n int, f func(string)) {
	var extend func(prefix string)
	extend = func(prefix string) {
		f(prefix)
		if len(prefix) == n {
			return
		}
		for i := range len(bytes) {
			extend(prefix + bytes[i:i+1])
		}
	}
	extend("")
}

func TestTokensOfAllShortTexts(t *testing.T) {
	eachText("aZ_019-#\n\r !@", 5, func(s string) {
		got, f := lex.Tokens(s)
		want, wf := expected(s)
		if f != wf || !slices.Equal(got, want) {
			t.Fatalf("%q: got %v %v, want %v %v", s, got, f, want, wf)
		}
	})
}

func TestTokensOfAllPairsOfBytes(t *testing.T) {
	for i := range 1 << 16 {
		s := string([]byte{byte(i >> 8), byte(i)})
		got, f := lex.Tokens(s)
		want, wf := expected(s)
		if f != wf || !slices.Equal(got, want) {
			t.Fatalf("%q: got %v %v, want %v %v", s, got, f, want, wf)
		}
	}
}

// P1.2

func TestKeyword(t *testing.T) {
	for _, s := range []string{"def", "main", "stop", "new", "int", "bool", "end", "rec", "true", "false"} {
		if !lex.Keyword(s) || lex.Name(s) {
			t.Errorf("%q is no keyword, or a name", s)
		}
		for _, other := range []string{strings.ToUpper(s), strings.ToUpper(s[:1]) + s[1:], s + "s", "_" + s, s + "0", s[1:], s[:len(s)-1]} {
			if lex.Keyword(other) || !lex.Name(other) {
				t.Errorf("%q is a keyword, or no name", other)
			}
		}
		for _, other := range []string{s + " ", " " + s, s + "#", s + s + "!"} {
			if lex.Keyword(other) || lex.Name(other) {
				t.Errorf("%q is a keyword or a name", other)
			}
		}
	}
	for _, s := range []string{"", " ", "0", "def main", "a", "!", "let", "var", "\x00"} {
		if lex.Keyword(s) {
			t.Errorf("%q is a keyword", s)
		}
	}
}

func TestName(t *testing.T) {
	for _, s := range []string{"a", "Z", "_", "__", "x1", "X_9y", "r0", strings.Repeat("n", api.MaxBytes+1)} {
		if !lex.Name(s) {
			t.Errorf("%s is no name", short(s))
		}
	}
	for _, s := range []string{"", "0", "9a", "-1", "a b", "a ", " a", "a-", "a-1", "a#", "#a", "a\n", "a.b", "!", "0+", "a+", "\u00e9", "a\u00e9", "a\x00", "@"} {
		if lex.Name(s) {
			t.Errorf("%q is a name", s)
		}
	}
}

func TestNameOfAllShortTexts(t *testing.T) {
	name := regexp.MustCompile(`\A[A-Za-z_][A-Za-z0-9_]*\z`)
	check := func(s string) {
		if want := name.MatchString(s); lex.Name(s) != want {
			t.Fatalf("%q: want %v", s, want)
		}
	}
	eachText("aZ_09- #!\n", 4, check)
	for i := range 1 << 16 {
		check(string([]byte{byte(i >> 8), byte(i)}))
	}
}

// P1.3

func TestJoin(t *testing.T) {
	l := []lex.Token{word("a", 7), sign("!", 0), num("-5", -5, 3), {}, word("stop", 1)}
	before := slices.Clone(l)
	for n, want := range []string{"", "a", "a !", "a ! -5", "a ! -5 ", "a ! -5  stop"} {
		if got := lex.Join(l[:n]); got != want {
			t.Errorf("%d tokens: got %q, want %q", n, got, want)
		}
	}
	if got := lex.Join(nil); got != "" {
		t.Errorf("no tokens: got %q", got)
	}
	if !slices.Equal(l, before) {
		t.Errorf("the tokens were changed: %v", l)
	}
}

func TestJoinUsesTheTextsOnly(t *testing.T) {
	l := []lex.Token{{Kind: 9, Text: "x y", N: 4, At: -1}, {Kind: lex.Number, Text: "1", N: 2}}
	if got := lex.Join(l); got != "x y 1" {
		t.Errorf("got %q", got)
	}
}

func TestJoinOfATextWithCommentsAndBlanks(t *testing.T) {
	l, _ := lex.Tokens("def X(a: !3 int.end) = a!<-12>.stop; # end\n\tmain=X<c>;")
	if got := lex.Join(l); got != "def X ( a : ! 3 int . end ) = a ! < -12 > . stop ; main = X < c > ;" {
		t.Errorf("got %q", got)
	}
}

// P1.4

// sameButAt reports whether two lists of tokens are the same, except for At.
func sameButAt(a, b []lex.Token) bool {
	return slices.EqualFunc(a, b, func(x, y lex.Token) bool {
		x.At, y.At = 0, 0
		return x == y
	})
}

func wantStable(t *testing.T, s string) {
	t.Helper()
	l, f := lex.Tokens(s)
	if f != (api.Fault{}) {
		return
	}
	again, f := lex.Tokens(lex.Join(l))
	if f != (api.Fault{}) || !sameButAt(l, again) {
		t.Fatalf("%s: %v, joined and read again: %v %v", short(s), l, again, f)
	}
}

func TestJoinedTokensAreTheSame(t *testing.T) {
	for _, s := range []string{"", "# a", "a!<-5>.stop", "007-1a", "9223372036854775807-9223372036854775808", "rec t.!(?int.end).t+1#x\ny", strings.Repeat("a", api.MaxBytes), strings.Repeat("!", api.MaxBytes/2)} {
		wantStable(t, s)
	}
	eachText("aZ_019-#\n !", 5, func(s string) { wantStable(t, s) })
}

// A joined list may be longer than its text: then the limit of P1.1 applies to it.
func TestJoinedTokensMayExceedTheLimit(t *testing.T) {
	l, f := lex.Tokens(strings.Repeat("!", api.MaxBytes/2+1))
	if f != (api.Fault{}) {
		t.Fatal(f)
	}
	wantFault(t, lex.Join(l), api.ErrLimit, api.MaxBytes)
}
