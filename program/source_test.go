package program_test

import (
	"strconv"
	"strings"
	"testing"

	"duologue/api"
	"duologue/lex"
	"duologue/parse"
	"duologue/proctree"
	"duologue/program"
)

// P15.2 and P15.4, for texts that cannot be parsed, and in other layouts.

const (
	syntax = api.ErrSyntax
	limit  = api.ErrLimit
)

// wantUnparsed checks the results for a text that is no program.
func wantUnparsed(t *testing.T, text string, err api.Errno, at int) {
	t.Helper()
	want := api.Fault{Err: err, At: at}
	if _, fault := parse.Program(text); fault != want {
		t.Fatalf("%s: the text has the fault %v, not %v", short(text), fault, want)
	}
	p, fault := program.Source(text)
	if fault != want {
		t.Errorf("%s: got %v, want %v", short(text), fault, want)
	}
	if !isZero(p) {
		t.Errorf("%s: a program together with a fault: %v", short(text), p)
	}
	word := "syntax at "
	if err == limit {
		word = "limit at "
	}
	if got := program.Verdict(text); got != word+strconv.Itoa(at) {
		t.Errorf("%s: the verdict is %q, want %q", short(text), got, word+strconv.Itoa(at))
	}
}

func TestTextsThatAreNoPrograms(t *testing.T) {
	for _, x := range []struct {
		text string
		err  api.Errno
		at   int
	}{
		{"", syntax, 0}, {" ", syntax, 1}, {"# main = stop;", syntax, 14}, {"main", syntax, 4}, {"main =", syntax, 6}, {"main = stop", syntax, 11},
		{"stop", syntax, 0}, {"main = stop; main = stop;", syntax, 13}, {"main = stop;;", syntax, 12}, {"main = X;", syntax, 8}, {"main = (stop;", syntax, 12},
		{"main = a!<1>;", syntax, 12}, {"main = int;", syntax, 7}, {"def X() = stop;", syntax, 15}, {"def X = stop; main = stop;", syntax, 6},
		{"def main() = stop; main = stop;", syntax, 4}, {"main = stop; def X() = stop;", syntax, 13}, {"def X(a) = stop; main = stop;", syntax, 7},
		{"def X(a: !int.int) = stop; main = stop;", syntax, 14}, {"main = new (a, b: int) stop;", syntax, 18}, {"main = stop | ;", syntax, 14},
		// Tokens.
		{"main = stop; ?", syntax, 13}, {"main = stop; $", syntax, 13}, {"\x00main = stop;", syntax, 0}, {"main = st\u00f6p;", syntax, 9}, {"main = a!<01>.stop;", syntax, 11},
		{"main = a!<9223372036854775808>.stop;", limit, 10}, {"main = a!<-9223372036854775809>.stop;", limit, 10}, {"$ 9223372036854775808", syntax, 0}, {"9223372036854775808 $", limit, 0},
		// Numbers of types.
		{"main = new (a, b: !1000001 int.end) stop;", limit, 19}, {"main = new (a, b: rec t.!int.t+1000001) stop;", limit, 31}, {"main = new (a, b: !-1 int.end) stop;", syntax, 19},
		// Errors of names and types do not matter.
		{"def X() = Y<>; main = X<1> | a!<b>.stop", syntax, 39}, {"def X() = X<>; def X() = stop; mian = stop;", syntax, 31}, {"main = new (a, a: !int.end) a!<true>.stop; stop", syntax, 43},
	} {
		wantUnparsed(t, x.text, x.err, x.at)
	}
}

// Each list of the first tokens of a program is none, and has its fault at its end.
func TestBeginningsOfAProgram(t *testing.T) {
	text := "def X(a: rec t.!int.t+1) = a!<1>.X<a>; main = new (a, b: rec t.!7 int.t+1) (X<a> | b?(x).stop);"
	tokens, _ := lex.Tokens(text)
	for _, token := range tokens {
		wantUnparsed(t, text[:token.At], syntax, token.At)
	}
	wantBoth(t, text, in(linear, 1))
}

func TestTextsBeyondTheLimits(t *testing.T) {
	program := "main = stop;"
	wantBoth(t, program+strings.Repeat(" ", api.MaxBytes-len(program)), none)
	wantUnparsed(t, program+strings.Repeat(" ", api.MaxBytes-len(program)+1), limit, api.MaxBytes)
	wantUnparsed(t, strings.Repeat("$", api.MaxBytes+1), limit, api.MaxBytes)
	wantUnparsed(t, strings.Repeat("$", api.MaxBytes), syntax, 0)
	wantUnparsed(t, strings.Repeat(" ", api.MaxBytes), syntax, api.MaxBytes)
	// The depth of a process, and of a type.
	for _, x := range []struct{ text, part string }{
		{"def X(a: rec t.+{l: t+1}) = PART X<a>; main = stop;", "a.l."},
		{"main = PART stop;", "new (a#, b#: end) "},
		{"main = new (a, b: PART end) (stop | stop);", "!#int."},
		{"def X(a: PART end) = stop; main = stop;", "?#int."},
	} {
		deep := strings.Replace(x.text, "PART", list(99, x.part, ""), 1)
		if got := tree(t, deep); got.Main.Kind == 0 {
			t.Errorf("%s: no program", short(deep))
		}
		tooDeep := strings.Replace(x.text, "PART", list(100, x.part, ""), 1)
		wantUnparsed(t, tooDeep, limit, len(tooDeep))
		wrong := strings.Replace(x.text, "PART", list(100, x.part, ""), 1) + ";"
		wantUnparsed(t, wrong, syntax, len(wrong)-1)
	}
	// The size.
	large := "def X() = stop; main = " + strings.Repeat("stop|", 9997) + "stop;"
	if got := proctree.Total(tree(t, large)); got != api.MaxNodes {
		t.Errorf("the size is %d", got)
	}
	wantBoth(t, large, none)
	larger := strings.Replace(large, "stop|", "stop|stop|", 1)
	wantUnparsed(t, larger, limit, len(larger))
	larger = strings.Replace(large, "X()", "X(n: int)", 1)
	wantUnparsed(t, larger, limit, len(larger))
}

// P2: the results depend on the tree only, not on the layout.
func TestLayouts(t *testing.T) {
	for _, x := range []struct {
		text          string
		strict, loose api.Fault
	}{
		{"def X(a: !int.end) = a!<1>.stop; main = new (a, b: !4 int.end) (X<a> | b?(x).stop);", none, none},
		{"def X(a: !int.end) = a!<1>.stop; main = new (a, b: !4 int.end) (X<b> | a?(x).stop);", in(badType, 1), in(badType, 1)},
		{"def X(a: !int.end) = a!<1>.stop; main = new (a, b: !4 int.end) b?(x).X<a>;", in(badPrio, 1), none},
		{"def X(a: !int.end) = stop; main = Y<>;", in(name, 1), in(name, 1)},
		{"def X(a: rec t.t) = stop; main = stop;", in(shape, 0), in(shape, 0)},
	} {
		for _, layout := range []*strings.Replacer{
			strings.NewReplacer(" ", "\n"), strings.NewReplacer(" ", "\t # a comment; main = stop;\r\n"), strings.NewReplacer(";", " ; "), strings.NewReplacer(".stop", " . ((stop))"),
			strings.NewReplacer("!int", "! 0 int"), strings.NewReplacer("(X<", "(stop | (X<", "> |", ">) |"), strings.NewReplacer("main =", "# main\nmain ="), strings.NewReplacer("int.end", "int.(end)"),
		} {
			want(t, layout.Replace(x.text), x.strict, x.loose)
		}
		want(t, x.text, x.strict, x.loose)
	}
}

// list makes a text of numbered parts.
func list(n int, part, separator string) string {
	l := make([]string, n)
	for i := range l {
		l[i] = strings.ReplaceAll(part, "#", strconv.Itoa(i))
	}
	return strings.Join(l, separator)
}
