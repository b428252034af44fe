package show_test

import (
	"strings"
	"testing"

	"duologue/api"
	"duologue/lex"
	"duologue/parse"
	"duologue/proctree"
	"duologue/show"
)

// wantTree wants the tidied text of a program to have the same tree as the text, and to be the text of this tree.
func wantTree(t *testing.T, s string) {
	t.Helper()
	tree, f := parse.Program(s)
	if f != (api.Fault{}) {
		t.Fatalf("%s: fault %v", short(s), f)
	}
	tidied, f := show.Tidy(s)
	if f != (api.Fault{}) || tidied != show.Program(tree) {
		t.Errorf("%s: got %s and fault %v", short(s), short(tidied), f)
	}
	if again, f := parse.Program(tidied); f != (api.Fault{}) || !proctree.SameProgram(again, tree) {
		t.Errorf("%s: the tidied text has another tree, with fault %v", short(s), f)
	}
	wantTidy(t, tidied, tidied)
}

// P5.2 and P5.3: texts with blanks, comments and parentheses.

func TestTidiedTexts(t *testing.T) {
	for _, x := range [][2]string{
		{"main=stop;", "main = stop;\n"},
		{"main = stop;\n", "main = stop;\n"},
		{"main = stop;", "main = stop;\n"},
		{"\t\r\n main\n=\n\n stop ; \n\n", "main = stop;\n"},
		{"# a\nmain = # b\n stop # ; \n; # c", "main = stop;\n"},
		{"main = (((stop)));", "main = stop;\n"},
		{"main = (stop) | (X<>);", "main = stop | X<>;\n"},
		{"main = (stop | (X<> | (stop))) | (Y<> | stop);", "main = stop | X<> | stop | Y<> | stop;\n"},
		{"main=a!<-1>.(stop);", "main = a!<-1>.stop;\n"},
		{"main=a ! < b > . ( ( stop ) | X < > );", "main = a!<b>.(stop | X<>);\n"},
		{"main = a?(b).(c.d.(stop));", "main = a?(b).c.d.stop;\n"},
		{"main = a&{b:(stop|X<>),c:((stop))};", "main = a&{b: stop | X<>, c: stop};\n"},
		{"main = new(a,b:(end))(stop);", "main = new (a, b: end) stop;\n"},
		{"main = new(a,b:!0(int0+0).(?1int.end))stop;", "main = new (a, b: !int0.?1 int.end) stop;\n"},
		{"main = new (a, b: !3int.+0{c:(end),d:&4 { e : (rec t.(t+0))}}) (a!<1>.stop | X<a,b , 0,true>);", "main = new (a, b: !3 int.+{c: end, d: &4{e: rec t.t}}) (a!<1>.stop | X<a, b, 0, true>);\n"},
		{"main = new (a, b: !(end).?((t)).!(t+1).?(((!int.end))).end) stop;", "main = new (a, b: !end.?t.!t+1.?(!int.end).end) stop;\n"},
		{"def X()=stop;main=X<>;", "def X() = stop;\nmain = X<>;\n"},
		{"def X(a:int,b:(!0 int.end))=(stop);def Y(c:bool)=b!<true>.(stop);main=(X<1,c>);", "def X(a: int, b: !int.end) = stop;\ndef Y(c: bool) = b!<true>.stop;\nmain = X<1, c>;\n"},
		{"# X\ndef X ( a : end ) =\n  stop # no\n; # Y\n\ndef Y() = X<a>;main\n= stop;", "def X(a: end) = stop;\ndef Y() = X<a>;\nmain = stop;\n"},
		{"main = X<9223372036854775807, -9223372036854775808, 0>;", "main = X<9223372036854775807, -9223372036854775808, 0>;\n"},
		{"main = new (a, b: !1000000 int.&1000000{a: t+1000000}) stop;", "main = new (a, b: !1000000 int.&1000000{a: t+1000000}) stop;\n"},
		{"main = new (a, b: rec t.rec t.u+1) a&{c: stop, c: stop}; #", "main = new (a, b: rec t.rec t.u+1) a&{c: stop, c: stop};\n"},
		{"def X(a: end, a: t) = X<a>; def X() = stop; main = Y<b>;", "def X(a: end, a: t) = X<a>;\ndef X() = stop;\nmain = Y<b>;\n"},
		{"main = new (a, b: !int.end) (a!<1>.stop | b?(x).stop);", "main = new (a, b: !int.end) (a!<1>.stop | b?(x).stop);\n"},
		{"main = new (a, b: !1 int.end) new (c, d: !2 int.end) ((a!<1>.(c!<2>.(stop)))|(d?(y).b?(x).stop));# example 2 of DOC.md\r\n", "main = new (a, b: !1 int.end) new (c, d: !2 int.end) (a!<1>.c!<2>.stop | d?(y).b?(x).stop);\n"},
	} {
		wantTidy(t, x[0], x[1])
		wantTree(t, x[0])
	}
}

// laidOut joins tokens, each with a text behind it.
func laidOut(tokens []lex.Token, behind func() string) string {
	var b strings.Builder
	for _, token := range tokens {
		b.WriteString(token.Text + behind())
	}
	return b.String()
}

// The text between tokens does not change the tidied text.
func TestLayoutsAreTidied(t *testing.T) {
	m := newMaker(2)
	gaps := [...]string{" ", "\n", "\t", "\r", "   \r\n\t ", "# a comment\n", "#\n", " # stop ( ! $ \x00\n\t# ; é\n"}
	for range 1000 {
		want := programText(m.program())
		tokens, f := lex.Tokens(want)
		if f != (api.Fault{}) {
			t.Fatalf("%s: fault %v", short(want), f)
		}
		gap := gaps[m.IntN(len(gaps))]
		wantTidy(t, gap+laidOut(tokens, func() string { return gap }), want)
		wantTidy(t, laidOut(tokens, func() string { return gaps[m.IntN(len(gaps))] }), want)
	}
}

// P5.2: texts that cannot be parsed.

// wantFault wants a fault of a text, which is that of parsing, and no tidied text.
func wantFault(t *testing.T, s string, want api.Fault) {
	t.Helper()
	if got, f := show.Tidy(s); got != "" || f != want {
		t.Errorf("%s: got %s and fault %v, want %v", short(s), short(got), f, want)
	}
	if _, f := parse.Program(s); f != want {
		t.Errorf("%s: the fault of parsing is %v, not %v", short(s), f, want)
	}
}

// wantFaults wants an error in each of some texts, at the place of the sign @ in it, which is taken away first.
func wantFaults(t *testing.T, err api.Errno, marked ...string) {
	t.Helper()
	for _, m := range marked {
		before, after, _ := strings.Cut(m, "@")
		wantFault(t, before+after, api.Fault{Err: err, At: len(before)})
	}
}

func TestFaultsOfTokens(t *testing.T) {
	wantFaults(t, api.ErrSyntax, "@$", "main = stop;@-", "main = stop; @\x00", "main = stop; # é\n@é", "main = @-0;")
	wantFaults(t, api.ErrLimit, "main = X<@9223372036854775808>;", "@-9223372036854775809 $", ") main @99999999999999999999")
	wantFault(t, strings.Repeat(" ", api.MaxBytes+1), api.Fault{Err: api.ErrLimit, At: api.MaxBytes})
	wantFault(t, "main = stop;"+strings.Repeat(" ", api.MaxBytes), api.Fault{Err: api.ErrLimit, At: api.MaxBytes})
	wantTidy(t, "main = stop;"+strings.Repeat(" ", api.MaxBytes-12), "main = stop;\n")
}

func TestFaultsOfTheGrammar(t *testing.T) {
	wantFaults(t, api.ErrSyntax,
		"@stop", "@;", "main @stop;", "main = @;", "main = stop;@;", "main = stop; @main", "main = a!<1>@;", "main = a@;", "main = X<1,@>;", "main = a&{@};", "main = new (a, b: @int) stop;", "main = stop |@;",
		"def @main = stop;", "def X @= stop;", "def X(a: int,@) = stop;", "def X() = stop; @stop;", "def X() = stop;@; main = stop;", "main = new (a, b: !@-1 int.end) stop;")
	wantFaults(t, api.ErrSyntax, "@", " \n@", "# main = stop;@", "main@", "main = stop@", "def X() = stop; @", "def X(a: !int@", "main = a!<1>.@", "main = (stop@", "main = stop # ;@")
}

func TestFaultsOfNumbersOfTypes(t *testing.T) {
	wantFaults(t, api.ErrLimit,
		"main = new (a, b: !@1000001 int.end) stop;", "def X(a: t+@1000001) = stop; main = stop;", "main = new (a, b: +@1000001{a: end}) ;", "def X(a: &@9223372036854775807")
	wantFaults(t, api.ErrSyntax, "main = @; new (a, b: !1000001 int.end) stop;", "main = new (a, b: !int @1000001.end) stop;")
}

func TestFaultsOfTreesThatAreTooLarge(t *testing.T) {
	for _, s := range []string{
		"main = " + strings.Repeat("a.b.", 100) + "stop;",
		"def X() = " + strings.Repeat("a?(b).", 100) + "stop; main = stop;",
		"main = new (a, b: " + strings.Repeat("!int.", 100) + "end) stop;",
		"def X(a: " + strings.Repeat("rec t.", 100) + "t) = stop; main = stop;",
		"main = stop" + strings.Repeat("|X<>", 10000) + "; # wide",
		"def X(a: " + strings.Repeat("!t.", 99) + "end) = X<>" + strings.Repeat("|X<>", 9799) + "; main = stop;",
	} {
		wantFault(t, s, api.Fault{Err: api.ErrLimit, At: len(s)})
	}
}
