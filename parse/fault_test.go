package parse_test

import (
	"strings"
	"testing"

	"duologue/api"
	"duologue/parse"
	"duologue/proctree"
	"duologue/typetree"
)

// faultOf is the fault of a text as a type, a process or a program; with a fault, the tree must be zero, and otherwise not.
func faultOf(t *testing.T, rule, s string) api.Fault {
	t.Helper()
	var f api.Fault
	var zero bool
	switch rule {
	case "type":
		var tree api.Type
		tree, f = parse.Type(s)
		zero = typetree.Same(tree, api.Type{})
	case "process":
		var tree api.Proc
		tree, f = parse.Process(s)
		zero = proctree.Same(tree, api.Proc{})
	case "program":
		var tree api.Program
		tree, f = parse.Program(s)
		zero = proctree.SameProgram(tree, api.Program{})
	default:
		t.Fatalf("no rule %q", rule)
	}
	if zero != (f.Err != api.OK) || f.Err == api.OK && f.At != 0 {
		t.Errorf("%s as a %s: a zero tree: %t, with fault %v", short(s), rule, zero, f)
	}
	return f
}

func wantFault(t *testing.T, rule, s string, want api.Fault) {
	t.Helper()
	if got := faultOf(t, rule, s); got != want {
		t.Errorf("%s as a %s: got fault %v, want %v", short(s), rule, got, want)
	}
}

// wantFaults wants an error in each of some texts, at the place of the sign @ in it, which is taken away first.
func wantFaults(t *testing.T, rule string, err api.Errno, marked ...string) {
	t.Helper()
	for _, m := range marked {
		before, after, ok := strings.Cut(m, "@")
		if !ok || strings.Contains(after, "@") {
			t.Fatalf("%q has not one mark", m)
		}
		wantFault(t, rule, before+after, api.Fault{Err: err, At: len(before)})
	}
}

// P4.1: a token that cannot continue any text.

func TestTokensThatCannotContinueATypeOrPayload(t *testing.T) {
	wantFaults(t, "type", api.ErrSyntax,
		"@5", "@-5", "@.", "@)", "@}", "@stop", "@true", "@def", "@main", "@new", "@false", "@,", "@=", "@<int>",
		"int@.end", "bool@+1", "end@+1", "end@.end", "int @int", "t @u", "t+1@+1", "t+1@.end", "t+@t", "t+@+", "t+@{a: end}", "t+@-1", "t @-1", "t+@(1)",
		"(@int)", "(@bool)", "(@)", "(end@.end)", "((end)@.end)", "(end)@)", "(t)@+1", "(@5)",
		"!@.end", "!@!int.end.end", "!@?int.end.end", "!@+{a: end}.end", "!@&{a: end}.end", "!@rec t.end.end", "!(@int).end", "?(@bool).end", "!@stop.end", "!@true.end",
		"!int@;", "!int@,end", "!int @end", "!int.@int", "!int.@bool", "!int.@.", "!int.end@.end", "!(end)@!int.end", "!end@+1.end", "!t+1@+1.end", "!t+@u.end",
		"!3 @3 int.end", "!3@.end", "?0@1 int.end", "!@-3 int.end", "?@-1000001 int.end", "!3 @+{a: end}.end",
		"+@a", "+@(", "+@+", "+3@.", "+3 @3{a: end}", "+@-3{a: end}", "&@-1{a: end}", "+{@}", "+{@,", "+{a@}", "+{a@, b: end}", "+{a: @}", "+{a: @int}", "+{a: @bool}", "&{@int: end}", "&{@stop: end}", "&{@5: end}", "&{a@.end}", "&{a: end@;}", "&{a: end, @}", "&{a: end,@,", "&{a: end @b: end}", "&{a: end}@}", "&{a: end}@.end", "&{a: end}@+1",
		"rec @.end", "rec @rec.end", "rec @int.end", "rec @5.end", "rec t @end", "rec t@+1.end", "rec t.@int", "rec t.@.", "rec t.t@.t", "rec @(t).t")
}

func TestTokensThatCannotContinueAProcess(t *testing.T) {
	wantFaults(t, "process", api.ErrSyntax,
		"@5", "@true", "@int", "@end", "@def", "@main", "@rec", "@|", "@;", "@)", "@.", "@{", "@!",
		"stop @stop", "stop@.stop", "stop@;", "stop@)", "stop@,", "stop@}", "a @a", "a@;", "a@)", "a@:", "a@=", "a@|", "a@+", "a @5", "a@-5", "a @stop", "a@(b)", "a@>",
		"(@)", "(@|", "(stop@;", "(stop@,", "(stop)@(", "(stop)@.stop", "(stop)@)", "(stop @a", "(a@)",
		"a!@a", "a!@(", "a!@!", "a!@5", "a!<@>", "a!<@<", "a!<@stop", "a!<@int", "a!<@end", "a!<a@,", "a!<a@.", "a!<a@=", "a!<5 @5", "a!<true@;", "a!<a>@stop", "a!<a>@;", "a!<a>@|", "a!<a>@>", "a!<a>.@;", "a!<a>.@)", "a!<a>.@5", "a!<a>.@true", "a!<a>.@|",
		"a?@a", "a?@<", "a?(@)", "a?(@5", "a?(@true", "a?(@new", "a?(b@,", "a?(b@>", "a?(b@:", "a?(b)@stop", "a?(b).@.", "a?(b).@end",
		"a.@.", "a.@5", "a.@stop", "a.@(", "a.b @stop", "a.b@!", "a.b@<", "a.b@?", "a.b@|", "a.b@&", "a.b@;", "a.b.@5", "a.b.@|",
		"a&@a", "a&@(", "a&@<", "a&@5{", "a&{@}", "a&{@,", "a&{@5", "a&{@stop", "a&{@true", "a&{b@}", "a&{b@,", "a&{b@.", "a&{b@=", "a&{b:@}", "a&{b:@,", "a&{b: stop@;", "a&{b: stop@)", "a&{b: stop@:", "a&{b: stop, @}", "a&{b: stop, @,", "a&{b: stop |@}", "a&{b: stop}@}", "a&{b: stop}@.stop", "a&{b: (stop@, c: stop}",
		"new @a", "new @stop", "new @<", "new (@)", "new (@,", "new (@5", "new (@new", "new (a@)", "new (a@:", "new (a @a", "new (a@.", "new (a, @,", "new (a, @end", "new (a, b@)", "new (a, b@,", "new (a, b@=", "new (a, b: @int", "new (a, b: @bool", "new (a, b: @)", "new (a, b: @stop", "new (a, b: (@int", "new (a, b: end@,", "new (a, b: end@.", "new (a, b: t+1@+", "new (a, b: !@-1 int.end)", "new (a, b: end)@.", "new (a, b: end)@|", "new (a, b: end)@;", "new (a, b: end)@5",
		"X<@<", "X<@,", "X<@)", "X<@stop", "X<@int", "X<a @a", "X<a@)", "X<a@;", "X<a@.", "X<a, @>", "X<a, @,", "X<a, @end", "X<>@>", "X<>@.", "X<>@a", "X<a>@<", "X<>@;",
		"stop | @|", "stop | @;", "stop | @)", "stop |@5", "stop | stop@)", "stop | stop@;")
}

func TestTokensThatCannotContinueAProgram(t *testing.T) {
	wantFaults(t, "program", api.ErrSyntax,
		"@stop", "@a", "@;", "@5", "@X<>;", "@new", "@(main = stop;)", "main @main", "main @stop", "main@(", "main@:", "main =@=", "main =@;", "main =@5", "main = @def", "main = @main", "main = stop@)", "main = stop@.", "main = stop@,", "main = stop @main", "main = stop;@;", "main = stop; @main", "main = stop; @def", "main = stop; @stop", "main = stop; @5", "main = stop |@;", "main = (stop@;",
		"def @def", "def @main", "def @(", "def @5", "def @stop", "def X@=", "def X@<", "def X @Y", "def X@:", "def X@;", "def X(@(", "def X(@,", "def X(@5", "def X(@int", "def X(a@)", "def X(a@,", "def X(a@=", "def X(a @int", "def X(a:@)", "def X(a:@,", "def X(a:@5", "def X(a:@:", "def X(a:@stop", "def X(a: (@int", "def X(a: int@;", "def X(a: int@+", "def X(a: t+@-1", "def X(a: end@.", "def X(a: int,@)", "def X(a: int,@,", "def X(a: int, @end", "def X()@;", "def X()@stop", "def X()@)", "def X()@:", "def X() =@=", "def X() =@;", "def X() = @int", "def X() = stop@)", "def X() = stop@,", "def X() = stop @def", "def X() = stop @main",
		"def X() = stop; @stop", "def X() = stop; @X", "def X() = stop;@;", "def X() = stop; @(", "def X() = stop; main@;")
}

// Keywords are no names, wherever a name may stand.
func TestKeywordsAsNames(t *testing.T) {
	for _, k := range []string{"def", "main", "stop", "new", "int", "bool", "end", "rec", "true", "false"} {
		wantFaults(t, "type", api.ErrSyntax, "rec @"+k+".end", "+{@"+k+": end}", "&{a: end, @"+k+": end}")
		wantFaults(t, "process", api.ErrSyntax, "a?(@"+k+").stop", "a.@"+k+".stop", "a&{@"+k+": stop}", "a&{b: stop, @"+k+": stop}", "new (@"+k+", a: end) stop", "new (a, @"+k+": end) stop")
		wantFaults(t, "program", api.ErrSyntax, "def @"+k+"() = stop; main = stop;", "def X(@"+k+": int) = stop; main = stop;", "def X(a: int, @"+k+": int) = stop; main = stop;")
		switch k {
		case "true", "false":
			wantFaults(t, "type", api.ErrSyntax, "@"+k, "!@"+k+".end", "(@"+k+")")
			wantFaults(t, "process", api.ErrSyntax, "@"+k+"!<1>.stop", "@"+k+"<>")
		case "stop", "new":
			wantFaults(t, "process", api.ErrSyntax, k+"@!<1>.stop", k+"@?(a).stop", k+"@.a.stop", k+"@&{a: stop}", k+"@<>", "a!<@"+k+">.stop", "X<@"+k+">")
		default:
			wantFaults(t, "process", api.ErrSyntax, "@"+k+"!<1>.stop", "@"+k+"?(a).stop", "@"+k+".a.stop", "@"+k+"&{a: stop}", "@"+k+"<>", "a!<@"+k+">.stop", "X<@"+k+">", "X<a, @"+k+">")
		}
	}
}

// P4.1: texts that are beginnings only.

func TestTextsThatAreBeginningsOnly(t *testing.T) {
	wantFaults(t, "type", api.ErrSyntax,
		"!@", "!3@", "!int@", "!int.@", "!t+@", "!t+1@", "!(@", "!(end@", "!(end)@", "?@", "+@", "+3@", "+{@", "+{a@", "+{a:@", "+{a: end@", "+{a: end,@", "+{a: end, b@", "&@", "&{@", "rec@", "rec t@", "rec t.@", "t+@", "(@", "((t@", "((t)@")
	wantFaults(t, "process", api.ErrSyntax,
		"a@", "a!@", "a!<@", "a!<1@", "a!<1>@", "a!<1>.@", "a?@", "a?(@", "a?(b@", "a?(b)@", "a?(b).@", "a.@", "a.b@", "a.b.@", "a&@", "a&{@", "a&{b@", "a&{b:@", "a&{b: stop@", "a&{b: stop,@", "new@", "new (@", "new (a@", "new (a,@", "new (a, b@", "new (a, b:@", "new (a, b: end@", "new (a, b: end)@", "(@", "(stop@", "(stop | stop@", "stop |@", "X<@", "X<a@", "X<a,@")
	wantFaults(t, "program", api.ErrSyntax,
		"main@", "main =@", "main = stop@", "def@", "def X@", "def X(@", "def X(a@", "def X(a:@", "def X(a: int@", "def X(a: int,@", "def X()@", "def X() =@", "def X() = stop@", "def X() = stop;@", "def X() = stop; def@", "def X() = stop; main = X<>@")
}

func TestTheLengthOfATextIsBehindItsBlanksAndComments(t *testing.T) {
	wantFaults(t, "type", api.ErrSyntax, "! int . \n@", "rec # a type\n\n # of its own@", "\t!3\r@")
	wantFaults(t, "process", api.ErrSyntax, "a!<1> @", "a!<1>. # stop@", "(stop # )\n@")
	wantFaults(t, "program", api.ErrSyntax, "main = stop # ;@", "def X() = stop;\n\n@")
	wantFaults(t, "program", api.ErrSyntax, "main = stop; # ;\n@;", "# main\n @stop", " main = # a\n  # b\n\t@5")
}

func TestEmptyTexts(t *testing.T) {
	for _, rule := range []string{"type", "process", "program"} {
		wantFaults(t, rule, api.ErrSyntax, "@", " @", "\n\t\r @", "#@", "# int\n@", "# stop\n# main = stop;@")
	}
}

// Each rule permits texts of its own only.
func TestTextsOfOtherRules(t *testing.T) {
	wantFaults(t, "type", api.ErrSyntax, "@stop", "@new (a, b: end) stop", "@main = stop;", "a@!<1>.stop", "a@.b.stop", "a@&{b: stop}", "(a@<>)")
	wantFaults(t, "process", api.ErrSyntax, "@int", "@end", "@rec t.t", "@!int.end", "@main = stop;", "@def X() = stop; main = stop;", "t@", "t@+1", "stop@;")
	wantFaults(t, "program", api.ErrSyntax, "@stop", "@int", "@!int.end", "@a.b.stop", "@(main = stop;)")
}

// P4.1: the faults of tokens come first, wherever they are.

func TestFaultsOfTokens(t *testing.T) {
	for _, rule := range []string{"type", "process", "program"} {
		wantFaults(t, rule, api.ErrSyntax, "@$", "@-", "@-0", "@\x00", "@é", ") ) @%", "main = stop;@$", "!int.end@$", "a.b.stop @'", "!1000001 @$ int.end", "@* 9223372036854775808")
		wantFaults(t, rule, api.ErrLimit, "@9223372036854775808", "@-9223372036854775809", ") ) @9223372036854775808", "!1000001 int.@99999999999999999999", "X<@9223372036854775808>", "main = stop; @9223372036854775808 $")
		tooLong := api.Fault{Err: api.ErrLimit, At: api.MaxBytes}
		wantFault(t, rule, strings.Repeat(" ", api.MaxBytes+1), tooLong)
		wantFault(t, rule, strings.Repeat("$", api.MaxBytes+1), tooLong)
		wantFault(t, rule, strings.Repeat(")", api.MaxBytes+1), tooLong)
		wantFault(t, rule, strings.Repeat("(", api.MaxBytes+1000), tooLong)
		wantFault(t, rule, strings.Repeat(" ", api.MaxBytes-1)+"$", api.Fault{Err: api.ErrSyntax, At: api.MaxBytes - 1})
		wantFault(t, rule, strings.Repeat(" ", api.MaxBytes), api.Fault{Err: api.ErrSyntax, At: api.MaxBytes})
	}
	wantType(t, strings.Repeat(" ", api.MaxBytes-3)+"int", tint)
	wantProcess(t, "stop"+strings.Repeat("\n", api.MaxBytes-4), stop)
	wantProgram(t, "main=stop;#"+strings.Repeat("$", api.MaxBytes-11), prog(stop))
}

// P4.1: Numbers of types.

func TestNumbersOfTypesThatAreTooGreat(t *testing.T) {
	wantFaults(t, "type", api.ErrLimit,
		"!@1000001 int.end", "?@1000001 int.end", "+@1000001{a: end}", "&@1000001{a: end}", "t+@1000001", "!t+@1000001.end", "!@9223372036854775807 int.end",
		"!1000000 (?@1000001 int.end).end", "!1000000 int.+{a: end, b: t+@1000001}", "rec t.rec u.t+ @2000000", "((&@1000001{a: end}))",
		"!@1000001", "t+@1000001", "!@1000001 ;", "!@1000001 # int.end")
	wantFaults(t, "process", api.ErrLimit, "new (a, b: !@1000001 int.end) stop", "X<> | new (a, b: t+@1000001) (stop | stop)", "new (a, b: !@1000001", "c.d.new (a, b: &{a: +@1000001{b: end}}) stop")
	wantFaults(t, "program", api.ErrLimit, "def X(a: !@1000001 int.end) = stop; main = stop;", "def X(a: int, b: t+@1000001) = stop; main = stop;", "main = new (a, b: t+@1000001) stop;")
}

func TestTheFirstOfSyntaxAndNumbers(t *testing.T) {
	wantFaults(t, "type", api.ErrLimit, "!@1000001 int end", "!@1000001 1000001", "t+@1000001 )", "!@1000001 -5", "+@1000001{a: int}", "+{a: t+@1000001, b: int}")
	wantFaults(t, "type", api.ErrSyntax, "! @, 1000001", "!int @1000001", "!5 @1000001 int.end", "@1000001", "t @1000001", "+{@1000001: end}", "rec @1000001.t", "!@-1000001 int.end", "!@-1 t+1000001.end", "!(@1000001).end", "+{a: @int, b: t+1000001}")
	wantFaults(t, "process", api.ErrLimit, "new (a, b: !@1000001 int.end) ;", "new (a, b: t+@1000001 stop")
	wantFaults(t, "process", api.ErrSyntax, "new (a @b: t+1000001) stop", "a!<1000001>@;", "@1000001", "a!@1000001", "a&{@1000001: stop}", "stop @new (a, b: t+1000001) stop")
	wantFaults(t, "program", api.ErrLimit, "def X(a: t+@1000001) = stop main")
	wantFaults(t, "program", api.ErrSyntax, "def X(a: int) = stop @main = new (a, b: t+1000001) stop;", "main = stop; @1000001")
}
