package parse_test

import (
	"strings"
	"testing"

	"duologue/api"
	"duologue/parse"
	"duologue/proctree"
	"duologue/typetree"
)

// layers puts a text n times around another one.
func layers(before string, n int, inner, after string) string {
	return strings.Repeat(before, n) + inner + strings.Repeat(after, n)
}

// wantLimit wants ErrLimit at the length of a text, also with blanks and a comment behind it.
func wantLimit(t *testing.T, rule, s string) {
	t.Helper()
	for _, text := range []string{s, s + " # the end"} {
		wantFault(t, rule, text, api.Fault{Err: api.ErrLimit, At: len(text)})
	}
}

func wantNoFault(t *testing.T, rule, s string) {
	t.Helper()
	wantFault(t, rule, s, api.Fault{})
}

// nest is a way of making texts deeper by a level, where inside is what stands innermost.
type nest struct {
	before, inside, after string
}

func typeNests() []nest {
	return []nest{
		{"!int.", "end", ""}, {"?3 t+1.", "t", ""}, {"!(", "end", ").end"}, {"?(", "t+1", ").t"}, {"rec t.", "end", ""}, {"(rec t.", "t+2", ")"},
		{"+{a: ", "end", "}"}, {"&5{a: end, b: ", "end", ", c: t}"}, {"+{a: ", "end", ", b: end}"}, {"((!int.", "end", "))"},
	}
}

// P4.1: depths.

func TestDepthsOfTypes(t *testing.T) {
	for _, n := range typeNests() {
		s := layers(n.before, api.MaxDepth-1, n.inside, n.after)
		wantNoFault(t, "type", s)
		if tree, _ := parse.Type(s); typetree.Depth(tree) != api.MaxDepth {
			t.Errorf("%s has the depth %d", short(s), typetree.Depth(tree))
		}
		wantLimit(t, "type", layers(n.before, api.MaxDepth, n.inside, n.after))
		wantLimit(t, "type", layers(n.before, api.MaxDepth+1, n.inside, n.after))
	}
	wantLimit(t, "type", layers("!t.", 20000, "end", ""))
	wantLimit(t, "type", layers("!(", 12000, "end", ").t"))
	wantLimit(t, "type", layers("+{a:", 13000, "t", "}"))
}

func TestDepthsOfTypesInProcessesAndPrograms(t *testing.T) {
	for _, n := range typeNests() {
		good, bad := layers(n.before, api.MaxDepth-1, n.inside, n.after), layers(n.before, api.MaxDepth, n.inside, n.after)
		for _, s := range []string{
			"new (a, b: @) stop", "stop | new (a, b: end) new (c, d: @) X<>", "a&{b: stop, c: d.e.new (a, b: (@)) stop}", "a!<1>.new (a, b: @) stop", "a?(b).(X<> | new (a, b: @) stop)",
		} {
			wantNoFault(t, "process", strings.Replace(s, "@", good, 1))
			wantLimit(t, "process", strings.Replace(s, "@", bad, 1))
			wantNoFault(t, "program", "def X() = "+strings.Replace(s, "@", good, 1)+"; main = stop;")
			wantLimit(t, "program", "def X() = "+strings.Replace(s, "@", bad, 1)+"; main = stop;")
			wantNoFault(t, "program", "def X() = stop; main = "+strings.Replace(s, "@", good, 1)+";")
			wantLimit(t, "program", "def X() = stop; main = "+strings.Replace(s, "@", bad, 1)+";")
		}
		wantNoFault(t, "program", "def X(a: "+good+") = stop; def Y(a: int, b: "+good+") = stop; main = stop;")
		wantLimit(t, "program", "def X(a: "+bad+") = stop; main = stop;")
		wantLimit(t, "program", "def X(a: int, b: "+bad+", c: int) = stop; main = stop;")
		wantLimit(t, "program", "def X() = stop; def Y(a: "+bad+") = stop; def Z() = stop; main = stop;")
	}
}

// The depth of a process does not count that of its types.
func TestDepthsOfTypesAndProcessesAreNotAdded(t *testing.T) {
	deep := layers("!int.", api.MaxDepth-1, "end", "")
	wantNoFault(t, "process", layers("a.b.", api.MaxDepth-2, "new (a, b: "+deep+") stop", ""))
	wantLimit(t, "process", layers("a.b.", api.MaxDepth-1, "new (a, b: end) stop", ""))
	wantNoFault(t, "program", "def X(a: "+deep+") = "+layers("a.b.", api.MaxDepth-1, "stop", "")+"; main = "+layers("a.b.", api.MaxDepth-1, "stop", "")+";")
}

func procNests() []nest {
	return []nest{
		{"a!<1>.", "stop", ""}, {"a?(b).", "X<a, b>", ""}, {"a.b.", "stop", ""}, {"a&{b: ", "stop", "}"}, {"a&{b: stop, c: (", "stop", "), d: stop}"},
		{"new (a, b: !int.end) ", "stop", ""}, {"(a.b.", "stop", ")"}, {"((a!<b>.((", "stop", "))))"},
	}
}

func TestDepthsOfProcesses(t *testing.T) {
	for _, n := range procNests() {
		good := layers(n.before, api.MaxDepth-1, n.inside, n.after)
		bad := layers(n.before, api.MaxDepth, n.inside, n.after)
		wantNoFault(t, "process", good)
		if tree, _ := parse.Process(good); proctree.Depth(tree) != api.MaxDepth {
			t.Errorf("%s has the depth %d", short(good), proctree.Depth(tree))
		}
		wantLimit(t, "process", bad)
		wantNoFault(t, "program", "def X(a: int) = "+good+"; def Y() = "+good+"; main = "+good+";")
		wantLimit(t, "program", "main = "+bad+";")
		wantLimit(t, "program", "def X(a: int) = "+bad+"; main = stop;")
		wantLimit(t, "program", "def X() = stop; def Y() = "+bad+"; def Z() = stop; main = stop;")
		wantLimit(t, "process", "stop | "+good)
		wantNoFault(t, "process", "stop | "+layers(n.before, api.MaxDepth-2, n.inside, n.after))
		wantNoFault(t, "process", layers(n.before, api.MaxDepth-2, "(stop | X<>)", n.after))
		wantLimit(t, "process", layers(n.before, api.MaxDepth-1, "(stop | X<>)", n.after))
	}
	wantLimit(t, "process", layers("a.b.", 16000, "stop", ""))
	wantLimit(t, "process", layers("a&{b:", 9000, "stop", "}"))
	wantLimit(t, "process", layers("new(a,b:t)", 6000, "stop", ""))
	wantLimit(t, "process", layers("a.b.(X<>|", 6000, "stop", ")"))
}

// A composition is one level, however many parentheses its text has.
func TestDepthsOfCompositions(t *testing.T) {
	wantNoFault(t, "process", layers("a.b.(X<> | ", 49, "a.b.stop", ")"))
	wantNoFault(t, "process", layers("a.b.((X<> | (", 49, "(a.b.stop)", ")))"))
	wantLimit(t, "process", layers("a.b.(X<> | ", 49, "a.b.c.d.stop", ")"))
	wantLimit(t, "process", layers("a.b.(X<> | ", 50, "stop", ")"))
	wantNoFault(t, "process", layers("(X<> | ", 2000, "a.b.stop", ")"))
	wantNoFault(t, "process", layers("(", 2000, "a.b.stop", " | X<>)"))
	wantNoFault(t, "process", layers("(X<> | (", 1000, "X<>", ") | X<>)"))
	wantNoFault(t, "process", layers("(X<> | ", 2000, layers("a.b.", 98, "stop", ""), ")"))
	wantLimit(t, "process", layers("(X<> | ", 2000, layers("a.b.", 99, "stop", ""), ")"))
}

func TestNestsOfParentheses(t *testing.T) {
	for _, n := range []int{99, 100, 101, 1001, 32766} {
		wantType(t, layers("(", n, "end", ")"), tend)
		wantProcess(t, layers("(", n, "stop", ")"), stop)
	}
	wantType(t, "!"+layers("(", 10000, "t+1", ")")+"."+layers("(", 10000, "end", ")"), exchange(api.TSend, 0, tvar("t", 1), tend))
	wantType(t, "+{a: "+layers("(", 10000, "rec t."+layers("(", 5000, "t", ")"), ")")+"}", choice(api.TSelect, 0, "a", trec("t", tvar("t", 0))))
	wantType(t, layers("(", 10000, layers("!int.(", 99, "end", ")"), ")"), deepType(api.MaxDepth))
	wantProcess(t, "a.b."+layers("(", 10000, "X<>", ")"), sel("a", "b", call("X")))
	wantProcess(t, "X<> | "+layers("(", 10000, "stop | Y<>", ")")+" | "+layers("(", 10000, "stop", ")"), par(call("X"), stop, call("Y"), stop))
	wantProcess(t, "new (a, b: "+layers("(", 10000, "end", ")")+") "+layers("(", 10000, "stop", ")"), scope("a", "b", tend, stop))
	wantProgram(t, "def X(a: "+layers("(", 5000, "end", ")")+") = "+layers("(", 5000, "stop", ")")+"; main = "+layers("(", 5000, "stop", ")")+";", prog(stop, def("X", stop, param("a", tend))))
	wantFault(t, "type", strings.Repeat("(", api.MaxBytes), api.Fault{Err: api.ErrSyntax, At: api.MaxBytes})
	wantFault(t, "process", strings.Repeat("(", api.MaxBytes), api.Fault{Err: api.ErrSyntax, At: api.MaxBytes})
	wantFault(t, "process", layers("(", 30000, "stop", ")")+")", api.Fault{Err: api.ErrSyntax, At: 60004})
}

// deepType is a type of the given depth.
func deepType(depth int) api.Type {
	u := tend
	for range depth - 1 {
		u = exchange(api.TSend, 0, tint, u)
	}
	return u
}

// P4.1: sizes.

// typeOfSize is the text of a type with the given number of nodes (2 or more).
func typeOfSize(size int) string {
	var b strings.Builder
	b.WriteString("+{")
	sep := ""
	for left := size - 1; left > 0; sep = "," {
		// A rest has an odd number of nodes, or one TRec more.
		n := min(left, 101)
		b.WriteString(sep + "a:" + strings.Repeat("rec t.", 1-n%2) + strings.Repeat("!t.", (n-1)/2) + "t")
		left -= n
	}
	b.WriteString("}")
	return b.String()
}

// processOfSize is the text of a composition with the given number of nodes (3 or more).
func processOfSize(size int) string {
	return strings.TrimPrefix(strings.Repeat("|X<>", size-1), "|")
}

func TestSizesOfTypes(t *testing.T) {
	for _, size := range []int{2, 3, 50, 102, 103, 104, 9999, 10000} {
		s := typeOfSize(size)
		wantNoFault(t, "type", s)
		if tree, _ := parse.Type(s); typetree.Size(tree) != size {
			t.Errorf("%s has %d nodes, not %d", short(s), typetree.Size(tree), size)
		}
	}
	for _, size := range []int{10001, 10002, 20000} {
		wantLimit(t, "type", typeOfSize(size))
	}
	wantNoFault(t, "type", layers("(", 1000, typeOfSize(10000), ")"))
	wantNoFault(t, "type", "rec t."+typeOfSize(9999))
	wantLimit(t, "type", "rec t."+typeOfSize(10000))
	wantNoFault(t, "type", "!("+typeOfSize(5000)+")."+typeOfSize(4999))
	wantLimit(t, "type", "!("+typeOfSize(5000)+")."+typeOfSize(5000))
}

func TestSizesOfProcesses(t *testing.T) {
	for _, size := range []int{3, 9999, 10000} {
		s := processOfSize(size)
		wantNoFault(t, "process", s)
		if tree, _ := parse.Process(s); proctree.Size(tree) != size {
			t.Errorf("%s has %d nodes, not %d", short(s), proctree.Size(tree), size)
		}
	}
	wantLimit(t, "process", processOfSize(10001))
	wantNoFault(t, "process", "a&{b: "+processOfSize(5000)+", c: "+processOfSize(4999)+"}")
	wantLimit(t, "process", "a&{b: "+processOfSize(5000)+", c: "+processOfSize(5000)+"}")
	wantNoFault(t, "process", "a!<1>.("+processOfSize(9999)+")")
	wantLimit(t, "process", "a!<1>.("+processOfSize(10000)+")")
}

// A PNew is a node, and its type adds its own ones.
func TestSizesWithTypes(t *testing.T) {
	wantNoFault(t, "process", "new (a, b: "+typeOfSize(9998)+") stop")
	wantLimit(t, "process", "new (a, b: "+typeOfSize(9999)+") stop")
	wantNoFault(t, "process", "new (a, b: end) ("+processOfSize(9998)+")")
	wantLimit(t, "process", "new (a, b: end) ("+processOfSize(9999)+")")
	wantNoFault(t, "process", "new (a, b: "+typeOfSize(5000)+") new (c, d: "+typeOfSize(4997)+") stop")
	wantLimit(t, "process", "new (a, b: "+typeOfSize(5000)+") new (c, d: "+typeOfSize(4998)+") stop")
}

func TestSizesOfPrograms(t *testing.T) {
	wantNoFault(t, "program", "main = "+processOfSize(10000)+";")
	wantLimit(t, "program", "main = "+processOfSize(10001)+";")
	wantNoFault(t, "program", "def X() = "+processOfSize(9999)+"; main = stop;")
	wantLimit(t, "program", "def X() = "+processOfSize(10000)+"; main = stop;")
	wantNoFault(t, "program", "def X(a: "+typeOfSize(9998)+") = stop; main = stop;")
	wantLimit(t, "program", "def X(a: "+typeOfSize(9999)+") = stop; main = stop;")
	wantLimit(t, "program", "def X(a: int, b: "+typeOfSize(9998)+") = stop; main = stop;")
	wantNoFault(t, "program", "main = new (a, b: "+typeOfSize(9998)+") stop;")
	wantLimit(t, "program", "main = new (a, b: "+typeOfSize(9999)+") stop;")
	parts := func(n int) string {
		return "def X(a: " + typeOfSize(2000) + ", b: int) = " + processOfSize(2000) + "; def Y() = new (a, b: " + typeOfSize(2000) + ") stop; def Z(a: end) = " + processOfSize(1000) + "; main = new (a, b: end) (" + processOfSize(n) + ");"
	}
	// 2000 + 1 + 2000, 1 + 2000 + 1, 1 + 1000, and 1 + 1 + n
	wantNoFault(t, "program", parts(10000-4001-2002-1001-2))
	wantLimit(t, "program", parts(10001-4001-2002-1001-2))
}

// P4.1: the limits come last.

func TestSyntaxComesBeforeLimitsOfTrees(t *testing.T) {
	deep := layers("a.b.", 200, "stop", "")
	wantFaults(t, "process", api.ErrSyntax, deep+" @stop", deep+"@;", "("+deep+"@", processOfSize(10001)+" | @|", layers("a.b.", 16000, "@", ""))
	wantFaults(t, "process", api.ErrLimit, deep+" | new (a, b: t+@1000001) stop")
	wantFaults(t, "program", api.ErrSyntax, "main = "+deep+";@;", "main = "+deep+"@", "def X() = "+deep+"; main = stop@)")
	wide := layers("!int.", 200, "end", "")
	wantFaults(t, "type", api.ErrSyntax, wide+"@.end", "("+wide+"@", typeOfSize(10001)+"@+1", layers("!t.", 20000, "@", ""))
	wantFaults(t, "type", api.ErrLimit, wide[:len(wide)-3]+"!@1000001 int.end")
}
