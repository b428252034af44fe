package show_test

import (
	"strconv"
	"strings"
	"testing"

	"duologue/api"
	"duologue/parse"
	"duologue/proctree"
	"duologue/show"
	"duologue/typetree"
)

// typeLevels are ways of putting a type into another one, a level each, with the texts around it.
func typeLevels() map[[2]string]func(api.Type) api.Type {
	return map[[2]string]func(api.Type) api.Type{
		{"!int.", ""}:                 func(t api.Type) api.Type { return tsend(0, tint, t) },
		{"?3 t+1.", ""}:               func(t api.Type) api.Type { return trecv(3, tvar("t", 1), t) },
		{"!(", ").end"}:               func(t api.Type) api.Type { return tsend(0, t, tend) },
		{"?9 (", ").end"}:             func(t api.Type) api.Type { return trecv(9, t, tend) },
		{"+{a: ", "}"}:                func(t api.Type) api.Type { return tselect(0, "a", t) },
		{"&5{a: end, b: ", ", c: t}"}: func(t api.Type) api.Type { return tbranch(5, "a b c", tend, t, tvar("t", 0)) },
		{"rec t.", ""}:                func(t api.Type) api.Type { return trec("t", t) },
	}
}

// procLevels are ways of putting a process into another one, a level each.
func procLevels() map[[2]string]func(api.Proc) api.Proc {
	return map[[2]string]func(api.Proc) api.Proc{
		{"a!<-1>.", ""}:                  func(p api.Proc) api.Proc { return send("a", num(-1), p) },
		{"a?(b).", ""}:                   func(p api.Proc) api.Proc { return recv("a", "b", p) },
		{"a.b.", ""}:                     func(p api.Proc) api.Proc { return sel("a", "b", p) },
		{"a&{b: ", "}"}:                  func(p api.Proc) api.Proc { return branch("a", "b", p) },
		{"a&{b: stop, c: ", ", d: X<>}"}: func(p api.Proc) api.Proc { return branch("a", "b c d", stop, p, call("X")) },
		{"new (a, b: !int.end) ", ""}:    func(p api.Proc) api.Proc { return scope("a", "b", tsend(0, tint, tend), p) },
	}
}

// nested puts a tree n times into another one.
func nested[T any](tree T, n int, level func(T) T) T {
	for range n {
		tree = level(tree)
	}
	return tree
}

// around puts texts n times around another one.
func around(s string, n int, texts [2]string) string {
	return strings.Repeat(texts[0], n) + s + strings.Repeat(texts[1], n)
}

// P5.1 and P5.3: the greatest depths.

func TestDeepTypes(t *testing.T) {
	inner, text := trec("t", tsend(0, tint, tvar("t", 1))), "rec t.!int.t+1"
	for texts, level := range typeLevels() {
		tree := nested(inner, api.MaxDepth-3, level)
		if typetree.Depth(tree) != api.MaxDepth {
			t.Errorf("%s: the depth is %d", texts[0], typetree.Depth(tree))
		}
		wantType(t, tree, around(text, api.MaxDepth-3, texts))
		wantProcess(t, scope("a", "b", tree, stop), "new (a, b: "+around(text, api.MaxDepth-3, texts)+") stop")
	}
}

func TestDeepProcesses(t *testing.T) {
	inner, text := send("a", name("b"), par(stop, call("X"))), "a!<b>.(stop | X<>)"
	for texts, level := range procLevels() {
		tree := nested(inner, api.MaxDepth-3, level)
		if proctree.Depth(tree) != api.MaxDepth || proctree.Right(tree) != api.OK {
			t.Errorf("%s: the depth is %d", texts[0], proctree.Depth(tree))
		}
		wantProcess(t, tree, around(text, api.MaxDepth-3, texts))
	}
}

// A composition is two levels, with the prefix around it.
func TestDeepCompositions(t *testing.T) {
	level := func(p api.Proc) api.Proc { return par(stop, sel("a", "b", p), stop) }
	tree := nested(par(stop, stop), 49, level)
	if proctree.Depth(tree) != api.MaxDepth || proctree.Right(tree) != api.OK {
		t.Errorf("the depth is %d", proctree.Depth(tree))
	}
	wantProcess(t, tree, around("stop | stop", 49, [2]string{"stop | a.b.(", ") | stop"}))
}

// P5.1 and P5.3: the greatest sizes.

func TestWideTypes(t *testing.T) {
	n := api.MaxNodes - 1
	u := api.Type{Kind: api.TBranch, Prio: 1}
	var cases []string
	for i := range n {
		label := "a" + strconv.Itoa(i)
		u.Labels, u.Kids = append(u.Labels, label), append(u.Kids, tvar("t", 0))
		cases = append(cases, label+": t")
	}
	want := "&1{" + strings.Join(cases, ", ") + "}"
	wantText(t, show.Type(u), want)
	if len(want) <= api.MaxBytes {
		t.Errorf("the text has only %d bytes", len(want))
	}
	if _, f := parse.Type(want); f != (api.Fault{Err: api.ErrLimit, At: api.MaxBytes}) {
		t.Errorf("the fault of a text of %d bytes is %v", len(want), f)
	}
	u.Labels, u.Kids = u.Labels[:6000], u.Kids[:6000]
	wantType(t, u, "&1{"+strings.Join(cases[:6000], ", ")+"}")
}

func TestWideProcesses(t *testing.T) {
	for _, n := range []int{2, 3, 100, 9000} {
		var kids []api.Proc
		for range n {
			kids = append(kids, stop)
		}
		text := strings.Repeat("stop | ", n-1) + "stop"
		wantProcess(t, par(kids...), text)
		wantProcess(t, send("a", num(1), par(kids...)), "a!<1>.("+text+")")
	}
	// One node with many Args.
	var args []api.Value
	for range 20000 {
		args = append(args, name("a"))
	}
	wantProcess(t, call("X", args...), "X<"+strings.Repeat("a, ", 19999)+"a>")
}

func TestProgramsOfManyDefinitionsAndParameters(t *testing.T) {
	p := prog(stop)
	var want strings.Builder
	for i := range 1500 {
		x := "X" + strconv.Itoa(i)
		p.Defs = append(p.Defs, def(x, call(x, num(int64(i)))))
		want.WriteString("def " + x + "() = " + x + "<" + strconv.Itoa(i) + ">;\n")
	}
	wantProgram(t, p, want.String()+"main = stop;\n")
	d := def("X", stop)
	var params []string
	for i := range 4000 {
		a := "a" + strconv.Itoa(i)
		d.Params = append(d.Params, param(a, tint))
		params = append(params, a+": int")
	}
	wantProgram(t, prog(stop, d), "def X("+strings.Join(params, ", ")+") = stop;\nmain = stop;\n")
}

// P5.3: a text of at most MaxBytes bytes is parsed again, and a longer one is not.

func TestTextsAsLongAsASource(t *testing.T) {
	for _, spare := range []int{0, 1} {
		label := strings.Repeat("l", api.MaxBytes-len("main = a..stop;\n")+spare)
		tree, want := prog(sel("a", label, stop)), "main = a."+label+".stop;\n"
		wantText(t, show.Program(tree), want)
		if spare == 0 {
			wantProgram(t, tree, want)
		} else {
			wantFault(t, want, api.Fault{Err: api.ErrLimit, At: api.MaxBytes})
		}
	}
}

// The tidied text may be longer than the text that it is made of, and then be no source.
func TestTidiedTextsThatAreTooLong(t *testing.T) {
	n := 30000
	s := "main=X<" + strings.Repeat("a,", n) + "a>;"
	want := "main = X<" + strings.Repeat("a, ", n) + "a>;\n"
	wantTidy(t, s, want)
	wantFault(t, want, api.Fault{Err: api.ErrLimit, At: api.MaxBytes})
}

// A right process may have too many nodes for a source, since there its types count (P4.1). It has a text nevertheless.
func TestRightProcessesThatAreTooLargeForASource(t *testing.T) {
	u := tend
	for range 49 {
		u = tsend(0, tvar("t", 0), u)
	}
	u = trec("t", u)
	part, text := scope("a", "b", u, stop), "new (a, b: rec t."+strings.Repeat("!t.", 49)+"end) stop"
	tree := par()
	for range 200 {
		tree.Kids = append(tree.Kids, part)
	}
	want := strings.Repeat(text+" | ", 199) + text
	if proctree.Right(tree) != api.OK {
		t.Error("the process is not right")
	}
	wantText(t, show.Process(tree), want)
	if _, f := parse.Process(want); f != (api.Fault{Err: api.ErrLimit, At: len(want)}) {
		t.Errorf("the fault is %v", f)
	}
}
