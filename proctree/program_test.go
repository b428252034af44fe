package proctree_test

import (
	"slices"
	"strings"
	"testing"

	"duologue/api"
	"duologue/proctree"
)

// P3.2

func param(s string, t api.Type) api.Param {
	return api.Param{Name: s, T: t}
}

func def(s string, body api.Proc, params ...api.Param) api.Def {
	return api.Def{Name: s, Params: params, Body: body}
}

func program(main api.Proc, defs ...api.Def) api.Program {
	return api.Program{Defs: defs, Main: main}
}

// programText shows all fields of a program, well-formed or not.
func programText(p api.Program) string {
	var lines []string
	for _, d := range p.Defs {
		var params []string
		for _, q := range d.Params {
			params = append(params, q.Name+": "+typeText(q.T))
		}
		lines = append(lines, d.Name+"("+strings.Join(params, "; ")+") = "+text(d.Body))
	}
	return strings.Join(append(lines, text(p.Main)), "\n")
}

func shortProgram(p api.Program) string {
	s := programText(p)
	if len(s) > 300 {
		return s[:300] + ".."
	}
	return s
}

func wantProgram(t *testing.T, want api.Errno, l ...api.Program) {
	t.Helper()
	for _, p := range l {
		if got := proctree.Program(p); got != want {
			t.Errorf("%s: got %d, want %d", shortProgram(p), got, want)
		}
	}
}

// wantTotal checks the size of a program, and that the program is right exactly if the size is within the limit.
func wantTotal(t *testing.T, want int, p api.Program) {
	t.Helper()
	if got := proctree.Total(p); got != want {
		t.Errorf("%s: got a size of %d, want %d", shortProgram(p), got, want)
	}
	err := api.OK
	if want > api.MaxNodes {
		err = api.ErrLimit
	}
	wantProgram(t, err, p)
}

func TestOrdinaryPrograms(t *testing.T) {
	wantProgram(t, api.OK, program(stop), program(stop, def("X", stop)),
		program(call("X"), def("X", call("Y", name("a"), num(1), boolean(0)), param("a", tend)), def("Y", recv("b", "x", stop), param("b", tsend(0, tint, tend)), param("n", tint), param("x", tbool))),
		program(restrict("a", "b", tsend(1, tint, tend), par(send("a", num(1), stop), recv("b", "x", stop)))))
	for _, p := range ofEachKind() {
		wantProgram(t, api.OK, program(p), program(stop, def("X", p)), program(p, def("X", p), def("Y", p, param("a", tend))))
	}
}

// The names of a program are a matter of layer 6.
func TestProgramsWithEqualOrUnknownNames(t *testing.T) {
	wantProgram(t, api.OK, program(call("Z"), def("X", stop), def("X", stop)), program(send("a", name("b"), stop), def("X", call("X"), param("a", tend), param("a", tint))), program(stop, def("a", stop, param("a", tend))))
}

func TestProgramsWithoutDefinitionsOrMain(t *testing.T) {
	wantProgram(t, api.OK, program(stop), api.Program{Defs: []api.Def{}, Main: stop}, api.Program{Main: stop})
	wantProgram(t, api.ErrShape, api.Program{}, api.Program{Defs: []api.Def{def("X", stop)}}, api.Program{Defs: []api.Def{}})
	wantProgram(t, api.ErrShape, program(stop, api.Def{}), program(stop, api.Def{Name: "X"}), program(stop, api.Def{Body: stop}), api.Program{Defs: []api.Def{{}}})
}

func TestDefinitionsWithoutAName(t *testing.T) {
	for _, s := range []string{"", "0", "9X", "X Y", " X", "X<>", "main", "def", "stop", "int", "\u00e9"} {
		bad := def(s, stop)
		wantProgram(t, api.ErrShape, program(stop, bad), program(stop, def("X", stop), bad), program(stop, bad, def("X", stop)), program(stop, def(s, stop, param("a", tend))))
		wantProgram(t, api.ErrShape, program(stop, def("X", stop, param(s, tend))), program(stop, def("X", stop, param("a", tend), param(s, tint))), program(stop, def("X", stop, param(s, tint), param("a", tend))), program(stop, def("Y", stop), def("X", stop, param(s, tend))))
	}
}

func TestTypesOfParameters(t *testing.T) {
	for _, a := range []api.Type{tint, tbool, tend, tsend(1000000, tend, tend), trec("t", tsend(0, tint, tvar("t"))), longType(100), wideType(9000)} {
		wantProgram(t, api.OK, program(stop, def("X", stop, param("a", a))), program(stop, def("X", stop, param("b", tint), param("a", a))))
	}
	for _, a := range []api.Type{{}, {Kind: 10}, {Kind: api.TInt, Prio: 1}, tvar("t"), tvar("int"), trec("t", tvar("t")), trec("t", tint), tsend(-1, tint, tend), tsend(1000001, tint, tend), tsend(0, tint, tbool), tsend(0, tint), longType(101), longType(1000)} {
		wantProgram(t, api.ErrShape, program(stop, def("X", stop, param("a", a))), program(stop, def("X", stop, param("b", tint), param("a", a))), program(stop, def("X", stop, param("a", a), param("b", tint))), program(stop, def("Y", stop), def("X", stop, param("a", a))))
	}
}

func TestTotal(t *testing.T) {
	for _, c := range []struct {
		p    api.Program
		want int
	}{
		{program(stop), 1}, {program(stop, def("X", stop)), 2}, {program(recv("a", "x", stop), def("X", stop), def("Y", par(stop, stop))), 6},
		{program(stop, def("X", stop, param("a", tint))), 3}, {program(stop, def("X", stop, param("a", tint), param("b", tsend(0, tint, tend)))), 6},
		{program(restrict("a", "b", tend, stop)), 3}, {program(restrict("a", "b", tsend(0, tint, tend), restrict("c", "d", tend, stop))), 7},
		{program(par(stop, restrict("a", "b", tend, stop)), def("X", branch("a", "b c", stop, restrict("c", "d", tend, stop)))), 10},
		{program(call("X", num(1), num(2), name("a"))), 1},
	} {
		wantTotal(t, c.want, c.p)
	}
}

func TestTotalOfProgramsThatAreNotRight(t *testing.T) {
	for _, c := range []struct {
		p    api.Program
		want int
	}{
		{api.Program{}, 1}, {api.Program{Defs: []api.Def{{}}}, 2}, {api.Program{Defs: []api.Def{{Params: []api.Param{{}, {}}}, {}}}, 5},
		{program(api.Proc{Kind: api.PStop, T: wideType(50)}), 1}, {program(api.Proc{Kind: api.PNew}), 2}, {program(api.Proc{Kind: 77, T: wideType(50), Kids: []api.Proc{restrict("", "", wideType(50)), stop}}), 53},
		{program(api.Proc{Kind: api.PCall, Kids: []api.Proc{{}, {Kids: []api.Proc{{}}}}}, def("", api.Proc{}, param("", longType(1000)))), 1005},
		{program(chain(1000)), 1000}, {program(wide(20000), def("X", wide(20000), param("a", wideType(20000)))), 60000},
	} {
		if got := proctree.Total(c.p); got != c.want {
			t.Errorf("%s: got %d, want %d", shortProgram(c.p), got, c.want)
		}
	}
}

func TestSizeOfAProgramAtItsLimit(t *testing.T) {
	for _, more := range []int{-1, 0, 1, 2} {
		size := 10000 + more
		wantTotal(t, size, program(wide(size)))
		wantTotal(t, size, program(stop, def("X", wide(size-1))))
		wantTotal(t, size, program(wide(4000), def("X", wide(3000)), def("Y", wide(size-7000))))
		wantTotal(t, size, program(restrict("a", "b", wideType(size-2), stop)))
		wantTotal(t, size, program(restrict("a", "b", wideType(5000), restrict("c", "d", wideType(size-5003), stop))))
		wantTotal(t, size, program(stop, def("X", recv("a", "x", restrict("a", "b", wideType(size-4), stop)))))
		wantTotal(t, size, program(stop, def("X", stop, param("a", wideType(size-2)))))
		wantTotal(t, size, program(stop, def("X", stop, param("a", wideType(4000)), param("b", wideType(size-4002)))))
		wantTotal(t, size, program(wide(2000), def("X", restrict("a", "b", wideType(2000), wide(2000)), param("a", wideType(2000))), def("Y", stop, param("b", wideType(size-8002)))))
		calls := slices.Repeat([]api.Proc{call("X", num(1), num(2))}, size-1)
		wantTotal(t, size, program(par(calls...)))
	}
}

func TestTheSizeOfAProgramComesBeforeOtherErrors(t *testing.T) {
	for _, bad := range []api.Proc{{}, recv("a", "", stop), par(stop), restrict("a", "b", tint, stop)} {
		wantProgram(t, api.ErrLimit, program(bad, def("X", wide(10000))), program(wide(10000), def("X", bad)), program(wide(10000), def("", bad)), program(bad, def("X", stop, param("a", wideType(10000)))))
	}
	wantProgram(t, api.ErrLimit, program(wide(10000), def("", stop)), program(wide(10000), def("X", stop, param("", tend))), program(stop, def("X", stop, param("a", api.Type{Kids: make([]api.Type, 10000)}))),
		program(restrict("a", "b", api.Type{Kids: make([]api.Type, 10000)}, stop)))
	wantProgram(t, api.ErrShape, program(stop, def("X", stop, param("a", api.Type{Kids: make([]api.Type, 9997)}))), program(restrict("a", "b", api.Type{Kids: make([]api.Type, 9997)}, stop)))
	// Each process and each type is within the limits.
	wantProgram(t, api.ErrLimit, program(wide(5000), def("X", wide(5001))), program(wide(5000), def("X", stop, param("a", wideType(5000)))))
	// The types of other processes than those of Kind PNew are no part of the size.
	wantProgram(t, api.ErrShape, program(api.Proc{Kind: api.PStop, T: wideType(10001)}))
}

func TestTheFirstErrorOfAProgram(t *testing.T) {
	deep, bad := chain(101), api.Proc{Kind: api.PStop, Chan: "a"}
	wantProgram(t, api.ErrLimit, program(deep), program(stop, def("X", deep)), program(deep, def("X", stop)),
		program(bad, def("X", deep)), program(stop, def("X", deep), def("Y", bad)), program(bad, def("X", stop), def("Y", deep), def("Z", bad)), program(api.Proc{}, def("X", deep)))
	wantProgram(t, api.ErrShape, program(bad), program(stop, def("X", bad)), program(bad, def("X", stop)),
		program(deep, def("X", bad)), program(stop, def("X", bad), def("Y", deep)), program(deep, def("X", stop), def("Y", bad), def("Z", deep)), program(deep, def("X", api.Proc{})))
}

func TestErrorsOfProcessesComeBeforeThoseOfDefinitions(t *testing.T) {
	deep := chain(101)
	for _, d := range []api.Def{def("", stop), def("main", stop), def("X", stop, param("", tend)), def("X", stop, param("a", tvar("t"))), def("X", stop, param("a", longType(101)))} {
		wantProgram(t, api.ErrLimit, program(deep, d), program(stop, d, def("Y", deep)), program(stop, def("Y", deep), d), program(deep, d, d))
		d.Body = deep
		wantProgram(t, api.ErrLimit, program(stop, d), program(api.Proc{}, d))
		d.Body = api.Proc{}
		wantProgram(t, api.ErrShape, program(deep, d), program(stop, d, def("Y", deep)))
	}
}

func TestSameProgram(t *testing.T) {
	sample := func() api.Program {
		return program(restrict("a", "b", tend, call("X", name("a"))), def("X", recv("a", "x", stop), param("a", tsend(1, tint, tend)), param("b", tend)), def("Y", stop))
	}
	changes := []func(*api.Program){
		func(p *api.Program) { p.Main = stop },
		func(p *api.Program) { p.Main = api.Proc{} },
		func(p *api.Program) { p.Main.T = tint },
		func(p *api.Program) { p.Main.Kids[0].Args[0].N = 1 },
		func(p *api.Program) { p.Defs = nil },
		func(p *api.Program) { p.Defs = p.Defs[:1] },
		func(p *api.Program) { p.Defs = append(p.Defs, def("Y", stop)) },
		func(p *api.Program) { p.Defs[0], p.Defs[1] = p.Defs[1], p.Defs[0] },
		func(p *api.Program) { p.Defs[0].Name = "x" },
		func(p *api.Program) { p.Defs[1].Name = "" },
		func(p *api.Program) { p.Defs[0].Body.Var = "y" },
		func(p *api.Program) { p.Defs[1].Body = par(stop, stop) },
		func(p *api.Program) { p.Defs[0].Params = nil },
		func(p *api.Program) { p.Defs[0].Params = p.Defs[0].Params[1:] },
		func(p *api.Program) { p.Defs[1].Params = []api.Param{{}} },
		func(p *api.Program) { p.Defs[0].Params[1].Name = "c" },
		func(p *api.Program) { p.Defs[0].Params[0].T.Prio = 2 },
		func(p *api.Program) { p.Defs[0].Params[0].T.Kids[0] = tbool },
		func(p *api.Program) {
			l := p.Defs[0].Params
			l[0], l[1] = l[1], l[0]
		},
	}
	variants := []api.Program{sample()}
	for _, change := range changes {
		p := sample()
		change(&p)
		variants = append(variants, p)
	}
	for i, p := range variants {
		for j, q := range variants {
			if proctree.SameProgram(p, q) != (i == j) {
				t.Errorf("%d and %d: want %v for\n%s\nand\n%s", i, j, i == j, programText(p), programText(q))
			}
		}
	}
	if !proctree.SameProgram(sample(), sample()) || !proctree.SameProgram(api.Program{}, api.Program{Defs: []api.Def{}}) || !proctree.SameProgram(api.Program{Defs: []api.Def{{}}}, api.Program{Defs: []api.Def{{Params: []api.Param{}}}}) {
		t.Error("a program is not the same as itself")
	}
}
