package show_test

import (
	"fmt"
	"slices"
	"sync"
	"testing"

	"duologue/api"
	"duologue/show"
)

// roomyList returns the list in new memory, with some unused capacity that has elements of its own.
func roomyList[E any](l []E, spare ...E) []E {
	return append(append(make([]E, 0, len(l)+len(spare)), l...), spare...)[:len(l)]
}

func roomyType(t api.Type) api.Type {
	t.Labels = roomyList(t.Labels, "spare", "room")
	t.Kids = roomyList(t.Kids, tint, tvar("room", 1))
	for i, kid := range t.Kids {
		t.Kids[i] = roomyType(kid)
	}
	return t
}

func roomyProcess(p api.Proc) api.Proc {
	p.Labels = roomyList(p.Labels, "spare", "room")
	p.Args = roomyList(p.Args, num(50), name("room"))
	p.T = roomyType(p.T)
	p.Kids = roomyList(p.Kids, stop, call("Room"))
	for i, kid := range p.Kids {
		p.Kids[i] = roomyProcess(kid)
	}
	return p
}

// roomyProgram returns the program in new memory, where each list has some unused capacity.
func roomyProgram(p api.Program) api.Program {
	p.Defs = roomyList(p.Defs, def("Spare", stop), def("Room", stop))
	for i, d := range p.Defs {
		d.Params = roomyList(d.Params, param("spare", tint), param("room", tbool))
		for j, q := range d.Params {
			d.Params[j].T = roomyType(q.T)
		}
		d.Body = roomyProcess(d.Body)
		p.Defs[i] = d
	}
	p.Main = roomyProcess(p.Main)
	return p
}

func wholeType(t api.Type) api.Type {
	t.Labels = t.Labels[:cap(t.Labels)]
	t.Kids = slices.Clone(t.Kids[:cap(t.Kids)])
	for i, kid := range t.Kids {
		t.Kids[i] = wholeType(kid)
	}
	return t
}

func wholeProcess(p api.Proc) api.Proc {
	p.Labels, p.Args = p.Labels[:cap(p.Labels)], p.Args[:cap(p.Args)]
	p.T = wholeType(p.T)
	p.Kids = slices.Clone(p.Kids[:cap(p.Kids)])
	for i, kid := range p.Kids {
		p.Kids[i] = wholeProcess(kid)
	}
	return p
}

// all shows all fields of a program, and all elements in the unused capacity of its lists.
func all(p api.Program) string {
	p.Defs = slices.Clone(p.Defs[:cap(p.Defs)])
	for i, d := range p.Defs {
		d.Params = slices.Clone(d.Params[:cap(d.Params)])
		for j, q := range d.Params {
			d.Params[j].T = wholeType(q.T)
		}
		d.Body = wholeProcess(d.Body)
		p.Defs[i] = d
	}
	p.Main = wholeProcess(p.Main)
	return fmt.Sprintf("%#v", p)
}

// memorySamples are programs with nodes of all Kinds, and some by chance.
func memorySamples() []api.Program {
	u := trec("t", tselect(1, "b a", tsend(2, trecv(0, tvar("t", 3), tend), tvar("t", 0)), tbranch(0, "d c", tend, tend)))
	p := scope("a", "b", u, par(send("a", name("b"), par(stop, call("X", num(1), name("a")))), branch("b", "d c", recv("b", "x", sel("x", "l", stop)), par(stop, stop)), stop))
	l := []api.Program{prog(p), prog(stop, def("Y", p, param("b", u), param("a", tbool)), def("X", p)), prog(p, def("B", stop), def("A", p))}
	m := newMaker(3)
	for range 100 {
		l = append(l, m.program())
	}
	for i, q := range l {
		l[i] = roomyProgram(q)
	}
	return l
}

func TestArgumentsStayAsTheyWere(t *testing.T) {
	for _, p := range memorySamples() {
		before := all(p)
		show.Program(p)
		show.Process(p.Main)
		show.Type(p.Main.T)
		for _, d := range p.Defs {
			show.Process(d.Body)
			for _, q := range d.Params {
				show.Type(q.T)
			}
		}
		if all(p) != before {
			t.Errorf("%s: the argument was modified", short(before))
		}
	}
}

// Neither unused capacity, nor what earlier calls were for, has a part in a text.
func TestTextsDependOnArgumentsOnly(t *testing.T) {
	samples := memorySamples()
	for range 2 {
		for _, p := range samples {
			wantProgram(t, p, programText(p))
			wantProcess(t, p.Main, processText(p.Main))
		}
		slices.Reverse(samples)
	}
}

// A text stays as it is when its tree is changed, and a changed tree has another text.
func TestTextsDoNotShareMemoryWithTrees(t *testing.T) {
	p := roomyProgram(prog(par(branch("a", "b c", stop, stop), call("X", num(1))), def("X", stop, param("n", tselect(0, "l", tend)))))
	before := show.Program(p)
	p.Defs[0].Params[0].T.Labels[0] = "m"
	p.Main.Kids[0].Labels[1] = "d"
	p.Main.Kids[1].Args[0] = name("e")
	wantText(t, before, "def X(n: +{l: end}) = stop;\nmain = a&{b: stop, c: stop} | X<1>;\n")
	wantText(t, show.Program(p), "def X(n: +{m: end}) = stop;\nmain = a&{b: stop, d: stop} | X<e>;\n")
}

// Rule 8: functions may be called concurrently.
func TestConcurrentCalls(t *testing.T) {
	samples := memorySamples()
	var g sync.WaitGroup
	for range 8 {
		g.Go(func() {
			for _, p := range samples {
				wantProgram(t, p, programText(p))
				wantProcess(t, p.Main, processText(p.Main))
				wantText(t, show.Type(p.Main.T), typeText(p.Main.T))
				wantFault(t, show.Program(p)+";", api.Fault{Err: api.ErrSyntax, At: len(programText(p))})
				wantText(t, show.Value(num(-3)), "-3")
			}
		})
	}
	g.Wait()
}
