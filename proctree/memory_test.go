package proctree_test

import (
	"slices"
	"sync"
	"testing"

	"duologue/api"
	"duologue/proctree"
)

// roomyList returns the list in new memory, with some unused capacity that has elements of its own.
func roomyList[E any](l []E, spare ...E) []E {
	return append(append(make([]E, 0, len(l)+len(spare)), l...), spare...)[:len(l)]
}

func roomyType(t api.Type) api.Type {
	t.Labels = roomyList(t.Labels, "spare", "room")
	t.Kids = roomyList(t.Kids, api.Type{Kind: 50}, api.Type{Kind: 51})
	for i, kid := range t.Kids {
		t.Kids[i] = roomyType(kid)
	}
	return t
}

func roomy(p api.Proc) api.Proc {
	p.Labels = roomyList(p.Labels, "spare", "room")
	p.Args = roomyList(p.Args, num(50), num(51))
	p.T = roomyType(p.T)
	p.Kids = roomyList(p.Kids, api.Proc{Kind: 50}, api.Proc{Kind: 51})
	for i, kid := range p.Kids {
		p.Kids[i] = roomy(kid)
	}
	return p
}

func roomyProgram(p api.Program) api.Program {
	p.Defs = roomyList(p.Defs, api.Def{Name: "spare"}, api.Def{Name: "room"})
	for i, d := range p.Defs {
		d.Params = roomyList(d.Params, param("spare", tint), param("room", tbool))
		for j, q := range d.Params {
			d.Params[j].T = roomyType(q.T)
		}
		d.Body = roomy(d.Body)
		p.Defs[i] = d
	}
	p.Main = roomy(p.Main)
	return p
}

func wholeType(t api.Type) api.Type {
	t.Labels = t.Labels[:cap(t.Labels)]
	t.Kids = slices.Clone(t.Kids[:cap(t.Kids)])
	for i, kid := range t.Kids {
		t.Kids[i] = wholeType(kid)
	}
	return t
}

// whole returns the process with the unused capacity of all lists.
func whole(p api.Proc) api.Proc {
	p.Labels, p.Args = p.Labels[:cap(p.Labels)], p.Args[:cap(p.Args)]
	p.T = wholeType(p.T)
	p.Kids = slices.Clone(p.Kids[:cap(p.Kids)])
	for i, kid := range p.Kids {
		p.Kids[i] = whole(kid)
	}
	return p
}

func wholeProgram(p api.Program) api.Program {
	p.Defs = slices.Clone(p.Defs[:cap(p.Defs)])
	for i, d := range p.Defs {
		d.Params = slices.Clone(d.Params[:cap(d.Params)])
		for j, q := range d.Params {
			d.Params[j].T = wholeType(q.T)
		}
		d.Body = whole(d.Body)
		p.Defs[i] = d
	}
	p.Main = whole(p.Main)
	return p
}

func spoilType(t *api.Type) {
	for i := range t.Labels[:cap(t.Labels)] {
		t.Labels[:cap(t.Labels)][i] = "spoilt"
	}
	kids := t.Kids[:cap(t.Kids)]
	for i := range kids {
		spoilType(&kids[i])
		kids[i] = api.Type{Kind: 99}
	}
}

// spoil overwrites all elements of the lists of a process.
func spoil(p *api.Proc) {
	for i := range p.Labels[:cap(p.Labels)] {
		p.Labels[:cap(p.Labels)][i] = "spoilt"
	}
	for i := range p.Args[:cap(p.Args)] {
		p.Args[:cap(p.Args)][i] = num(99)
	}
	spoilType(&p.T)
	kids := p.Kids[:cap(p.Kids)]
	for i := range kids {
		spoil(&kids[i])
		kids[i] = api.Proc{Kind: 99}
	}
}

// memory has the elements of lists that were seen.
type memory map[any]bool

func note[E any](m memory, l []E) bool {
	ok := true
	for i := range l[:cap(l)] {
		at := &l[:cap(l)][i]
		ok = ok && !m[at]
		m[at] = true
	}
	return ok
}

func (m memory) noteType(t api.Type) bool {
	ok := note(m, t.Labels) && note(m, t.Kids)
	for _, kid := range t.Kids {
		ok = m.noteType(kid) && ok
	}
	return ok
}

// noteProc adds the elements of all lists of a process, and reports whether all of them are new.
func (m memory) noteProc(p api.Proc) bool {
	ok := note(m, p.Labels) && note(m, p.Args) && m.noteType(p.T) && note(m, p.Kids)
	for _, kid := range p.Kids {
		ok = m.noteProc(kid) && ok
	}
	return ok
}

func memorySamples() []api.Proc {
	t := trec("t", api.Type{Kind: api.TSelect, Labels: []string{"l", "m"}, Kids: []api.Type{tvar("t"), tend}})
	l := append(ofEachKind(), oddProcs()...)
	l = append(l, restrict("a", "b", t, branch("a", "l m", restrict("c", "d", t, call("X", name("a"), name("c"))), stop)), par(send("a", name("b"), stop), recv("b", "x", sel("x", "l", call("Y", num(1))))))
	for i, p := range l {
		l[i] = roomy(p)
	}
	return l
}

func TestACopySharesNoMemoryWithTheArgument(t *testing.T) {
	for _, p := range memorySamples() {
		before := text(whole(p))
		got := proctree.Copy(p)
		want := text(got)
		spoil(&got)
		if text(whole(p)) != before {
			t.Errorf("%s: the argument is modified with the result", before)
		}
		got = proctree.Copy(p)
		spoil(&p)
		if text(got) != want {
			t.Errorf("%s: the result is modified with the argument", before)
		}
	}
}

func TestListsOfACopyShareNoMemory(t *testing.T) {
	labels, args, kids := []string{"l", "m"}, []api.Value{num(1), name("a")}, []api.Proc{stop, stop}
	shared := api.Proc{Kind: 77, Labels: labels, Args: args, T: wideType(4), Kids: kids}
	twice := api.Proc{Kind: 78, Labels: labels, Args: args, T: wideType(3), Kids: []api.Proc{shared, shared, {Labels: labels, Args: args[:1], T: shared.T, Kids: kids[1:]}}}
	for _, p := range append(memorySamples(), shared, twice) {
		if !(memory{}).noteProc(proctree.Copy(p)) {
			t.Errorf("%s: two lists of the result share memory", text(p))
		}
	}
}

func TestFreeReturnsNewMemory(t *testing.T) {
	for _, p := range memorySamples() {
		got := proctree.Free(p)
		want := slices.Clone(got)
		for i := range got[:cap(got)] {
			got[:cap(got)][i] = "spoilt"
		}
		if again := proctree.Free(p); !slices.Equal(again, want) {
			t.Errorf("%s: got %q, want %q", text(p), again, want)
		}
	}
}

func TestArgumentsStayAsTheyWere(t *testing.T) {
	samples := memorySamples()
	for _, p := range samples {
		before := text(whole(p))
		proctree.Right(p)
		proctree.Size(p)
		proctree.Depth(p)
		proctree.Prefix(p)
		proctree.Free(p)
		proctree.Copy(p)
		for _, q := range samples {
			proctree.Same(p, q)
			proctree.Same(q, p)
		}
		if text(whole(p)) != before {
			t.Errorf("%s: the argument was modified", before)
		}
	}
}

func TestProgramsStayAsTheyWere(t *testing.T) {
	var programs []api.Program
	for i, p := range memorySamples() {
		programs = append(programs, roomyProgram(program(p)), roomyProgram(program(stop, def("X", p, param("a", tend), param("b", wideType(3+i))), def("Y", p))), roomyProgram(program(p, def("", stop))))
	}
	for _, p := range programs {
		before := programText(wholeProgram(p))
		proctree.Program(p)
		proctree.Total(p)
		for _, q := range programs {
			proctree.SameProgram(p, q)
			proctree.SameProgram(q, p)
		}
		if programText(wholeProgram(p)) != before {
			t.Errorf("%s: the argument was modified", before)
		}
	}
}

func TestFunctionsAreCalledConcurrently(t *testing.T) {
	p := roomy(restrict("a", "b", trec("t", tsend(0, tint, tvar("t"))), par(send("a", name("c"), stop), branch("d", "l m", stop, call("X", name("a"))))))
	all := roomyProgram(program(p, def("X", p, param("a", tend))))
	var group sync.WaitGroup
	for range 8 {
		group.Go(func() {
			for range 200 {
				if proctree.Right(p) != api.OK || proctree.Program(all) != api.OK || !proctree.Same(proctree.Copy(p), p) || proctree.Size(p) != 7 || !slices.Equal(proctree.Free(p), []string{"c", "d"}) {
					t.Error("another result than that of a single call")
					return
				}
			}
		})
	}
	group.Wait()
}
