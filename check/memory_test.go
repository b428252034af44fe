package check_test

import (
	"fmt"
	"math/rand/v2"
	"reflect"
	"slices"
	"strings"
	"sync"
	"testing"

	"duologue/api"
	"duologue/check"
	"duologue/scope"
)

// P14.2, and rules 5, 7 and 8.

// withRoom returns the list in new memory, with unused capacity that has elements of its own.
func withRoom[E any](l []E, spare ...E) []E {
	return append(slices.Clip(l), spare...)[:len(l)]
}

func roomyType(t api.Type) api.Type {
	t.Labels = withRoom(t.Labels, "spare", "l")
	t.Kids = withRoom(t.Kids, api.Type{Kind: 77}, api.Type{Kind: api.TInt})
	for i, kid := range t.Kids {
		t.Kids[i] = roomyType(kid)
	}
	return t
}

func roomyProc(p api.Proc) api.Proc {
	p.Labels = withRoom(p.Labels, "spare", "m")
	p.Args = withRoom(p.Args, api.Value{Kind: api.VName, Name: "spare"}, api.Value{Kind: 99})
	p.Kids = withRoom(p.Kids, api.Proc{Kind: api.PStop}, api.Proc{Kind: 55, Chan: "spare"})
	p.T = roomyType(p.T)
	for i, kid := range p.Kids {
		p.Kids[i] = roomyProc(kid)
	}
	return p
}

// roomy returns a program in new memory, each list of which has unused capacity.
func roomy(p api.Program) api.Program {
	p.Defs = withRoom(p.Defs, api.Def{Name: "Spare", Body: api.Proc{Kind: api.PStop}}, api.Def{Name: "X0"})
	for i, d := range p.Defs {
		params := withRoom(d.Params, api.Param{Name: "spare", T: api.Type{Kind: api.TEnd}})
		for j, q := range params {
			params[j].T = roomyType(q.T)
		}
		p.Defs[i] = api.Def{Name: d.Name, Params: params, Body: roomyProc(d.Body)}
	}
	p.Main = roomyProc(p.Main)
	return p
}

// eachList calls f with each list in a value, with its unused capacity.
func eachList(v reflect.Value, f func(reflect.Value)) {
	switch v.Kind() {
	case reflect.Struct:
		for i := range v.NumField() {
			eachList(v.Field(i), f)
		}
	case reflect.Slice:
		v = v.Slice(0, v.Cap())
		f(v)
		for i := range v.Len() {
			eachList(v.Index(i), f)
		}
	}
}

// whole shows all that is in a value, with the unused capacity of its lists.
func whole(v reflect.Value) string {
	s := ""
	switch v.Kind() {
	case reflect.Struct:
		for i := range v.NumField() {
			s += whole(v.Field(i)) + ","
		}
		return "{" + s + "}"
	case reflect.Slice:
		s = fmt.Sprint(v.Len(), ":")
		v = v.Slice(0, v.Cap())
		for i := range v.Len() {
			s += whole(v.Index(i)) + ","
		}
		return "[" + s + "]"
	}
	return fmt.Sprint(v)
}

// spoil changes all that is in the lists of a program, with their unused capacity, from the innermost ones on.
func spoil(p api.Program) {
	var lists []reflect.Value
	eachList(reflect.ValueOf(p), func(l reflect.Value) { lists = append(lists, l) })
	for _, l := range slices.Backward(lists) {
		for i := range l.Len() {
			l.Index(i).SetZero()
		}
	}
}

// results shows the errors of all bodies.
func results(table *check.Table, bodies int) string {
	s := ""
	for i := -1; i <= bodies; i++ {
		s += fmt.Sprint(table.Body(i), table.Loose(i), " ")
	}
	return s
}

// samples are programs without a fault, many of which have errors.
func samples(t *testing.T) []api.Program {
	t.Helper()
	text := "def Y() = stop; "
	for i, a := range fragments {
		text += fmt.Sprintf("def X%d(%s) = new (c, d: &{l: rec t.!int.t+1, m: end}) (c&{l: %s, m: stop} | d.m.stop); ", i, numbered(fragmentNames, i), numbered(a.process, i))
	}
	l := []api.Program{program(t, text+"main = stop;"), program(t, strings.Replace(callers, "MAIN", "new (a, b: rec t.!7 int.t+1) (X<a> | Y<a>)", 1)), program(t, "main = stop;")}
	m := &maker{Rand: rand.New(rand.NewPCG(14, 2))}
	for range 12 {
		p := m.program()
		l = append(l, p)
		for range 4 {
			if q, _ := m.changed(p); scope.Check(q).Err == ok {
				l = append(l, q)
			}
		}
	}
	return l
}

func TestProgramIsNotModified(t *testing.T) {
	for _, p := range samples(t) {
		want := results(check.Prepare(p), len(p.Defs)+1)
		p = roomy(p)
		before := whole(reflect.ValueOf(p))
		table := check.Prepare(p)
		// The unused capacity is no part of the program.
		if got := results(table, len(p.Defs)+1); got != want {
			t.Errorf("got %s, want %s", got, want)
		}
		if whole(reflect.ValueOf(p)) != before {
			t.Error("the program was modified")
		}
	}
}

func TestLaterChangesDoNotMatter(t *testing.T) {
	for _, p := range samples(t) {
		bodies := len(p.Defs) + 1
		want := results(check.Prepare(p), bodies)
		p = roomy(p)
		table, other := check.Prepare(p), check.Prepare(p)
		if got := results(other, bodies); got != want {
			t.Errorf("got %s, want %s", got, want)
		}
		spoil(p)
		// The one has not typed anything yet, and the other one has.
		for _, x := range []*check.Table{table, other, table} {
			if got := results(x, bodies); got != want {
				t.Errorf("got %s after a change of the program, want %s", got, want)
			}
		}
	}
}

// The results do not depend on earlier calls.
func TestSameResultsAgain(t *testing.T) {
	r := rand.New(rand.NewPCG(14, 3))
	for _, p := range samples(t) {
		table := check.Prepare(p)
		for range 40 {
			i := r.IntN(len(p.Defs) + 1)
			fresh := check.Prepare(p)
			if r.IntN(2) == 0 {
				if got, want := table.Body(i), fresh.Body(i); got != want {
					t.Errorf("body %d: got %d, and %d in a new table", i, got, want)
				}
			} else if got, want := table.Loose(i), fresh.Loose(i); got != want {
				t.Errorf("body %d, loose: got %d, and %d in a new table", i, got, want)
			}
		}
	}
}

func TestConcurrentCalls(t *testing.T) {
	l := samples(t)
	tables := make([]*check.Table, len(l))
	want := make([]string, len(l))
	for i, p := range l {
		tables[i] = check.Prepare(p)
		want[i] = results(check.Prepare(p), len(p.Defs)+1)
	}
	var wait sync.WaitGroup
	for n := range 16 {
		wait.Go(func() {
			for i := range l {
				i = (i + n/2) % len(l)
				if got := results(tables[i], len(l[i].Defs)+1); got != want[i] {
					t.Errorf("got %s, want %s", got, want[i])
				}
				// Tables of the same program are made at the same time, too.
				if n%4 == 0 {
					if got := results(check.Prepare(l[i]), len(l[i].Defs)+1); got != want[i] {
						t.Errorf("a new table: got %s, want %s", got, want[i])
					}
				}
			}
		})
	}
	wait.Wait()
}
