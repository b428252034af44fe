package scope_test

import (
	"fmt"
	"math/rand/v2"
	"reflect"
	"slices"
	"sync"
	"testing"

	"duologue/api"
	"duologue/scope"
)

// Rules 5, 7 and 8, and P1 for large arguments.

// roomy returns a tree in new memory, each list of which has unused capacity with elements of its own.
func roomy[T any](tree T) T {
	return roomyValue(reflect.ValueOf(tree)).Interface().(T)
}

func roomyValue(v reflect.Value) reflect.Value {
	w := reflect.New(v.Type()).Elem()
	switch v.Kind() {
	case reflect.Struct:
		for i := range v.NumField() {
			w.Field(i).Set(roomyValue(v.Field(i)))
		}
	case reflect.Slice:
		w.Set(reflect.MakeSlice(v.Type(), v.Len()+2, v.Len()+2))
		for i := range v.Len() {
			w.Index(i).Set(roomyValue(v.Index(i)))
		}
		w.Index(v.Len()).Set(spare(v.Type().Elem()))
		w.SetLen(v.Len())
	default:
		w.Set(v)
	}
	return w
}

// spare is an element with something in its texts and numbers.
func spare(t reflect.Type) reflect.Value {
	w := reflect.New(t).Elem()
	switch t.Kind() {
	case reflect.Struct:
		for i := range t.NumField() {
			if t.Field(i).Type.Kind() != reflect.Slice {
				w.Field(i).Set(spare(t.Field(i).Type))
			}
		}
	case reflect.String:
		w.SetString("spare")
	case reflect.Int, reflect.Int64:
		w.SetInt(6)
	}
	return w
}

// whole shows all fields of a tree, and the elements in the unused capacity of its lists.
func whole(tree any) string {
	return wholeValue(reflect.ValueOf(tree))
}

func wholeValue(v reflect.Value) string {
	s := ""
	switch v.Kind() {
	case reflect.Struct:
		for i := range v.NumField() {
			s += wholeValue(v.Field(i)) + ", "
		}
		return "{" + s + "}"
	case reflect.Slice:
		for i := range v.Cap() {
			s += wholeValue(v.Slice(0, v.Cap()).Index(i)) + ", "
		}
		return fmt.Sprintf("%d[%s]", v.Len(), s)
	}
	return fmt.Sprintf("%#v", v)
}

// memorySamples are programs with and without faults.
func memorySamples(t *testing.T) []api.Program {
	l := []api.Program{{}, program(t, wrong), program(t, "def X(a: rec t.+{l: t, m: end}, n: int) = a&{l: a?(x).X<x, 1>, m: new (c, d: !(?int.end).end) (c!<n>.stop | d.l.X<d, true>)}; main = new (a, b: end) X<a, 2>;"), program(t, inDefinition(2, "F<>")), program(t, inMain("a!<c>.stop"))}
	m := &maker{Rand: rand.New(rand.NewPCG(6, 2))}
	for range 200 {
		l = append(l, m.program())
	}
	for i, p := range l {
		l[i] = roomy(p)
	}
	return l
}

func TestArgumentsStayAsTheyWere(t *testing.T) {
	for _, p := range memorySamples(t) {
		before := whole(p)
		scope.Check(p)
		scope.Find(p, "X")
		scope.Find(p, "none")
		for _, d := range append(slices.Clip(p.Defs), api.Def{Body: p.Main}) {
			scope.Calls(d.Body)
			scope.Binders(d.Body)
		}
		if whole(p) != before {
			t.Errorf("%s: the argument was modified", short(before))
		}
	}
}

// Neither unused capacity, nor what earlier calls were for, has a part in a result.
func TestResultsDependOnArgumentsOnly(t *testing.T) {
	samples := memorySamples(t)[1:]
	for range 2 {
		for _, p := range samples {
			wantLikeModel(t, p)
			wantListsLikeModel(t, p.Main)
			wantFind(t, p, "spare", 0, false)
		}
		slices.Reverse(samples)
	}
}

func TestListsAreNewMemory(t *testing.T) {
	p := roomy(process(t, "a?(x).X<> | new (b, c: end) Y<>"))
	for _, f := range []func(api.Proc) []string{scope.Calls, scope.Binders} {
		want := slices.Clone(f(p))
		got := f(p)
		got = got[:cap(got)]
		for i := range got {
			got[i] = "spoilt"
		}
		if again := f(p); !slices.Equal(again, want) {
			t.Errorf("got %q, want %q", again, want)
		}
	}
}

func TestConcurrentCalls(t *testing.T) {
	samples := memorySamples(t)[1:]
	var g sync.WaitGroup
	for range 8 {
		g.Go(func() {
			for _, p := range samples {
				wantLikeModel(t, p)
				wantListsLikeModel(t, p.Main)
			}
		})
	}
	g.Wait()
}

// chain is a process with a number of receptions on a, which bind x0, x1 and so on, around another process.
func chain(n int, end api.Proc) api.Proc {
	for i := range n {
		end = api.Proc{Kind: api.PRecv, Chan: "a", Var: fmt.Sprint("x", n-1-i), Kids: []api.Proc{end}}
	}
	return end
}

func callWith(args ...string) api.Proc {
	n := api.Proc{Kind: api.PCall, Chan: "X"}
	for _, s := range args {
		n.Args = append(n.Args, api.Value{Kind: api.VName, Name: s})
	}
	return n
}

func TestProgramsAtTheLimits(t *testing.T) {
	p := program(t, "def X(a: end) = stop; main = stop;")
	p.Defs[0].Body = chain(99, callWith("x98"))
	wantFault(t, p, api.OK, 0)
	p.Defs[0].Body = chain(99, callWith("x99"))
	wantFault(t, p, api.ErrName, 0)
	p.Defs[0].Body = chain(100, stop)
	wantFault(t, p, api.ErrLimit, 0)
	wide := api.Proc{Kind: api.PPar}
	for range 80 {
		wide.Kids = append(wide.Kids, chain(90, callWith("x0")))
	}
	p.Defs[0].Body = wide
	wantFault(t, p, api.OK, 0)
	wide.Kids[79] = chain(90, callWith("x90"))
	wantFault(t, p, api.ErrName, 0)
	wide.Kids[79] = chain(90, callWith("x1", "x2"))
	wantFault(t, p, api.ErrArity, 0)
}

func TestManyDefinitionsAndParameters(t *testing.T) {
	p := program(t, "main = stop;")
	for i := range 3000 {
		p.Defs = append(p.Defs, api.Def{Name: fmt.Sprint("X", i), Params: []api.Param{{Name: "a", T: api.Type{Kind: api.TEnd}}}, Body: callWith("a")})
		p.Defs[i].Body.Chan = fmt.Sprint("X", (i+7)%3000)
	}
	wantFault(t, p, api.ErrGuard, 0)
	for i := range p.Defs {
		p.Defs[i].Body = stop
	}
	wantFault(t, p, api.OK, 0)
	p.Defs[2999].Body = chain(99, callWith("x7"))
	p.Defs[2999].Body.Kids[0].Kids[0].Chan = "b"
	wantFault(t, p, api.ErrName, 2999)
	p.Defs[2999].Name = "X1500"
	wantFault(t, p, api.ErrTwice, 2999)

	q := program(t, "def X() = stop; main = stop;")
	var args []string
	for i := range 5000 {
		args = append(args, fmt.Sprint("a", i))
		q.Defs[0].Params = append(q.Defs[0].Params, api.Param{Name: args[i], T: api.Type{Kind: api.TInt}})
	}
	q.Defs[0].Body = api.Proc{Kind: api.PSelect, Chan: "a77", Labels: []string{"l"}, Kids: []api.Proc{callWith(args...)}}
	wantFault(t, q, api.OK, 0)
	q.Defs[0].Body.Kids[0].Args[4999].Name = "a5000"
	wantFault(t, q, api.ErrName, 0)
	q.Defs[0].Params[4999].Name = "a0"
	wantFault(t, q, api.ErrTwice, 0)
}

// Check is specified up to a depth of 1000, Calls and Binders without a limit.
func TestDeepProcesses(t *testing.T) {
	p := program(t, wrong)
	p.Main = chain(999, stop)
	wantFault(t, p, api.ErrLimit, 0)
	deep := chain(1<<16-1, callWith())
	if got := scope.Binders(deep); len(got) != 1<<16-1 || got[0] != "x0" || got[1<<16-2] != "x65534" {
		t.Errorf("got %d binders", len(got))
	}
	if got := scope.Calls(deep); !slices.Equal(got, []string{"X"}) {
		t.Errorf("got the calls %q", got)
	}
}
