package program_test

import (
	"fmt"
	"reflect"
	"slices"
	"sync"
	"testing"

	"duologue/api"
	"duologue/parse"
	"duologue/program"
)

// Rules 5, 7 and 8: memory, and what results depend on.

// roomy returns a value in new memory, each list of which has unused capacity with elements of its own.
func roomy(v reflect.Value) reflect.Value {
	w := reflect.New(v.Type()).Elem()
	switch v.Kind() {
	case reflect.Struct:
		for i := range v.NumField() {
			w.Field(i).Set(roomy(v.Field(i)))
		}
	case reflect.Slice:
		w.Set(reflect.MakeSlice(v.Type(), v.Len()+2, v.Len()+2))
		for i := range v.Len() {
			w.Index(i).Set(roomy(v.Index(i)))
			w.Index(v.Len()).Set(roomy(v.Index(i)))
		}
		w.SetLen(v.Len())
	default:
		w.Set(v)
	}
	return w
}

// whole shows all that is in a value, with the unused capacity of its lists.
func whole(v reflect.Value) string {
	s := ""
	switch v.Kind() {
	case reflect.Struct:
		for i := range v.NumField() {
			s += whole(v.Field(i)) + ","
		}
		return "{" + s + "}"
	case reflect.Slice:
		for i := range v.Cap() {
			s += whole(v.Slice(0, v.Cap()).Index(i)) + ","
		}
		return fmt.Sprint(v.Len(), "[", s, "]")
	}
	return fmt.Sprintf("%#v", v)
}

// spoil changes all that is in the lists of a value, with their unused capacity.
func spoil(v reflect.Value) {
	switch v.Kind() {
	case reflect.Struct:
		for i := range v.NumField() {
			spoil(v.Field(i))
		}
	case reflect.Slice:
		v = v.Slice(0, v.Cap())
		for i := range v.Len() {
			spoil(v.Index(i))
			v.Index(i).SetZero()
		}
	}
}

// sample is a text, with all results for it and for its tree.
type sample struct {
	text    string
	tree    api.Program
	results string
}

// resultsOf shows all results for a text, and for a program.
func resultsOf(text string, p api.Program) string {
	q, fault := program.Source(text)
	s := fmt.Sprint(program.Check(p), program.Loose(p), program.Verdict(text), fault, len(q.Defs), q.Main.Kind)
	for at := -1; at < len(p.Defs)+2; at++ {
		s += ", " + program.Place(p, at)
	}
	return s
}

func samples() []sample {
	texts := []string{"", "main", "main = a!<9223372036854775808>.stop;", "def X(n: int, a: rec t.+{l: t+1, m: end}) = a.l.a.m.stop; def Y(b: rec t.&{l: t+1, m: end}) = b&{l: Y<b>, m: stop}; main = new (a, b: rec t.+7 {m: end, l: t+1}) (X<1, a> | Y<b>);"}
	for _, b := range slices.Concat(rightBodies, wrongBodies, wrongNames) {
		texts = append(texts, textOf(0, b), textOf(1, rightBodies[0], b, rightBodies[1]), textOf(2, wrongBodies[3], b, wrongBodies[0], wrongBodies[2]))
	}
	var l []sample
	for _, text := range texts {
		p, _ := parse.Program(text)
		l = append(l, sample{text, p, resultsOf(text, p)})
	}
	return l
}

func TestProgramsAreNotModified(t *testing.T) {
	for _, x := range samples() {
		v := roomy(reflect.ValueOf(x.tree))
		p := v.Interface().(api.Program)
		before := whole(v)
		// The unused capacity is no part of the program.
		if got := resultsOf(x.text, p); got != x.results {
			t.Errorf("%s: got %s, want %s", x.text, got, x.results)
		}
		if whole(v) != before {
			t.Errorf("%s: the program was modified", x.text)
		}
	}
}

// What was called before does not matter, nor what became of the programs.
func TestResultsDependOnArgumentsOnly(t *testing.T) {
	l := samples()
	for range 2 {
		for _, x := range l {
			v := roomy(reflect.ValueOf(x.tree))
			if got := resultsOf(x.text, v.Interface().(api.Program)); got != x.results {
				t.Errorf("%s: got %s, want %s", x.text, got, x.results)
			}
			spoil(v)
			if got := resultsOf(x.text, x.tree); got != x.results {
				t.Errorf("%s: got %s, want %s", x.text, got, x.results)
			}
		}
		slices.Reverse(l)
	}
}

func TestSourcesAreNewMemory(t *testing.T) {
	for _, x := range samples() {
		p, fault := program.Source(x.text)
		before := whole(reflect.ValueOf(p))
		q, _ := program.Source(x.text)
		spoil(reflect.ValueOf(q))
		if whole(reflect.ValueOf(p)) != before {
			t.Errorf("%s: two results share memory", x.text)
		}
		r, again := program.Source(x.text)
		if !reflect.DeepEqual(p, r) || again != fault {
			t.Errorf("%s: got %v and %v at first, and %v and %v later", x.text, p, fault, r, again)
		}
	}
}

func TestConcurrentCalls(t *testing.T) {
	l := samples()
	var g sync.WaitGroup
	for n := range 8 {
		g.Go(func() {
			for i := range l {
				x := l[(i+n/2)%len(l)]
				if got := resultsOf(x.text, x.tree); got != x.results {
					t.Errorf("%s: got %s, want %s", x.text, got, x.results)
				}
			}
		})
	}
	g.Wait()
}
