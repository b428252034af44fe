package parse_test

import (
	"sync"
	"testing"

	"duologue/api"
	"duologue/parse"
)

// elements has the addresses of all elements of the lists of a tree, also of those in unused capacity.
type elements map[any]bool

// addTo adds the elements of a list, and reports whether all of them are new.
func addTo[E any](seen elements, l []E) bool {
	whole := l[:cap(l)]
	for i := range whole {
		if seen[&whole[i]] {
			return false
		}
		seen[&whole[i]] = true
	}
	return true
}

func (seen elements) addType(t api.Type) bool {
	ok := addTo(seen, t.Labels) && addTo(seen, t.Kids)
	for _, kid := range t.Kids {
		ok = ok && seen.addType(kid)
	}
	return ok
}

func (seen elements) addProcess(p api.Proc) bool {
	ok := addTo(seen, p.Labels) && addTo(seen, p.Args) && addTo(seen, p.Kids) && seen.addType(p.T)
	for _, kid := range p.Kids {
		ok = ok && seen.addProcess(kid)
	}
	return ok
}

func (seen elements) addProgram(p api.Program) bool {
	ok := addTo(seen, p.Defs) && seen.addProcess(p.Main)
	for _, d := range p.Defs {
		ok = ok && addTo(seen, d.Params) && seen.addProcess(d.Body)
		for _, q := range d.Params {
			ok = ok && seen.addType(q.T)
		}
	}
	return ok
}

func parsed(t *testing.T, s string) api.Program {
	p, f := parse.Program(s)
	if f != (api.Fault{}) {
		t.Fatalf("%s: fault %v", short(s), f)
	}
	return p
}

// Rule 5: no two lists share memory, neither in one tree nor in two trees of the same text.
func TestTreesShareNoMemory(t *testing.T) {
	for _, s := range texts()["program"] {
		seen := elements{}
		if !seen.addProgram(parsed(t, s)) {
			t.Errorf("%s: two lists of the tree share memory", short(s))
		}
		if !seen.addProgram(parsed(t, s)) {
			t.Errorf("%s: two trees share memory", short(s))
		}
	}
	s := "main = (X<a> | (Y<b> | (Z<c> | X<>)) | a.b.((X<> | Y<>) | Z<>)) | ((X<> | Y<>) | (Z<> | X<>));"
	if seen := (elements{}); !seen.addProgram(parsed(t, s)) {
		t.Errorf("%s: two lists of the tree share memory", short(s))
	}
}

// Rule 8: functions may be called concurrently.
func TestConcurrentCalls(t *testing.T) {
	all := texts()["program"]
	var want []api.Program
	for _, s := range all {
		want = append(want, parsed(t, s))
	}
	var g sync.WaitGroup
	for range 8 {
		g.Go(func() {
			for range 20 {
				for i, s := range all {
					wantFaults(t, "program", api.ErrSyntax, s+"@;")
					wantProgram(t, s, want[i])
				}
			}
		})
	}
	g.Wait()
}
