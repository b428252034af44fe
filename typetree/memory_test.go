package typetree_test

import (
	"sync"
	"testing"

	"duologue/api"
	"duologue/typetree"
)

// P2.4

// roomy returns the type in new memory, where each list has some unused capacity with elements of its own.
func roomy(t api.Type) api.Type {
	labels := append(append(make([]string, 0, len(t.Labels)+2), t.Labels...), "spare", "room")
	kids := make([]api.Type, 0, len(t.Kids)+2)
	for _, kid := range t.Kids {
		kids = append(kids, roomy(kid))
	}
	kids = append(kids, api.Type{Kind: 50}, api.Type{Kind: 51})
	t.Labels, t.Kids = labels[:len(t.Labels)], kids[:len(t.Kids)]
	return t
}

// whole returns the type with the unused capacity of all lists.
func whole(t api.Type) api.Type {
	t.Labels = t.Labels[:cap(t.Labels)]
	kids := t.Kids[:cap(t.Kids)]
	t.Kids = nil
	for _, kid := range kids {
		t.Kids = append(t.Kids, whole(kid))
	}
	return t
}

// spoil overwrites all elements of the lists of a type.
func spoil(t *api.Type) {
	for i := range t.Labels[:cap(t.Labels)] {
		t.Labels[:cap(t.Labels)][i] = "spoilt"
	}
	kids := t.Kids[:cap(t.Kids)]
	for i := range kids {
		spoil(&kids[i])
		kids[i] = api.Type{Kind: 99}
	}
}

// noteMemory adds the elements of all lists of a type to those that were seen, and reports whether all of them are new.
func noteMemory(t api.Type, labels map[*string]bool, kids map[*api.Type]bool) bool {
	ok := true
	for i := range t.Labels[:cap(t.Labels)] {
		at := &t.Labels[:cap(t.Labels)][i]
		ok = ok && !labels[at]
		labels[at] = true
	}
	l := t.Kids[:cap(t.Kids)]
	for i := range l {
		ok = ok && !kids[&l[i]]
		kids[&l[i]] = true
		ok = noteMemory(l[i], labels, kids) && ok
	}
	return ok
}

func memorySamples() []api.Type {
	var l []api.Type
	for _, a := range []api.Type{
		tint, tend, send(1, tint, tend), sel(1, "a b", tend, send(2, tbool, tend)), rec("t", tend),
		rec("t", send(0, tint, tvar("t", 2))), rec("t", branch(0, "a b c", tvar("t", 0), tvar("t", 0), tvar("t", 1))),
		rec("t", rec("u", sel(1, "a b c", tvar("t", 2), tvar("u", 3), rec("t", sel(0, "a", tvar("t", 0)))))),
	} {
		l = append(l, roomy(a))
	}
	return l
}

// results are the functions that return a type.
func results() map[string]func(api.Type) api.Type {
	return map[string]func(api.Type) api.Type{
		"Raise":        func(a api.Type) api.Type { return typetree.Raise(a, 4) },
		"Raise by 0":   func(a api.Type) api.Type { return typetree.Raise(a, 0) },
		"Unfold":       typetree.Unfold,
		"Copy":         typetree.Copy,
		"Unfold twice": func(a api.Type) api.Type { return typetree.Unfold(typetree.Unfold(a)) },
	}
}

func TestResultsShareNoMemoryWithArguments(t *testing.T) {
	for name, f := range results() {
		for _, a := range memorySamples() {
			before := text(whole(a))
			got := f(a)
			want := text(got)
			if text(whole(a)) != before {
				t.Errorf("%s of %s: the argument was modified", name, before)
			}
			spoil(&got)
			if text(whole(a)) != before {
				t.Errorf("%s of %s: the argument is modified with the result", name, before)
			}
			got = f(a)
			spoil(&a)
			if text(got) != want {
				t.Errorf("%s of %s: the result is modified with the argument", name, before)
			}
		}
	}
}

func TestListsOfAResultShareNoMemory(t *testing.T) {
	shared := sel(1, "a b", tend, tend)
	samples := append(memorySamples(), send(0, shared, shared), rec("t", send(0, shared, shared)))
	for name, f := range results() {
		for _, a := range samples {
			if !noteMemory(f(a), map[*string]bool{}, map[*api.Type]bool{}) {
				t.Errorf("%s of %s: two lists of the result share memory", name, text(a))
			}
		}
	}
}

func TestArgumentsStayAsTheyWere(t *testing.T) {
	samples := append(memorySamples(), roomy(tvar("x", 0)), roomy(send(-1, tint, tint)), roomy(sel(0, "b a a", tend, tend, tend)), roomy(api.Type{Labels: []string{"b", "a"}}))
	for _, a := range samples {
		before := text(whole(a))
		typetree.Right(a)
		typetree.Session(a)
		typetree.Size(a)
		typetree.Depth(a)
		for _, b := range samples {
			typetree.Same(a, b)
			typetree.Same(b, a)
		}
		if text(whole(a)) != before {
			t.Errorf("%s: the argument was modified", before)
		}
	}
}

func TestFunctionsAreCalledConcurrently(t *testing.T) {
	a := roomy(rec("t", rec("u", sel(1, "a b", tvar("t", 2), tvar("u", 3)))))
	want := text(unfolded(raised(a, 5)))
	var all sync.WaitGroup
	for range 8 {
		all.Go(func() {
			for range 200 {
				if typetree.Right(a) != api.OK || text(typetree.Unfold(typetree.Raise(typetree.Copy(a), 5))) != want {
					t.Error("another result than that of a single call")
				}
			}
		})
	}
	all.Wait()
}
