package proctree_test

import (
	"fmt"
	"slices"
	"strings"
	"testing"

	"duologue/api"
	"duologue/proctree"
)

// P3.4

// wantFree takes the names as one text with blanks.
func wantFree(t *testing.T, want string, p api.Proc) {
	t.Helper()
	if got := proctree.Free(p); !slices.Equal(got, strings.Fields(want)) {
		t.Errorf("%s: got %q, want %q", short(p), got, want)
	}
}

func TestFreeNamesInEveryPlace(t *testing.T) {
	wantFree(t, "a b", send("a", name("b"), stop))
	wantFree(t, "a", send("a", num(1), stop))
	wantFree(t, "a", send("a", boolean(1), stop))
	wantFree(t, "a", recv("a", "x", stop))
	wantFree(t, "a", sel("a", "l", stop))
	wantFree(t, "a", branch("a", "l m", stop, stop))
	wantFree(t, "a b", call("X", name("a"), num(1), boolean(0), name("b")))
	wantFree(t, "", stop)
	wantFree(t, "", call("X"))
	wantFree(t, "", restrict("a", "b", tend, stop))
	wantFree(t, "", par(stop, stop))
	wantFree(t, "a b c d e f", par(send("a", name("b"), recv("c", "x", stop)), branch("d", "l m", stop, sel("e", "n", call("X", name("f"))))))
}

func TestNamesOfOtherThingsAreNotFree(t *testing.T) {
	wantFree(t, "a", send("a", name("a"), recv("a", "X", call("X", name("X")))))
	wantFree(t, "a", branch("a", "l m n", sel("a", "o", stop), stop, call("Y")))
	wantFree(t, "", restrict("a", "b", trec("t", tsend(0, tvar("t"), tvar("t"))), call("t")))
	wantFree(t, "t", restrict("a", "b", trec("t", tend), call("t", name("t"))))
	wantFree(t, "X", par(call("X"), call("Y", name("X"))))
}

func TestTheOrderOfFreeNames(t *testing.T) {
	wantFree(t, "b a", send("b", name("a"), stop))
	wantFree(t, "z y x w", send("z", name("y"), send("x", name("w"), stop)))
	wantFree(t, "c b a", branch("c", "l m", sel("b", "l", stop), sel("a", "l", stop)))
	wantFree(t, "c a b", branch("c", "m l", sel("a", "l", sel("c", "l", stop)), sel("b", "l", sel("a", "l", stop))))
	wantFree(t, "d c b a", call("X", name("d"), name("c"), name("b"), name("a")))
	wantFree(t, "b a c", par(send("b", name("a"), stop), send("a", name("b"), stop), send("c", name("a"), stop)))
}

func TestEachFreeNameIsThereOnce(t *testing.T) {
	wantFree(t, "a", send("a", name("a"), send("a", name("a"), stop)))
	wantFree(t, "a", call("X", name("a"), name("a"), name("a")))
	wantFree(t, "a b", par(call("X", name("a")), call("Y", name("b")), call("X", name("a")), call("Y", name("b"))))
	wantFree(t, "a", branch("a", "l m", recv("a", "x", stop), send("a", num(1), call("X", name("a")))))
}

func TestNamesThatAReceptionBinds(t *testing.T) {
	wantFree(t, "a", recv("a", "x", send("x", name("x"), recv("x", "y", call("X", name("x"), name("y"))))))
	wantFree(t, "a", recv("a", "x", branch("x", "l m", sel("x", "l", stop), stop)))
	wantFree(t, "a b", recv("a", "x", send("b", name("x"), stop)))
	wantFree(t, "a", recv("a", "a", send("a", name("a"), stop)))
	wantFree(t, "x", recv("x", "x", recv("x", "x", stop)))
}

func TestNamesThatANewBinds(t *testing.T) {
	wantFree(t, "", restrict("a", "b", tend, send("a", name("b"), sel("b", "l", call("X", name("a"), name("b"))))))
	wantFree(t, "c", restrict("a", "b", tend, par(send("a", name("c"), stop), branch("b", "l", stop))))
	wantFree(t, "a", par(restrict("a", "b", tend, call("X", name("a"), name("b"))), recv("a", "b", call("X", name("b")))))
	wantFree(t, "a b", send("a", name("b"), restrict("a", "b", tend, send("a", name("b"), stop))))
	wantFree(t, "", restrict("a", "b", tend, restrict("b", "a", tend, par(sel("a", "l", stop), sel("b", "l", stop)))))
}

func TestNamesThatAreFreeInOnePlaceOnly(t *testing.T) {
	wantFree(t, "a x", par(recv("a", "x", sel("x", "l", stop)), sel("x", "l", stop)))
	wantFree(t, "x a", par(sel("x", "l", stop), recv("a", "x", sel("x", "l", stop))))
	wantFree(t, "a x", branch("a", "l m", recv("a", "x", sel("x", "l", stop)), sel("x", "l", stop)))
	wantFree(t, "b c a", par(restrict("a", "d", tend, call("X", name("a"), name("b"), name("d"))), call("X", name("c"), name("a"))))
	// The inner binder ends, and the outer one does not.
	wantFree(t, "a", recv("a", "x", par(recv("a", "x", sel("x", "l", stop)), sel("x", "l", stop))))
	wantFree(t, "", restrict("a", "b", tend, par(restrict("b", "c", tend, sel("b", "l", stop)), sel("b", "l", recv("a", "a", stop)), sel("a", "l", stop))))
	wantFree(t, "c", restrict("a", "b", tend, par(restrict("b", "c", tend, sel("c", "l", stop)), sel("c", "l", stop))))
}

func TestFreeNamesOfTheExample(t *testing.T) {
	wantFree(t, "a b", send("a", name("b"), restrict("c", "d", tend, send("c", name("a"), stop))))
}

// Endpoints (layer 17) are names of processes that are not well-formed.
func TestFreeNamesThatAreNoNames(t *testing.T) {
	wantFree(t, "0+ 1- 5", send("0+", name("1-"), sel("5", "l", stop)))
	wantFree(t, "int", recv("int", "true", send("true", name("true"), stop)))
}

func TestFreeOfProcessesThatAreNotRight(t *testing.T) {
	wantFree(t, "", api.Proc{})
	for k := -1; k < 11; k++ {
		p := api.Proc{Kind: k, Chan: "a", Var: "b", Labels: []string{"l"}, Args: []api.Value{name("a"), {Kind: api.VInt, Name: "n"}, name("c"), name("b"), {Name: "n"}}, T: tvar("t"), Kids: []api.Proc{call("X", name("b"), name("a"), name("d")), {Args: []api.Value{name("e")}}}}
		// Chan and Var are bound in the Kids, and not in the Args.
		want := "a c b d e"
		wantFree(t, want, p)
		p.Args = nil
		switch {
		case k == api.PNew:
			want = "d e"
		case k == api.PRecv:
			want = "a d e"
		case proctree.Prefix(p):
			want = "a b d e"
		default:
			want = "b a d e"
		}
		wantFree(t, want, p)
	}
	if got := proctree.Free(send("", name(""), stop)); !slices.Equal(got, []string{""}) {
		t.Errorf("got %q", got)
	}
	if got := proctree.Free(recv("", "", send("", name(""), stop))); !slices.Equal(got, []string{""}) {
		t.Errorf("got %q", got)
	}
	wantFree(t, "a", recv("a", "", send("", name(""), stop)))
	wantFree(t, "a b", par(restrict("a", "a", tend, sel("a", "l", stop)), sel("a", "l", sel("b", "l", stop))))
}

func TestFreeOfDeepAndWideProcesses(t *testing.T) {
	wantFree(t, "a", chain(1000))
	deep := call("X", name("x0"), name("x999"), name("y"))
	for i := range 998 {
		deep = recv("a", fmt.Sprintf("x%d", i), deep)
	}
	wantFree(t, "a x999 y", deep)
	var kids []api.Proc
	var want []string
	for i := range 9999 {
		want = append(want, fmt.Sprintf("n%d", 9999-i))
		kids = append(kids, sel(want[i], "l", sel(want[i/2], "l", stop)))
	}
	wantFree(t, strings.Join(want, " "), par(kids...))
}
