package check_test

import (
	"fmt"
	"testing"

	"duologue/api"
)

// wantCall checks the error of a call of Y behind a prefix, where Y has parameters, and names have types (p). There is also a
// name z, whose type is end.
func wantCall(t *testing.T, params, p, args string, err api.Errno) {
	t.Helper()
	want(t, joined(p, "z: !end.end"), "new (y, x: end) z!<y>.Y<"+args+">", err, "def Y("+params+") = stop;")
	want(t, joined(p, "z: &{l: end, m: end}"), "z&{m: Y<"+args+">, l: Y<"+args+">}", err, "def Z() = stop;", "def Y("+params+") = stop;")
}

func TestArgumentsThatAreNotLive(t *testing.T) {
	for _, x := range []struct {
		param, p, arg string
		err           api.Errno
	}{
		{"int", "", "1", ok}, {"int", "", "-1", ok}, {"int", "", "true", badType}, {"int", "", "false", badType}, {"int", "v: int", "v", ok},
		{"int", "v: bool", "v", badType}, {"int", "v: end", "v", badType}, {"int", "v: !1 int.end", "v", badType}, {"int", "", "z", badType},
		{"bool", "", "1", badType}, {"bool", "", "0", badType}, {"bool", "", "true", ok}, {"bool", "", "false", ok}, {"bool", "v: bool", "v", ok},
		{"bool", "v: int", "v", badType}, {"bool", "v: rec t.end", "v", badType}, {"bool", "v: ?1 bool.end", "v", badType},
		{"end", "", "1", badType}, {"end", "", "true", badType}, {"end", "v: end", "v", ok}, {"end", "v: rec t.end", "v", ok}, {"rec t.end", "v: end", "v", ok},
		{"end", "v: int", "v", badType}, {"end", "v: bool", "v", badType}, {"end", "v: &1 {l: end}", "v", badType}, {"end", "", "z", ok},
		{"!1 int.end", "", "1", badType}, {"!1 int.end", "", "true", badType}, {"!1 int.end", "v: int", "v", badType}, {"!1 int.end", "v: bool", "v", badType},
		{"!1 int.end", "v: end", "v", badType}, {"!1 int.end", "v: rec t.end", "v", badType}, {"!1 int.end", "", "z", badType},
	} {
		wantCall(t, "a: "+x.param, x.p, x.arg, x.err)
		// In front of others, and behind them.
		wantCall(t, "b: int, a: "+x.param+", c: bool", x.p, "5, "+x.arg+", false", x.err)
		wantCall(t, "b: !9 int.end, a: "+x.param, joined("w: !9 int.end", x.p), "w, "+x.arg, x.err)
		wantCall(t, "a: "+x.param+", b: !9 int.end", joined("w: !8 int.end", x.p), x.arg+", w", x.err)
		if x.err == ok {
			// Names that are not live can be used again.
			wantCall(t, "a: "+x.param+", b: "+x.param, x.p, x.arg+", "+x.arg, ok)
			wantCall(t, "a: "+x.param+", b: bool", x.p, x.arg+", 1", badType)
			wantCall(t, "b: bool, a: "+x.param, x.p, "1, "+x.arg, badType)
		}
	}
}

func TestArgumentsThatAreLive(t *testing.T) {
	for _, x := range []struct {
		param, arg string
		err        api.Errno
	}{
		{"!5 int.end", "!5 int.end", ok}, {"!5 int.end", "!7 int.end", ok}, {"!5 int.end", "!1 int.end", ok}, {"!5 int.end", "!1 bool.end", badType},
		{"!5 int.end", "?5 int.end", badType}, {"!5 int.end", "+5 {l: end}", badType}, {"?5 int.end", "?5 int.end", ok}, {"?5 int.end", "!5 int.end", badType},
		{"+5 {l: end}", "&5 {l: end}", badType}, {"&5 {l: end}", "+5 {l: end}", badType},
		// Subtypes, wherever they begin.
		{"+5 {l: end}", "+5 {l: end, m: end}", ok}, {"+5 {l: end}", "+8 {m: end, l: end}", ok}, {"+5 {l: end, m: end}", "+5 {l: end}", badType},
		{"&5 {l: end, m: end}", "&5 {l: end}", ok}, {"&5 {l: end, m: end}", "&2 {m: end}", ok}, {"&5 {l: end}", "&5 {l: end, m: end}", badType},
		{"!5 int.+6 {l: end}", "!5 int.+6 {l: end, m: end}", ok}, {"!5 int.+6 {l: end, m: end}", "!5 int.+6 {l: end}", badType},
		{"!5 (+6 {l: end, m: end}).end", "!5 (+6 {l: end}).end", ok}, {"!5 (+6 {l: end}).end", "!5 (+6 {l: end, m: end}).end", badType},
		{"?5 (+6 {l: end}).end", "?5 (+6 {l: end, m: end}).end", ok}, {"?5 (+6 {l: end, m: end}).end", "?5 (+6 {l: end}).end", badType},
		// All of a type is raised by the same number.
		{"!5 int.!6 int.end", "!5 int.!6 int.end", ok}, {"!5 int.!6 int.end", "!9 int.!10 int.end", ok}, {"!5 int.!6 int.end", "!1 int.!2 int.end", ok},
		{"!5 int.!6 int.end", "!9 int.!6 int.end", badType}, {"!5 int.!6 int.end", "!5 int.!10 int.end", badType}, {"!5 int.!6 int.end", "!1 int.!6 int.end", badType},
		{"!5 (!6 int.end).end", "!7 (!8 int.end).end", ok}, {"!5 (!6 int.end).end", "!7 (!6 int.end).end", badType}, {"?5 (!9 int.end).end", "?1 (!5 int.end).end", ok},
		{"?1000000 int.end", "?1 int.end", ok}, {"?int.end", "?1000000 int.end", ok}, {"?int.?1000000 bool.end", "?1000000 int.?1000000 bool.end", badType},
		// Recursive types.
		{"rec t.!5 int.t", "rec t.!5 int.t", ok}, {"rec t.!5 int.t", "rec t.!9 int.t", ok}, {"rec t.!5 int.t", "!9 int.rec t.!9 int.!9 int.t", ok},
		{"rec t.!5 int.t+1", "rec t.!9 int.t+1", ok}, {"rec t.!5 int.t+1", "rec t.!9 int.t", badType}, {"rec t.!5 int.t+1", "!3 int.rec t.!4 int.t+1", ok},
		{"rec t.!5 int.t+1", "!3 int.rec t.!5 int.t+1", badType}, {"rec t.!5 int.t+3", "rec t.!1 int.!4 int.t+6", ok}, {"rec t.!5 int.t+3", "rec t.!1 int.!4 int.t+7", badType},
		{"rec t.+5 {l: t+2}", "rec t.+1 {l: t+2, m: end}", ok}, {"rec t.+5 {l: t+2, m: end}", "rec t.+1 {l: t+2}", badType},
		{"rec t.!5 (t+1).end", "rec t.!1 (t+1).end", ok}, {"rec t.!5 (t+1).end", "!1 (rec t.!2 (t+1).end).end", ok}, {"rec t.!5 (t+1).end", "!1 (rec t.!3 (t+1).end).end", badType},
		{"rec t.?5 (rec u.!6 (u).t).end", "rec t.?7 (rec u.!8 (u).t).end", ok}, {"rec t.?5 (rec u.!6 (u).t).end", "rec t.?7 (rec u.!9 (u).t).end", badType},
	} {
		wantCall(t, "a: "+x.param, "v: "+x.arg, "v", x.err)
		wantCall(t, "n: int, e: end, a: "+x.param+", b: bool", "v: "+x.arg, "1, z, v, true", x.err)
		wantCall(t, "n: int, a: "+x.param, "v: "+x.arg+", e: int", "e, v", x.err)
	}
}

// All parameters of a call are raised by the same number, for which the first one with an action asks.
func TestParametersAreRaisedTogether(t *testing.T) {
	for _, x := range []struct {
		params, args [2]int
		err          api.Errno
	}{
		{[2]int{5, 6}, [2]int{5, 6}, ok}, {[2]int{5, 6}, [2]int{7, 8}, ok}, {[2]int{5, 6}, [2]int{2, 3}, ok}, {[2]int{5, 6}, [2]int{5, 7}, badType},
		{[2]int{5, 6}, [2]int{6, 6}, badType}, {[2]int{5, 6}, [2]int{4, 6}, badType}, {[2]int{5, 6}, [2]int{5, 5}, badType}, {[2]int{6, 5}, [2]int{3, 2}, ok},
		{[2]int{6, 5}, [2]int{2, 3}, badType}, {[2]int{5, 5}, [2]int{9, 9}, ok}, {[2]int{0, 0}, [2]int{1, 1000000}, badType}, {[2]int{0, 999999}, [2]int{1, 1000000}, ok},
	} {
		params := fmt.Sprintf("a: !%d int.end, b: +%d {l: end}", x.params[0], x.params[1])
		args := fmt.Sprintf("v: !%d int.end, w: +%d {l: end, m: end}", x.args[0], x.args[1])
		wantCall(t, params, args, "v, w", x.err)
		wantCall(t, "n: int, "+params+", m: bool", args, "1, v, w, true", x.err)
		wantCall(t, "e: end, "+params, args+", e: end", "e, v, w", x.err)
		params = fmt.Sprintf("b: +%d {l: end}, n: int, a: !%d int.end", x.params[1], x.params[0])
		wantCall(t, params, args, "w, -3, v", x.err)
		wantCall(t, params+", c: end", args+", e: end", "w, -3, v, e", x.err)
	}
	// Three parameters, of which the last one does not fit.
	wantCall(t, "a: !1 int.end, b: !2 int.end, c: !3 int.end", "v: !4 int.end, w: !5 int.end, x9: !6 int.end", "v, w, x9", ok)
	wantCall(t, "a: !1 int.end, b: !2 int.end, c: !3 int.end", "v: !4 int.end, w: !5 int.end, x9: !7 int.end", "v, w, x9", badType)
	wantCall(t, "a: !1 int.end, b: !2 int.end, c: !3 int.end", "v: !4 int.end, w: !6 int.end, x9: !6 int.end", "v, w, x9", badType)
	wantCall(t, "a: !1 int.end, b: !2 int.end, c: !3 int.end", "v: !5 int.end, w: !5 int.end, x9: !6 int.end", "v, w, x9", badType)
	// Each call has a number of its own.
	p := "v: !5 int.end, w: !5 int.end, x: &{l: end, m: end}"
	want(t, "x: &{l: end, m: !1 int.end}, v: !5 int.end", "x&{l: Y<v>, m: x!<1>.Y<v>}", ok, "def Y(a: !2 int.end) = a!<1>.stop;")
	want(t, "x: &{l: end, m: !1 int.end}, v: !5 int.?7 int.end", "x&{l: Y<v>, m: x!<1>.v!<2>.Z<v>}", ok, "def Y(a: !2 int.?4 int.end) = stop;", "def Z(a: ?int.end) = stop;")
	want(t, p, "x&{l: (Y<v> | Y<w>), m: (Z<w, v> | Z<6, 7>)}", badType, "def Y(a: !2 int.end) = stop;", "def Z(a: !int.end, b: !int.end) = stop;")
	want(t, p, "x&{l: (Y<v> | Y<w>), m: (Z<w, v> | W0<6, 7>)}", ok, "def Y(a: !2 int.end) = stop;", "def Z(a: !int.end, b: !int.end) = stop;", "def W0(a: int, b: int) = stop;")
}

// late are types that come after the prefix in front of a call.
var late = []string{"!5 int.end", "?5 bool.end", "+5 {a: end}", "rec t.&5 {a: t+1}"}

func TestSameArgumentTwice(t *testing.T) {
	for _, s := range dead {
		wantCall(t, "a: "+s+", b: "+s, "v: "+s, "v, v", ok)
	}
	for _, s := range late {
		wantCall(t, "a: "+s+", b: "+s, "v: "+s, "v, v", linear)
		wantCall(t, "a: "+s+", c: !9 int.end, b: "+s, "v: "+s+", w: !9 int.end", "v, w, v", linear)
		wantCall(t, "c: !9 int.end, a: "+s+", b: "+s, "v: "+s+", w: !9 int.end", "w, v, v", linear)
		wantCall(t, "a: "+s+", b: "+s, "v: "+s+", w: "+s, "w, v", ok)
	}
}

func TestLiveNamesThatAreNoArgument(t *testing.T) {
	for _, s := range late {
		wantCall(t, "", "v: "+s, "", linear)
		wantCall(t, "n: int", "v: "+s, "1", linear)
		wantCall(t, "a: "+s, "v: "+s+", w: "+s, "v", linear)
		wantCall(t, "a: "+s, "v: "+s+", w: "+s, "w", linear)
		wantCall(t, "a: "+s+", b: "+s, "v: "+s+", w: "+s+", u: "+s, "w, u", linear)
		wantCall(t, "a: "+s+", b: "+s+", c: "+s, "v: "+s+", w: "+s+", u: "+s, "w, u, v", ok)
	}
	wantCall(t, "", "n: int, m: bool, e: end, f: rec t.end", "", ok)
	wantCall(t, "a: int", "n: int, m: bool, e: end, f: rec t.end", "n", ok)
}
