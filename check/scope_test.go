package check_test

import (
	"testing"

	"duologue/api"
)

// Tests of PNew and PPar.

func TestNew(t *testing.T) {
	for _, x := range []struct {
		typ, process string
		err, loose   api.Errno
	}{
		{"end", "stop", ok, ok}, {"rec t.end", "stop", ok, ok}, {"end", "(stop | stop)", ok, ok},
		{"!int.end", "stop", linear, linear}, {"!int.end", "a!<1>.stop", badPrio, linear}, {"!int.end", "b?(x).stop", badPrio, linear},
		{"!int.end", "b?(x).a!<1>.stop", badPrio, ok}, {"!int.?1 int.end", "b?(x).a!<1>.b!<2>.a?(y).stop", badPrio, ok},
		{"!int.end", "(a!<1>.stop | b?(x).stop)", ok, ok}, {"!int.end", "(b?(x).stop | a!<1>.stop)", ok, ok},
		{"!int.end", "(a?(x).stop | b!<1>.stop)", badType, badType}, {"?int.end", "(a?(x).stop | b!<1>.stop)", ok, ok},
		{"?int.end", "(a!<1>.stop | b?(x).stop)", badType, badType}, {"!int.end", "(a!<1>.stop | b!<1>.stop)", badType, badType},
		{"!int.end", "(a!<1>.stop | stop)", linear, linear}, {"!int.end", "(stop | b?(x).stop)", linear, linear},
		{"!bool.end", "(a!<true>.stop | b?(x).new (c, d: !bool.end) (c!<x>.stop | d?(y).stop))", ok, ok},
		{"!bool.end", "(a!<true>.stop | b?(x).new (c, d: !int.end) (c!<x>.stop | d?(y).stop))", badType, badType},
		{"+{l: end, m: end}", "(a.m.stop | b&{m: stop, l: stop})", ok, ok}, {"+{l: end, m: end}", "(a.m.stop | b&{m: stop})", badLabel, badLabel},
		{"+{l: end, m: end}", "(a&{m: stop, l: stop} | b.l.stop)", badType, badType}, {"&{l: end, m: end}", "(a&{m: stop, l: stop} | b.l.stop)", ok, ok},
		{"!int.?1 bool.end", "(a!<1>.a?(x).stop | b?(x).b!<true>.stop)", ok, ok}, {"!int.?1 bool.end", "(a!<1>.a?(x).stop | b?(x).b!<x>.stop)", badType, badType},
		{"!int.?1 bool.end", "(a!<1>.stop | b?(x).b!<true>.stop)", linear, linear}, {"!int.?1 bool.end", "(a!<1>.a?(x).stop | b?(x).b?(y).stop)", badType, badType},
		{"+{l: !1 int.end, m: end}", "(a.l.a!<1>.stop | b&{m: stop, l: b?(x).stop})", ok, ok}, {"rec t.!t.end", "(a!<b>.stop | stop)", badType, badType},
		{"rec t.+{m: !1 int.t+2, e: end}", "(a.m.a!<1>.a.e.stop | b&{m: b?(x).b&{m: b?(y).Y<b>, e: stop}, e: stop})", ok, ok},
		{"rec t.+{m: !1 int.t+2, e: end}", "(Y<b> | a.m.a!<1>.a.e.stop)", ok, ok}, {"rec t.+{m: !1 int.t+2, e: end}", "(Y<a> | b&{m: stop, e: stop})", badType, badType},
	} {
		wantBody(t, "def Y(a: rec t.&{m: ?1 int.t+2, e: end}) = stop; main = new (a, b: "+x.typ+") "+x.process+";", 1, x.err, x.loose)
	}
}

// The payloads of both endpoints are the same.
func TestPayloadOfNewChannels(t *testing.T) {
	for _, x := range []struct {
		typ, use string
		err      api.Errno
	}{
		{"!2 (!5 int.end).end", "a!<c>.d?(y).stop | b?(x).x!<1>.stop", ok},
		{"!2 (!5 int.end).end", "a!<c>.d?(y).stop | b?(x).x?(z).stop", badType},
		{"!2 (!5 int.end).end", "a!<d>.c!<1>.stop | b?(x).x?(z).stop", badType},
		{"!2 (?5 int.end).end", "a!<d>.c!<1>.stop | b?(x).x?(z).stop", ok},
		{"?2 (!5 int.end).end", "a?(x).x!<1>.stop | b!<c>.d?(y).stop", ok},
		{"?2 (!5 int.end).end", "a?(x).x!<1>.stop | b!<d>.c!<1>.stop", badType},
		{"?2 (?5 int.end).end", "a?(x).x?(z).stop | b!<d>.c!<1>.stop", ok},
		{"!2 (!4 int.end).end", "a!<c>.d?(y).stop | b?(x).x!<1>.stop", badType},
		{"!5 (!5 int.end).end", "a!<c>.d?(y).stop | b?(x).x!<1>.stop", badPrio},
	} {
		want(t, "", "new (a, b: "+x.typ+") new (c, d: !5 int.end) ("+x.use+")", x.err)
		want(t, "", "new (c, d: !5 int.end) new (a, b: "+x.typ+") ("+x.use+")", x.err)
	}
}

// Each of many PNew nodes has its own type, whatever is in front of it, and below it.
func TestManyNewNodes(t *testing.T) {
	branch := "a: &{l: end, m: end}"
	want(t, branch, "a&{l: new (b, c: !1 int.end) (b!<1>.stop | c?(x).stop), m: new (b, c: ?1 int.end) (c!<1>.stop | b?(x).stop)}", ok)
	want(t, branch, "a&{l: new (b, c: !1 int.end) (b!<1>.stop | c?(x).stop), m: new (b, c: !1 int.end) (c!<1>.stop | b?(x).stop)}", badType)
	want(t, "", "new (a, b: !1 int.end) (new (c, d: +2 {l: end}) (c.l.a!<1>.stop | d&{l: stop}) | new (e, f: ?3 bool.end) (e?(x).b?(y).stop | f!<true>.stop))", badPrio)
	want(t, "", "new (a, b: !4 int.end) (new (c, d: +2 {l: end}) (c.l.a!<1>.stop | d&{l: stop}) | new (e, f: ?3 bool.end) (e?(x).b?(y).stop | f!<true>.stop))", ok)
	want(t, "", "new (a, b: end) new (c, d: rec t.end) new (e, f: !2 int.end) (new (g, h: rec t.rec u.&{l: end}) (h.l.e!<1>.stop | g&{l: f?(x).stop}))", ok)
	p := "def V(a: int, b: !1 int.end) = new (c, d: ?3 int.end) (b!<a>.c?(x).stop | d!<a>.stop); def W() = new (x, y: end) stop; def X(c: +2 {l: end}) = new (a, b: &4 {m: end}) (c.l.a&{m: stop} | b.m.stop); main = new (a, b: +7 {n: end, o: end}) (a.n.stop | b&{o: stop, n: stop});"
	for i := range 4 {
		wantBody(t, p, i, ok, ok)
	}
}

func TestParallel(t *testing.T) {
	for _, x := range []struct {
		p, process string
		err        api.Errno
	}{
		{"", "stop | stop", ok}, {"a: end", "stop | stop", ok}, {"a: end, n: int", "stop | stop | stop", ok},
		// None of the Kids, one of them, and more.
		{"a: !int.end", "stop | stop", linear}, {"a: !int.end", "a!<1>.stop | stop", ok}, {"a: !int.end", "stop | a!<1>.stop", ok},
		{"a: !int.end", "stop | a!<1>.stop | stop", ok}, {"a: !int.end", "stop | stop | a!<1>.stop", ok}, {"a: !int.end", "a!<1>.stop | a!<2>.stop", linear},
		{"a: !int.end", "a!<1>.stop | stop | a!<2>.stop", linear}, {"a: !int.end", "a!<1>.stop | a!<1>.stop | a!<2>.stop", linear},
		{"a: !int.end, b: !int.end", "a!<1>.stop | b!<1>.stop", ok}, {"a: !int.end, b: !int.end", "b!<1>.stop | a!<1>.stop", ok},
		{"a: !int.end, b: !int.end", "a!<1>.stop | stop", linear}, {"a: !int.end, b: !int.end", "a!<1>.b!<1>.stop | stop", badPrio},
		{"a: !int.end, b: !1 int.end", "a!<1>.b!<1>.stop | stop", ok}, {"a: !int.end, b: !1 int.end", "a!<1>.b!<1>.stop | b!<1>.stop", linear},
		{"a: !int.end, b: !int.end, c: !int.end", "c!<1>.stop | a!<1>.stop | b!<1>.stop", ok},
		{"a: !int.end, b: !int.end, c: !int.end", "c!<1>.stop | a!<1>.stop | c!<1>.stop", linear},
		// As a value, as an argument, and below other nodes.
		{"a: !int.end, b: !(!int.end).end", "b!<a>.stop | stop", badPrio}, {"a: !1 int.end, b: !(!1 int.end).end", "b!<a>.stop | stop", ok},
		{"a: !1 int.end, b: !(!1 int.end).end", "b!<a>.stop | a!<1>.stop", linear}, {"a: !1 int.end, b: !(!1 int.end).end", "a!<1>.stop | b!<a>.stop", linear},
		{"a: ?int.end, c: !int.end", "c!<1>.Y<a> | stop", badPrio}, {"a: ?1 int.end, c: !int.end", "c!<1>.Y<a> | stop", ok}, {"a: ?1 int.end, c: !int.end", "stop | c!<1>.Y<a>", ok},
		{"a: ?1 int.end, c: !int.end", "a?(x).stop | c!<1>.Y<a>", linear}, {"a: ?1 int.end, c: !int.end", "c!<1>.Z<> | a?(x).stop", ok},
		// A name that is only bound in a Kid is not free there.
		{"a: !1 int.end, c: !int.end", "c!<1>.stop | new (b, d: !2 int.end) (a!<1>.b!<1>.stop | d?(x).stop)", ok},
		{"a: !1 int.end, c: ?int.end", "c?(x).stop | new (b, d: !2 int.end) (a!<1>.b!<1>.stop | d?(x).stop)", ok},
		// PPars in each other.
		{"a: !1 int.end, b: !1 int.end, c: ?int.end", "c?(x).(a!<1>.stop | b!<1>.stop) | stop", ok}, {"a: !1 int.end, b: !1 int.end, c: ?int.end", "c?(x).(a!<1>.stop | stop) | b!<1>.stop", ok},
		{"a: !1 int.end, b: !1 int.end, c: ?int.end", "c?(x).(a!<1>.stop | b!<1>.stop) | b!<1>.stop", linear}, {"a: !1 int.end, b: !1 int.end, c: ?int.end", "c?(x).(a!<1>.stop | a!<1>.stop) | b!<1>.stop", linear},
		{"a: !1 int.end, b: !1 int.end, c: ?int.end", "c?(x).stop | (new (d, e: end) (a!<1>.stop | b!<1>.stop))", ok},
		// Names that are not live are in all Kids.
		{"n: int, a: !int.end, b: !int.end", "a!<n>.stop | b!<n>.stop", ok}, {"n: int, a: !int.end, b: !int.end, c: !bool.end", "a!<n>.stop | b!<n>.stop | c!<n>.stop", badType},
		{"e: end, a: !end.end, b: !end.end", "a!<e>.stop | b!<e>.stop", ok}, {"e: end, a: !end.end, b: !end.end", "a!<e>.stop | b!<1>.stop", badType},
		{"e: end, a: !end.end, b: !1 end.end", "a!<e>.b!<e>.stop | stop", ok}, {"e: rec t.end, a: !end.end, b: !1 end.end", "stop | a!<e>.b!<a>.stop", ok},
		// A channel that is used up can be in many Kids, and so can one of the type end.
		{"a: !int.end, b: !1 end.end, c: !1 end.end", "a!<1>.(b!<a>.stop | c!<a>.stop)", ok}, {"a: !int.!1 int.end, b: !1 end.end, c: !1 end.end", "a!<1>.(b!<a>.stop | c!<a>.stop)", linear},
		// The Kids do not wait for each other.
		{"a: !5 int.end, b: !5 int.end, c: !3 int.end", "a!<1>.stop | b!<1>.stop | c!<1>.stop", ok}, {"a: !5 int.end, b: !5 int.end, c: !3 int.end", "a!<1>.c!<2>.stop | b!<1>.stop", badPrio},
		{"a: !5 int.end, b: !5 int.end, c: !3 int.end", "c!<1>.a!<2>.stop | b!<1>.stop", ok},
	} {
		want(t, x.p, x.process, x.err, "def Y(a: ?int.end) = stop;", "def Z() = stop;")
	}
}
