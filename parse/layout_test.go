package parse_test

import (
	"math/rand/v2"
	"strconv"
	"strings"
	"testing"

	"duologue/api"
	"duologue/lex"
)

// The functions of this file make trees by chance (the same ones each time), and write texts of trees in many ways.

// maker makes trees.
type maker struct {
	*rand.Rand
}

func newMaker(seed uint64) maker {
	return maker{rand.New(rand.NewPCG(4, seed))}
}

func (m maker) name() string {
	names := [...]string{"a", "b", "c", "t", "X", "_", "_0", "stops", "Int", "end1", "a_b", "new2"}
	return names[m.IntN(len(names))]
}

func (m maker) names(n int) []string {
	var l []string
	for range n {
		l = append(l, m.name())
	}
	return l
}

// number is a priority or a shift, and often 0.
func (m maker) number() int {
	numbers := [...]int{0, 0, 0, 1, 2, 10, 999, api.MaxPrio}
	return numbers[m.IntN(len(numbers))]
}

func (m maker) value() api.Value {
	switch m.IntN(4) {
	case 0:
		return num(m.Int64() - m.Int64())
	case 1:
		return boolean(m.Int64N(2))
	case 2:
		return num(m.Int64N(10))
	}
	return name(m.name())
}

// payload is a type of any kind.
func (m maker) payload(depth int) api.Type {
	switch m.IntN(4) {
	case 0:
		return tint
	case 1:
		return tbool
	}
	return m.session(depth)
}

func (m maker) session(depth int) api.Type {
	if depth < 2 {
		if m.IntN(2) == 0 {
			return tend
		}
		return tvar(m.name(), m.number())
	}
	switch kind := api.TEnd + m.IntN(7); kind {
	case api.TEnd, api.TVar:
		return m.session(1)
	case api.TRec:
		return trec(m.name(), m.session(depth-1))
	case api.TSend, api.TRecv:
		return exchange(kind, m.number(), m.payload(depth-1), m.session(depth-1))
	default:
		t := api.Type{Kind: kind, Prio: m.number(), Labels: m.names(1 + m.IntN(3))}
		for range t.Labels {
			t.Kids = append(t.Kids, m.session(depth-1))
		}
		return t
	}
}

func (m maker) process(depth int) api.Proc {
	if depth >= 2 && m.IntN(4) == 0 {
		p := par()
		for range 2 + m.IntN(3) {
			p.Kids = append(p.Kids, m.part(depth-1))
		}
		return p
	}
	return m.part(depth)
}

// part is a process that is no PPar.
func (m maker) part(depth int) api.Proc {
	if depth < 2 {
		if m.IntN(2) == 0 {
			return stop
		}
		return m.call()
	}
	switch m.IntN(6) {
	case 0:
		return send(m.name(), m.value(), m.process(depth-1))
	case 1:
		return recv(m.name(), m.name(), m.process(depth-1))
	case 2:
		return sel(m.name(), m.name(), m.process(depth-1))
	case 3:
		return scope(m.name(), m.name(), m.session(3), m.process(depth-1))
	case 4:
		p := api.Proc{Kind: api.PBranch, Chan: m.name(), Labels: m.names(1 + m.IntN(3))}
		for range p.Labels {
			p.Kids = append(p.Kids, m.process(depth-1))
		}
		return p
	}
	return m.call()
}

func (m maker) call() api.Proc {
	p := call(m.name())
	for range m.IntN(4) {
		p.Args = append(p.Args, m.value())
	}
	return p
}

func (m maker) program() api.Program {
	p := prog(m.process(4))
	for range m.IntN(4) {
		d := def(m.name(), m.process(4))
		for range m.IntN(4) {
			d.Params = append(d.Params, param(m.name(), m.payload(3)))
		}
		p.Defs = append(p.Defs, d)
	}
	return p
}

// writer writes the tokens of trees. It reports by more whether to write what may be left out: parentheses, and Numbers that are 0.
type writer struct {
	tokens []string
	more   func() bool
}

func never() bool  { return false }
func always() bool { return true }

func (w *writer) put(tokens ...string) {
	w.tokens = append(w.tokens, tokens...)
}

// between puts signs around what f writes.
func (w *writer) between(open, close string, f func()) {
	w.put(open)
	f()
	w.put(close)
}

// list writes n elements with a sign between any two.
func (w *writer) list(n int, sign string, element func(int)) {
	for i := range n {
		if i > 0 {
			w.put(sign)
		}
		element(i)
	}
}

func (w *writer) number(before string, n int) {
	if n == 0 && !w.more() {
		return
	}
	if before != "" {
		w.put(before)
	}
	w.put(strconv.Itoa(n))
}

func (w *writer) payload(t api.Type) {
	bare := t.Kind == api.TEnd || t.Kind == api.TVar
	switch {
	case t.Kind == api.TInt || t.Kind == api.TBool:
		w.anyType(t)
	case bare && !w.more():
		w.bareSession(t)
	default:
		w.between("(", ")", func() { w.session(t) })
	}
}

func (w *writer) anyType(t api.Type) {
	switch t.Kind {
	case api.TInt:
		w.put("int")
	case api.TBool:
		w.put("bool")
	default:
		w.session(t)
	}
}

func (w *writer) session(t api.Type) {
	if w.more() {
		w.between("(", ")", func() { w.bareSession(t) })
		return
	}
	w.bareSession(t)
}

func (w *writer) bareSession(t api.Type) {
	switch t.Kind {
	case api.TEnd:
		w.put("end")
	case api.TSend, api.TRecv:
		w.put(map[int]string{api.TSend: "!", api.TRecv: "?"}[t.Kind])
		w.number("", t.Prio)
		w.payload(t.Kids[0])
		w.put(".")
		w.session(t.Kids[1])
	case api.TSelect, api.TBranch:
		w.put(map[int]string{api.TSelect: "+", api.TBranch: "&"}[t.Kind])
		w.number("", t.Prio)
		w.cases(t.Labels, func(i int) { w.session(t.Kids[i]) })
	case api.TRec:
		w.put("rec", t.Name, ".")
		w.session(t.Kids[0])
	case api.TVar:
		w.put(t.Name)
		w.number("+", t.Shift)
	}
}

func (w *writer) cases(labels []string, rest func(int)) {
	w.between("{", "}", func() {
		w.list(len(labels), ",", func(i int) {
			w.put(labels[i], ":")
			rest(i)
		})
	})
}

func (w *writer) value(v api.Value) {
	switch v.Kind {
	case api.VName:
		w.put(v.Name)
	case api.VInt:
		w.put(strconv.FormatInt(v.N, 10))
	case api.VBool:
		w.put([...]string{"false", "true"}[v.N])
	}
}

func (w *writer) process(p api.Proc) {
	parts := []api.Proc{p}
	if p.Kind == api.PPar {
		parts = p.Kids
	}
	if w.more() {
		w.between("(", ")", func() { w.parts(parts) })
		return
	}
	w.parts(parts)
}

// parts writes the parts of a process, of which some are put into parentheses together.
func (w *writer) parts(l []api.Proc) {
	n := 0
	for n < len(l) && w.more() {
		n++
	}
	if n > 1 {
		w.between("(", ")", func() {
			w.list(n, "|", func(i int) { w.single(l[i]) })
		})
		if l = l[n:]; len(l) > 0 {
			w.put("|")
		}
	}
	w.list(len(l), "|", func(i int) { w.single(l[i]) })
}

func (w *writer) single(p api.Proc) {
	switch {
	case p.Kind == api.PPar:
		w.between("(", ")", func() { w.process(p) })
	case w.more():
		w.between("(", ")", func() { w.bareSingle(p) })
	default:
		w.bareSingle(p)
	}
}

func (w *writer) bareSingle(p api.Proc) {
	switch p.Kind {
	case api.PStop:
		w.put("stop")
	case api.PSend:
		w.put(p.Chan, "!", "<")
		w.value(p.Args[0])
		w.put(">", ".")
		w.single(p.Kids[0])
	case api.PRecv:
		w.put(p.Chan, "?", "(", p.Var, ")", ".")
		w.single(p.Kids[0])
	case api.PSelect:
		w.put(p.Chan, ".", p.Labels[0], ".")
		w.single(p.Kids[0])
	case api.PBranch:
		w.put(p.Chan, "&")
		w.cases(p.Labels, func(i int) { w.process(p.Kids[i]) })
	case api.PNew:
		w.put("new", "(", p.Chan, ",", p.Var, ":")
		w.session(p.T)
		w.put(")")
		w.single(p.Kids[0])
	case api.PCall:
		w.put(p.Chan)
		w.between("<", ">", func() {
			w.list(len(p.Args), ",", func(i int) { w.value(p.Args[i]) })
		})
	}
}

func (w *writer) program(p api.Program) {
	for _, d := range p.Defs {
		w.put("def", d.Name)
		w.between("(", ")", func() {
			w.list(len(d.Params), ",", func(i int) {
				w.put(d.Params[i].Name, ":")
				w.anyType(d.Params[i].T)
			})
		})
		w.put("=")
		w.process(d.Body)
		w.put(";")
	}
	w.put("main", "=")
	w.process(p.Main)
	w.put(";")
}

// laidOut joins tokens by texts that f returns; where two tokens would become one, there is a blank at least.
func laidOut(tokens []string, f func() string) string {
	var b strings.Builder
	b.WriteString(f())
	for i, token := range tokens {
		b.WriteString(token)
		gap := f()
		if i+1 < len(tokens) && gap == "" && wordByte(token[len(token)-1]) && wordByte(tokens[i+1][0]) {
			gap = " "
		}
		b.WriteString(gap)
	}
	return b.String()
}

func wordByte(c byte) bool {
	return lex.Name("_" + string(rune(c)))
}

// gaps are what may stand between tokens.
func gaps() []string {
	return []string{" ", "", "\n", "\t", "\r", "   \r\n\t ", "# a comment\n", "#\n", " # stop ( ! $ \x00\n\t# ; é\n"}
}

// layouts are the ways of laying out a text, of which the last one is by chance.
func layouts(m maker) []func() string {
	var l []func() string
	for _, gap := range gaps() {
		l = append(l, func() string { return gap })
	}
	return append(l, func() string { return gaps()[m.IntN(len(gaps()))] })
}

// eachWriter calls f with writers that write all, nothing or, by chance, some of what may be left out.
func eachWriter(m maker, f func(*writer)) {
	f(&writer{more: never})
	f(&writer{more: always})
	f(&writer{more: func() bool { return m.IntN(2) == 0 }})
	f(&writer{more: func() bool { return m.IntN(8) == 0 }})
}

// P4.1 and P4.2: each text of a tree has this tree.

func TestTextsOfTreesMadeByChance(t *testing.T) {
	tryTexts(t, 1, 2000, func(m maker) api.Type { return m.payload(1 + m.IntN(5)) }, (*writer).anyType, wantType)
	tryTexts(t, 2, 2000, func(m maker) api.Proc { return m.process(1 + m.IntN(5)) }, (*writer).process, wantProcess)
	tryTexts(t, 3, 1000, maker.program, (*writer).program, wantProgram)
}

// tryTexts makes n trees, and wants each of them as the tree of all texts that writers and layouts make of it.
func tryTexts[T any](t *testing.T, seed uint64, n int, tree func(maker) T, write func(*writer, T), want func(*testing.T, string, T)) {
	m := newMaker(seed)
	for range n {
		made := tree(m)
		eachWriter(m, func(w *writer) {
			write(w, made)
			want(t, strings.Join(w.tokens, " "), made)
			all := layouts(m)
			want(t, laidOut(w.tokens, all[m.IntN(len(all))]), made)
		})
	}
}

// P4.2: blanks and comments between tokens, in front of the first one and behind the last one.

func TestBlanksAndCommentsDoNotChangeATree(t *testing.T) {
	want := prog(par(scope("a", "b", exchange(api.TSend, 3, tint, tvar("t", 5)), stop), call("X", num(-1), name("c"))),
		def("X", sel("a", "b", send("c", boolean(1), stop)), param("a", tint), param("c", choice(api.TBranch, 0, "a", tend))))
	w := writer{more: never}
	w.program(want)
	for _, layout := range layouts(newMaker(4)) {
		wantProgram(t, laidOut(w.tokens, layout), want)
	}
	wantProgram(t, "def X(a:int,c:&{a:end})=a.b.c!<true>.stop;main=new(a,b:!3int.t+5)stop|X<-1,c>;", want)
	wantProgram(t, "#!\ndef X ( a : int , c : & { a : end } )\n= a . b . c ! < true > . stop ; # X\n\nmain =\tnew ( a , b : ! 3 int . t + 5 ) stop\r\n| X < -1 , c > ; # end", want)
}

func TestParenthesesAroundAProcessDoNotChangeATree(t *testing.T) {
	want := par(send("a", num(1), par(stop, recv("b", "c", stop))), branch("d", "a b", call("X"), par(stop, stop)), scope("a", "b", tend, call("Y")))
	for _, s := range []string{
		"a!<1>.(stop | b?(c).stop) | d&{a: X<>, b: stop | stop} | new (a, b: end) Y<>",
		"(a!<1>.(stop | b?(c).stop) | d&{a: X<>, b: stop | stop} | new (a, b: end) Y<>)",
		"(a!<1>.(stop | b?(c).stop)) | (d&{a: X<>, b: stop | stop}) | (new (a, b: end) Y<>)",
		"(a!<1>.(stop | b?(c).stop) | d&{a: X<>, b: stop | stop}) | new (a, b: end) Y<>",
		"a!<1>.(stop | b?(c).stop) | (d&{a: X<>, b: stop | stop} | new (a, b: end) Y<>)",
		"a!<1>.((stop | b?(c).stop)) | d&{a: (X<>), b: (stop | stop)} | new (a, b: end) (Y<>)",
		"a!<1>.((stop) | (b?(c).(stop))) | d&{a: ((X<>)), b: (stop) | ((stop))} | new (a, b: end) ((Y<>))",
	} {
		wantProcess(t, s, want)
		wantProgram(t, "main = "+s+";", prog(want))
		wantProgram(t, "def X() = ("+s+"); main = (stop);", prog(stop, def("X", want)))
	}
}
