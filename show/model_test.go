package show_test

import (
	"fmt"
	"math/rand/v2"
	"strings"
	"testing"

	"duologue/api"
)

// The functions of this file find the texts in another way than the package: by formats, from the inside to the outside.

func listOf[E any](l []E, sep string, text func(int) string) string {
	var parts []string
	for i := range l {
		parts = append(parts, text(i))
	}
	return strings.Join(parts, sep)
}

func typeText(t api.Type) string {
	switch t.Kind {
	case api.TSend, api.TRecv:
		format := map[int]string{api.TSend: "!%[1]d %[2]s.%[3]s", api.TRecv: "?%[1]d %[2]s.%[3]s"}[t.Kind]
		payload := typeText(t.Kids[0])
		if strings.ContainsAny(payload, ".{") {
			payload = "(" + payload + ")"
		}
		s := fmt.Sprintf(format, t.Prio, payload, typeText(t.Kids[1]))
		if t.Prio == 0 {
			s = s[:1] + s[3:]
		}
		return s
	case api.TSelect, api.TBranch:
		rests := listOf(t.Labels, ", ", func(i int) string { return fmt.Sprintf("%s: %s", t.Labels[i], typeText(t.Kids[i])) })
		s := fmt.Sprintf("%c%d{%s}", "+&"[t.Kind-api.TSelect], t.Prio, rests)
		if t.Prio == 0 {
			s = s[:1] + s[2:]
		}
		return s
	case api.TRec:
		return fmt.Sprintf("rec %s.%s", t.Name, typeText(t.Kids[0]))
	case api.TVar:
		return strings.TrimSuffix(fmt.Sprintf("%s+%d", t.Name, t.Shift), "+0")
	}
	return [...]string{api.TInt: "int", api.TBool: "bool", api.TEnd: "end"}[t.Kind]
}

func valueText(v api.Value) string {
	switch v.Kind {
	case api.VInt:
		return fmt.Sprint(v.N)
	case api.VBool:
		return fmt.Sprint(v.N == 1)
	}
	return v.Name
}

// processText is the text of a process; the text of a part is in parentheses if it is a PPar.
func processText(p api.Proc) string {
	part := func(q api.Proc) string {
		if q.Kind == api.PPar {
			return "(" + processText(q) + ")"
		}
		return processText(q)
	}
	values := listOf(p.Args, ", ", func(i int) string { return valueText(p.Args[i]) })
	switch p.Kind {
	case api.PSend:
		return fmt.Sprintf("%s!<%s>.%s", p.Chan, values, part(p.Kids[0]))
	case api.PRecv:
		return fmt.Sprintf("%s?(%s).%s", p.Chan, p.Var, part(p.Kids[0]))
	case api.PSelect:
		return fmt.Sprintf("%s.%s.%s", p.Chan, p.Labels[0], part(p.Kids[0]))
	case api.PBranch:
		return fmt.Sprintf("%s&{%s}", p.Chan, listOf(p.Labels, ", ", func(i int) string { return p.Labels[i] + ": " + processText(p.Kids[i]) }))
	case api.PNew:
		return fmt.Sprintf("new (%s, %s: %s) %s", p.Chan, p.Var, typeText(p.T), part(p.Kids[0]))
	case api.PPar:
		return listOf(p.Kids, " | ", func(i int) string { return processText(p.Kids[i]) })
	case api.PCall:
		return fmt.Sprintf("%s<%s>", p.Chan, values)
	}
	return "stop"
}

func programText(p api.Program) string {
	var b strings.Builder
	for _, d := range p.Defs {
		params := listOf(d.Params, ", ", func(i int) string { return d.Params[i].Name + ": " + typeText(d.Params[i].T) })
		fmt.Fprintf(&b, "def %s(%s) = %s;\n", d.Name, params, processText(d.Body))
	}
	return b.String() + fmt.Sprintf("main = %s;\n", processText(p.Main))
}

// sessions are the session types of a list.
func sessions(l []api.Type) []api.Type {
	var s []api.Type
	for _, t := range l {
		if t.Kind != api.TInt && t.Kind != api.TBool {
			s = append(s, t)
		}
	}
	return s
}

// typesOver returns the types whose payloads, and rests, are in given lists.
func typesOver(payloads, rests []api.Type, prios ...int) []api.Type {
	var l []api.Type
	for _, rest := range rests {
		for _, prio := range prios {
			for _, payload := range payloads {
				l = append(l, tsend(prio, payload, rest), trecv(prio, payload, rest))
			}
			l = append(l, tselect(prio, "a", rest), tbranch(prio, "a", rest), tselect(prio, "b a", rest, tend), tbranch(prio, "a b", tvar("t", 1), rest))
		}
		l = append(l, trec("t", rest))
	}
	return l
}

// P5.1 and P5.3, for all small types.
func TestSmallTypes(t *testing.T) {
	leaves := []api.Type{tint, tbool, tend, tvar("t", 0), tvar("t", 1), tvar("u", api.MaxPrio)}
	small := append(typesOver(leaves, sessions(leaves), 0, 1, api.MaxPrio), leaves...)
	some := []api.Type{tint, tend}
	all := append(typesOver(small, sessions(some), 0, 7), typesOver(some, sessions(small), 0, 7)...)
	for _, tree := range append(all, small...) {
		wantType(t, tree, typeText(tree))
	}
}

// procsOver returns the processes whose rests are in one list, and whose other parts are in another one.
func procsOver(rests, others []api.Proc) []api.Proc {
	var l []api.Proc
	for _, rest := range rests {
		l = append(l, send("a", name("b"), rest), send("b", num(-7), rest), send("a", boolean(0), rest), recv("a", "b", rest), sel("a", "b", rest),
			branch("a", "b", rest), scope("a", "b", tend, rest), scope("b", "a", tsend(1, tint, tend), rest))
		for _, other := range others {
			l = append(l, branch("a", "c b", rest, other), branch("a", "b c", other, rest))
			if rest.Kind != api.PPar && other.Kind != api.PPar {
				l = append(l, par(rest, other), par(other, rest), par(other, rest, other))
			}
		}
	}
	return l
}

// P5.1 and P5.3, for all small processes.
func TestSmallProcesses(t *testing.T) {
	leaves := []api.Proc{stop, call("X"), call("Y", name("a"), num(1))}
	small := append(procsOver(leaves, leaves), leaves...)
	for _, tree := range append(procsOver(small, leaves), leaves...) {
		wantProcess(t, tree, processText(tree))
	}
}

// maker makes trees by chance, the same ones each time.
type maker struct {
	*rand.Rand
}

func newMaker(seed uint64) maker {
	return maker{rand.New(rand.NewPCG(5, seed))}
}

func (m maker) name() string {
	names := [...]string{"a", "b", "c", "t", "X", "_", "_0", "stops", "Int", "end1", "a_b", "new2"}
	return names[m.IntN(len(names))]
}

// names are different ones.
func (m maker) names(n int) []string {
	var l []string
	for i := range n {
		l = append(l, fmt.Sprintf("%s%d", m.name(), i))
	}
	return l
}

func (m maker) number() int {
	numbers := [...]int{0, 0, 0, 1, 2, 10, 999, api.MaxPrio}
	return numbers[m.IntN(len(numbers))]
}

func (m maker) value() api.Value {
	switch m.IntN(4) {
	case 0:
		return num(m.Int64() - m.Int64())
	case 1:
		return boolean(m.Int64N(2))
	case 2:
		return num(m.Int64N(10))
	}
	return name(m.name())
}

// payload is a type of any kind.
func (m maker) payload(depth int) api.Type {
	switch m.IntN(4) {
	case 0:
		return tint
	case 1:
		return tbool
	}
	return m.session(depth)
}

func (m maker) session(depth int) api.Type {
	if depth < 2 {
		if m.IntN(2) == 0 {
			return tend
		}
		return tvar(m.name(), m.number())
	}
	switch kind := api.TEnd + m.IntN(7); kind {
	case api.TEnd, api.TVar:
		return m.session(1)
	case api.TRec:
		return trec(m.name(), m.session(depth-1))
	case api.TSend, api.TRecv:
		return exchange(kind, m.number(), m.payload(depth-1), m.session(depth-1))
	default:
		t := api.Type{Kind: kind, Prio: m.number(), Labels: m.names(1 + m.IntN(3))}
		for range t.Labels {
			t.Kids = append(t.Kids, m.session(depth-1))
		}
		return t
	}
}

func (m maker) process(depth int) api.Proc {
	if depth >= 2 && m.IntN(4) == 0 {
		p := par()
		for range 2 + m.IntN(3) {
			p.Kids = append(p.Kids, m.part(depth-1))
		}
		return p
	}
	return m.part(depth)
}

// part is a process that is no PPar.
func (m maker) part(depth int) api.Proc {
	if depth < 2 {
		if m.IntN(2) == 0 {
			return stop
		}
		return m.call()
	}
	switch m.IntN(6) {
	case 0:
		return send(m.name(), m.value(), m.process(depth-1))
	case 1:
		return recv(m.name(), m.name(), m.process(depth-1))
	case 2:
		return sel(m.name(), m.name(), m.process(depth-1))
	case 3:
		ends := m.names(2)
		return scope(ends[0], ends[1], m.session(4), m.process(depth-1))
	case 4:
		p := api.Proc{Kind: api.PBranch, Chan: m.name(), Labels: m.names(1 + m.IntN(3))}
		for range p.Labels {
			p.Kids = append(p.Kids, m.process(depth-1))
		}
		return p
	}
	return m.call()
}

func (m maker) call() api.Proc {
	p := call(m.name())
	for range m.IntN(4) {
		p.Args = append(p.Args, m.value())
	}
	return p
}

func (m maker) program() api.Program {
	p := prog(m.process(1 + m.IntN(4)))
	for range m.IntN(4) {
		d := def(m.name(), m.process(1+m.IntN(4)))
		for range m.IntN(4) {
			d.Params = append(d.Params, param(m.name(), m.payload(3)))
		}
		p.Defs = append(p.Defs, d)
	}
	return p
}

// P5.1 and P5.3, for trees that are made by chance.
func TestTreesMadeByChance(t *testing.T) {
	m := newMaker(1)
	for range 2000 {
		u, p, q := m.payload(1+m.IntN(6)), m.process(1+m.IntN(6)), m.program()
		wantType(t, u, typeText(u))
		wantProcess(t, p, processText(p))
		wantProgram(t, q, programText(q))
	}
}
