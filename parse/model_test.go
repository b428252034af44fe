package parse_test

import (
	"slices"
	"strconv"
	"strings"
	"testing"

	"duologue/api"
	"duologue/lex"
)

// The functions of this file find the faults in another way than the package: by charts (Earley's way), over the text of the grammar.

const grammarText = `
program  = { "def" name "(" [ param { "," param } ] ")" "=" process ";" } "main" "=" process ";"
param    = name ":" type
process  = single { "|" single }
single   = "stop"
         | "(" process ")"
         | name "!" "<" value ">" "." single
         | name "?" "(" name ")" "." single
         | name "." name "." single
         | name "&" "{" name ":" process { "," name ":" process } "}"
         | "new" "(" name "," name ":" session ")" single
         | name "<" [ value { "," value } ] ">"
value    = name | Number | "true" | "false"
type     = "int" | "bool" | session
session  = "end"
         | "!" [ Number ] payload "." session
         | "?" [ Number ] payload "." session
         | "+" [ Number ] "{" name ":" session { "," name ":" session } "}"
         | "&" [ Number ] "{" name ":" session { "," name ":" session } "}"
         | "rec" name "." session
         | name [ "+" Number ]
         | "(" session ")"
payload  = "int" | "bool" | "end" | name [ "+" Number ] | "(" session ")"
`

// production is an alternative of a rule. Its symbols are quoted texts, name, Number, and rules.
type production struct {
	rule    string
	symbols []string
}

// grammar has the productions of each rule; rules for parts that may be left out, or are repeated, begin with a bracket.
type grammar map[string][]production

func readGrammar() grammar {
	g := grammar{}
	rule := ""
	for line := range strings.Lines(strings.TrimSpace(grammarText)) {
		fields := strings.Fields(line)
		if fields[0] != "|" {
			rule, fields = fields[0], fields[1:]
		}
		g.addAlternatives(rule, fields[1:])
	}
	return g
}

func (g grammar) addAlternatives(rule string, fields []string) {
	for len(fields) > 0 {
		n := slices.Index(fields, "|")
		if n < 0 {
			n = len(fields)
		}
		g[rule] = append(g[rule], production{rule, g.symbols(fields[:n])})
		fields = fields[min(n+1, len(fields)):]
	}
}

// symbols makes a rule of its own of each part in brackets.
func (g grammar) symbols(fields []string) []string {
	var l []string
	for len(fields) > 0 {
		first := fields[0]
		fields = fields[1:]
		if first == "[" || first == "{" {
			n := closing(fields)
			rule := first + strconv.Itoa(len(g))
			g[rule] = []production{{rule: rule}}
			part := g.symbols(fields[:n])
			if first == "{" {
				part = append(part, rule)
			}
			g[rule] = append(g[rule], production{rule, part})
			first, fields = rule, fields[n+1:]
		}
		l = append(l, first)
	}
	return l
}

// closing returns the index of the bracket that closes one in front of a list.
func closing(fields []string) int {
	open := 1
	for i, f := range fields {
		switch f {
		case "[", "{":
			open++
		case "]", "}":
			open--
		}
		if open == 0 {
			return i
		}
	}
	panic("a bracket is not closed")
}

// item is a production of which some symbols were found, from a token on.
type item struct {
	rule          string
	number, found int
	from          int
}

// chart has the items in front of each token, and behind the last one.
type chart struct {
	g    grammar
	sets [][]item
}

func (g grammar) chart(rule string) *chart {
	c := &chart{g: g, sets: [][]item{nil}}
	c.predict(rule)
	c.complete()
	return c
}

// next is the symbol that an item waits for, or an empty text behind the last one.
func (c *chart) next(i item) string {
	symbols := c.g[i.rule][i.number].symbols
	if i.found == len(symbols) {
		return ""
	}
	return symbols[i.found]
}

func (c *chart) add(i item) {
	last := &c.sets[len(c.sets)-1]
	if !slices.Contains(*last, i) {
		*last = append(*last, i)
	}
}

func (c *chart) predict(rule string) {
	for n := range c.g[rule] {
		c.add(item{rule: rule, number: n, from: len(c.sets) - 1})
	}
}

func (i item) on() item {
	i.found++
	return i
}

// complete adds what follows from the items in the last set.
func (c *chart) complete() {
	last := len(c.sets) - 1
	for k := 0; k < len(c.sets[last]); k++ {
		i := c.sets[last][k]
		next := c.next(i)
		switch {
		case next == "":
			for _, waiting := range c.sets[i.from] {
				if c.next(waiting) == i.rule {
					c.add(waiting.on())
				}
			}
		case c.g[next] != nil:
			c.predict(next)
			if next[0] == '[' || next[0] == '{' {
				c.add(i.on())
			}
		}
	}
}

// fits reports whether a token is what an item waits for.
func (c *chart) fits(i item, t lex.Token) bool {
	switch next := c.next(i); next {
	case "name":
		return lex.Name(t.Text)
	case "Number":
		return t.Kind == lex.Number && (i.rule == "value" || t.N >= 0)
	default:
		return next == strconv.Quote(t.Text)
	}
}

// push goes on behind a token, and returns its error; pop goes back.
func (c *chart) push(t lex.Token) api.Errno {
	before := c.sets[len(c.sets)-1]
	c.sets = append(c.sets, nil)
	err := api.ErrSyntax
	for _, i := range before {
		if c.fits(i, t) {
			c.add(i.on())
			err = api.OK
			if t.N > 1000000 && i.rule != "value" {
				return api.ErrLimit
			}
		}
	}
	c.complete()
	return err
}

func (c *chart) pop() {
	c.sets = c.sets[:len(c.sets)-1]
}

// whole reports whether the tokens are a text of a rule.
func (c *chart) whole(rule string) bool {
	for _, i := range c.sets[len(c.sets)-1] {
		if i.rule == rule && i.from == 0 && c.next(i) == "" {
			return true
		}
	}
	return false
}

// fault is the fault of a text, where the limits of trees do not matter.
func (g grammar) fault(rule, s string) api.Fault {
	tokens, f := lex.Tokens(s)
	if f.Err != api.OK {
		return f
	}
	c := g.chart(rule)
	for _, t := range tokens {
		if err := c.push(t); err != api.OK {
			return api.Fault{Err: err, At: t.At}
		}
	}
	return c.fault(rule, s)
}

// fault is the fault of a text whose tokens were pushed without an error.
func (c *chart) fault(rule, s string) api.Fault {
	if c.whole(rule) {
		return api.Fault{}
	}
	return api.Fault{Err: api.ErrSyntax, At: len(s)}
}

// everyToken has each keyword, each sign, some names, and Numbers of each kind.
func everyToken(t *testing.T) []lex.Token {
	l, f := lex.Tokens("def main stop new int bool end rec true false ! ? . ( ) { } < > , : ; | & + = a Z_9 0 7 -5 1000000 1000001 -1000001 9223372036854775807")
	if f != (api.Fault{}) {
		t.Fatal(f)
	}
	return l
}

// follow tries each token behind a text whose tokens are in a chart, and calls f with each longer text that is a beginning at least.
func follow(t *testing.T, c *chart, rule, s string, tokens []lex.Token, f func(longer string)) {
	t.Helper()
	for _, x := range tokens {
		longer := s + " " + x.Text
		at := len(s) + 1
		switch err := c.push(x); err {
		case api.OK:
			wantFault(t, rule, longer, c.fault(rule, longer))
			f(longer)
		default:
			wantFault(t, rule, longer, api.Fault{Err: err, At: at})
			wantFault(t, rule, longer+" stop", api.Fault{Err: err, At: at})
		}
		c.pop()
	}
}

// P4.1: all short texts.

func TestAllShortTexts(t *testing.T) {
	g := readGrammar()
	tokens := everyToken(t)
	for rule, most := range map[string]int{"type": 6, "process": 7, "program": 9} {
		c := g.chart(rule)
		whole, beginnings := 0, 0
		var longer func(s string, n int)
		longer = func(s string, n int) {
			follow(t, c, rule, s, tokens, func(s string) {
				beginnings++
				if c.whole(rule) {
					whole++
				}
				if n+1 < most {
					longer(s, n+1)
				}
			})
		}
		longer("", 0)
		t.Logf("%s: %d beginnings, of which %d are whole", rule, beginnings, whole)
		if whole < 20 || beginnings < 1000 {
			t.Errorf("too few texts of a %s: %d beginnings, of which %d are whole", rule, beginnings, whole)
		}
	}
}

// texts have every alternative of every rule in them.
func texts() map[string][]string {
	types := []string{
		"int", "bool", "(t)", "!3 int.?bool.end", "?t+4.!u.t", "!(rec t.&7{a: t, b: (end)}).+{c: end}", "+2{a: !end.t+0, b: &{c: end}, a: (rec u.u+5)}", "rec t.?0 (t+1).((t))",
	}
	processes := []string{
		"stop", "a!<b>.stop", "a!<-5>.a!<0>.a!<true>.a!<false>.X<>", "a?(b).b?(b).(stop | X<a>)", "a.b.c.d.stop", "a&{b: stop, c: stop | X<>, d: (stop)}",
		"new (a, b: !3 int.end) new (c, d: (rec t.+{a: t})) stop", "(stop | (X<a, 1> | Y<true, false, -7>)) | a.b.stop | new (a, b: t) stop", "X<1000001>",
	}
	programs := []string{
		"main = stop;", "def X() = stop; main = X<> | X<>;", "def X(a: int, b: bool, c: !3 t.end) = a!<b>.c.d.stop; def Y(a: t+5) = (X<1, a, -5>); main = new (a, b: ?end.end) a&{b: stop};",
	}
	for _, s := range types {
		programs = append(programs, "def X(a: "+s+") = stop; main = stop;")
	}
	for _, s := range processes {
		programs = append(programs, "def X() = "+s+"; main = "+s+";")
	}
	return map[string][]string{"type": types, "process": processes, "program": programs}
}

// P4.1: each token at each place.

func TestEachTokenAtEachPlace(t *testing.T) {
	g := readGrammar()
	tokens := everyToken(t)
	for rule, l := range texts() {
		for _, s := range l {
			wantNoFault(t, rule, s)
			whole, _ := lex.Tokens(s)
			c := g.chart(rule)
			before := ""
			for _, x := range whole {
				wantFault(t, rule, before, c.fault(rule, before))
				follow(t, c, rule, before, tokens, func(string) {})
				if err := c.push(x); err != api.OK {
					t.Fatalf("%q as a %s: error %d at %d", s, rule, err, x.At)
				}
				before += " " + x.Text
			}
			follow(t, c, rule, before, tokens, func(string) {})
		}
	}
}

// P4.1: whole texts with a token left out, another one instead, or one more.

func TestTextsWithAnotherToken(t *testing.T) {
	g := readGrammar()
	others, _ := lex.Tokens("stop ( ) { . , ; | + < a 5 -5 1000001")
	for rule, l := range texts() {
		if rule == "program" {
			l = l[:3]
		}
		for _, s := range l {
			tokens, _ := lex.Tokens(s)
			for i := range tokens {
				changed := [][]lex.Token{slices.Delete(slices.Clone(tokens), i, i+1)}
				for _, x := range others {
					changed = append(changed, slices.Replace(slices.Clone(tokens), i, i+1, x), slices.Insert(slices.Clone(tokens), i, x))
				}
				for _, c := range changed {
					text := lex.Join(c)
					wantFault(t, rule, text, g.fault(rule, text))
				}
			}
		}
	}
}

// P1: texts of any bytes have a fault or a tree.

func TestTextsOfBytesByChance(t *testing.T) {
	g := readGrammar()
	m := newMaker(5)
	const bytes = "a0-9!?.(){}<>,:;|&+=# \n$"
	for range 5000 {
		var b strings.Builder
		for range m.IntN(12) {
			b.WriteByte(bytes[m.IntN(len(bytes))])
		}
		for _, rule := range []string{"type", "process", "program"} {
			wantFault(t, rule, b.String(), g.fault(rule, b.String()))
		}
	}
	for i := range 256 {
		s := string([]byte{byte(i)})
		for _, text := range []string{s, "a!<1>.stop " + s, "!int.end " + s, "main = stop; " + s} {
			for _, rule := range []string{"type", "process", "program"} {
				wantFault(t, rule, text, g.fault(rule, text))
			}
		}
	}
}
