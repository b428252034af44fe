package check

import (
	"duologue/api"
	"duologue/context"
	"duologue/graph"
	"duologue/head"
)

// arguments are those of a call, which are typed one after the other.
type arguments struct {
	*typing
	types map[string]graph.Ref // the context by names, so that many arguments are found without a walk for each
	live  map[string]bool      // the live names that were arguments already
	raise int                  // the number by which parameters are raised, as soon as there is a live name
}

// newArguments returns the arguments of a call in a context, none of which is typed yet.
func newArguments(t *typing, c []context.Entry) *arguments {
	types := make(map[string]graph.Ref, len(c))
	for _, e := range c {
		types[e.Name] = e.R
	}
	return &arguments{typing: t, types: types, live: map[string]bool{}}
}

// next types the next argument, of which the parameter has a type.
func (l *arguments) next(v api.Value, param graph.Ref) {
	r, found := l.types[v.Name]
	require(found || v.Kind != api.VName, api.ErrLinear)
	wanted, isAction := head.Prio(l.g, param)
	if !isAction {
		require(l.hasKind(v, r, head.Kind(l.g, param)), api.ErrType)
		return
	}
	require(found, api.ErrType)
	prio, isLive := head.Prio(l.g, r)
	require(isLive, api.ErrType)
	require(!l.live[v.Name], api.ErrLinear)
	if len(l.live) == 0 {
		l.raise = prio - wanted
	}
	l.live[v.Name] = true
	require(l.sub(r, head.Raise(param, l.raise)), api.ErrType)
}
