package check

import "slices"

// scope has names, each with the place of the node that makes it.
type scope map[string]int

func (s scope) has(name string) bool {
	_, has := s[name]
	return has
}

// scopes are those around a node, the outermost, that of the globals, first.
type scopes []scope

func (s scopes) innermost() scope { return s[len(s)-1] }

// know tells whether a name means something.
func (s scopes) know(name string) bool {
	return slices.ContainsFunc(s, func(one scope) bool { return one.has(name) })
}
