package fold

import "casket/api"

// longest is how many bytes a string may have that is written down as a literal.
const longest = 1000

// maker is a function that makes the literal of a value of that kind, at a place; false: the value has none.
func maker(kind, at int) func(v api.Value) (api.Node, bool) {
	switch kind {
	case api.Nil:
		return func(api.Value) (api.Node, bool) {
			return api.Node{Kind: api.NodeNil, At: at}, true
		}
	case api.Bool:
		return func(v api.Value) (api.Node, bool) {
			if v.Int == 1 {
				return api.Node{Kind: api.NodeTrue, At: at}, true
			}
			return api.Node{Kind: api.NodeFalse, At: at}, true
		}
	case api.Int:
		return func(v api.Value) (api.Node, bool) {
			if v.Int < 0 {
				return api.Node{}, false
			}
			return api.Node{Kind: api.NodeInt, At: at, Int: v.Int}, true
		}
	case api.Float:
		return func(v api.Value) (api.Node, bool) {
			if v.Bits>>63 == 1 {
				return api.Node{}, false
			}
			return api.Node{Kind: api.NodeFloat, At: at, Bits: v.Bits}, true
		}
	case api.Text:
		return func(v api.Value) (api.Node, bool) {
			if len(v.Text) > longest {
				return api.Node{}, false
			}
			return api.Node{Kind: api.NodeText, At: at, Text: v.Text}, true
		}
	}
	return func(api.Value) (api.Node, bool) { return api.Node{}, false } // of a thing
}
