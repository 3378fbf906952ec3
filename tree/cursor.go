package tree

import (
	"slices"

	"casket/api"
	"casket/lex"
)

// cursor stands ahead of one of a source's tokens: those that it has taken are the beginning of a right source.
type cursor struct {
	tokens []api.Token
	behind api.Fault // what stands behind the last token, if that is not the end
	at     int
	open   int // brackets
	told   api.Fault
}

func newCursor(src string) *cursor {
	c := &cursor{}
	for token, fault := range lex.Tokens(src) {
		if fault.Code != api.OK {
			c.behind = fault
			break
		}
		c.tokens = append(c.tokens, token)
	}
	return c
}

// refuse does not come back: the face recovers, and tells the fault.
func (c *cursor) refuse(fault api.Fault) {
	c.told = fault
	panic(fault)
}

// look is the token that comes next; a fault that does not hang on the grammar is found here, ahead of those that do.
func (c *cursor) look() api.Token {
	if c.at == len(c.tokens) {
		c.refuse(c.behind)
	}
	token := c.tokens[c.at]
	if opens(token) && c.open == api.MaxNest {
		c.refuse(api.Fault{Code: api.ErrNest, At: token.At})
	}
	return token
}

func (c *cursor) take() api.Token {
	token := c.look()
	if opens(token) {
		c.open++
	}
	if closes(token) {
		c.open--
	}
	c.at++
	return token
}

// sees tells whether one of these words or marks comes next.
func (c *cursor) sees(texts ...string) bool {
	return slices.Contains(texts, fixed(c.look()))
}

// want takes a word or a mark, and refuses every other token.
func (c *cursor) want(text string) api.Token {
	if token := c.look(); fixed(token) != text {
		c.refuse(api.Fault{Code: api.ErrSyntax, At: token.At})
	}
	return c.take()
}

func (c *cursor) wantName() api.Token {
	if token := c.look(); token.Kind != api.TokName {
		c.refuse(api.Fault{Code: api.ErrSyntax, At: token.At})
	}
	return c.take()
}

// seesLabel looks one token further than all else does, and finds no fault there: that one is not next yet.
func (c *cursor) seesLabel() bool {
	return c.look().Kind == api.TokName && c.at+1 < len(c.tokens) && fixed(c.tokens[c.at+1]) == ":"
}

// fixed is the word or the mark that a token is: a string may have the same bytes, and is none.
func fixed(token api.Token) string {
	if token.Kind == api.TokWord || token.Kind == api.TokMark {
		return token.Text
	}
	return ""
}

func opens(token api.Token) bool {
	text := fixed(token)
	return text == "(" || text == "[" || text == "{"
}

func closes(token api.Token) bool {
	text := fixed(token)
	return text == ")" || text == "]" || text == "}"
}
