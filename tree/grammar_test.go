package tree_test

import (
	"slices"
	"strings"
	"testing"

	"casket/api"
	"casket/tree"
)

// The model of faults: the chapter's grammar, and charts (after Earley) that tell of a row of tokens whether a right source begins with it. No way through the grammar is chosen: all are gone at once.

// grammar has a rule in each line, its ways with | between them (the mark is BAR); capital letters are kinds of tokens. A target is what 12.3 lets an "=" stand behind.
const grammar = `
program = units END
units = | units unit
unit = let NAME ; | fn NAME ( ) block | fn NAME ( names ) block
names = NAME | names , NAME
block = { stmts }
stmts = | stmts stmt
stmt = let NAME = expr ; | target = expr ; | ifs | loop | NAME : loop | break ; | break NAME ; | continue ; | continue NAME ; | return ; | return expr ; | out expr ; | expr ;
ifs = if expr block | if expr block else block | if expr block else ifs
loop = while expr block | for NAME in expr .. expr block
target = NAME | postfix [ expr ] | ( target )
expr = and_ | expr or and_
and_ = not_ | and_ and not_
not_ = not not_ | cmp
cmp = bits | bits == bits | bits != bits | bits < bits | bits <= bits | bits > bits | bits >= bits
bits = xor | bits BAR xor
xor = also | xor ^ also
also = shift | also & shift
shift = sum | shift << sum | shift >> sum
sum = term | sum + term | sum - term
term = unary | term * unary | term / unary | term // unary | term % unary
unary = - unary | ~ unary | postfix
postfix = primary | postfix [ expr ]
primary = INT | FLOAT | TEXT | true | false | nil | NAME | NAME ( ) | NAME ( exprs ) | ( expr )
exprs = expr | exprs , expr
`

// way is one way of a rule.
type way struct {
	rule  string
	parts []string
}

type book struct {
	ways []way
	of   map[string][]int // the ways of a rule
}

func readGrammar() *book {
	b := &book{of: map[string][]int{}}
	for line := range strings.Lines(strings.TrimSpace(grammar)) {
		rule, ways, _ := strings.Cut(strings.TrimSpace(line), " =")
		for text := range strings.SplitSeq(ways+" ", "| ") {
			b.of[rule] = append(b.of[rule], len(b.ways))
			b.ways = append(b.ways, way{rule, strings.Fields(strings.ReplaceAll(text, "BAR", "|"))})
		}
	}
	return b
}

// state is how far a way has been gone, and ahead of which token it began.
type state struct{ way, done, from int }

// chart has the states ahead of each token that was met.
type chart struct {
	book *book
	sets [][]state
}

func newChart() *chart {
	c := &chart{book: readGrammar()}
	var set []state
	for _, w := range c.book.of["program"] {
		set = append(set, state{way: w})
	}
	return c.with(set)
}

// next is the part that a state waits for; none, if it has all.
func (c *chart) next(s state) string {
	if parts := c.book.ways[s.way].parts; s.done < len(parts) {
		return parts[s.done]
	}
	return ""
}

// with is a chart with one set more, and all that follows in it. (The rules units and stmts alone may be empty.)
func (c *chart) with(set []state) *chart {
	at := len(c.sets)
	seen := map[state]bool{}
	add := func(s state) {
		if !seen[s] {
			seen[s] = true
			set = append(set, s)
		}
	}
	for _, s := range set {
		seen[s] = true
	}
	for i := 0; i < len(set); i++ {
		s := set[i]
		part := c.next(s)
		for _, w := range c.book.of[part] {
			add(state{way: w, from: at})
		}
		if part == "units" || part == "stmts" {
			add(state{s.way, s.done + 1, s.from})
		}
		if part == "" && s.from < at {
			for _, back := range c.sets[s.from] {
				if c.next(back) == c.book.ways[s.way].rule {
					add(state{back.way, back.done + 1, back.from})
				}
			}
		}
	}
	return &chart{c.book, append(slices.Clip(c.sets), set)}
}

// after is the chart behind one more token; none, if no right source begins so.
func (c *chart) after(token string) *chart {
	var set []state
	for _, s := range c.sets[len(c.sets)-1] {
		if c.next(s) == token {
			set = append(set, state{s.way, s.done + 1, s.from})
		}
	}
	if len(set) == 0 {
		return nil
	}
	return c.with(set)
}

// sort is which token of the grammar a token is.
func sort(token string) string {
	switch {
	case strings.HasPrefix(token, `"`):
		return "TEXT"
	case strings.HasPrefix(token, "0x"), token == "inf", token == "nan":
		return "FLOAT"
	case '0' <= token[0] && token[0] <= '9':
		return "INT"
	case nameForm.MatchString(token) && !slices.Contains(reserved, token):
		return "NAME"
	}
	return token
}

// gone is the chart behind several tokens; none, if no right source begins so.
func (c *chart) gone(tokens []string) *chart {
	for _, token := range tokens {
		if c != nil {
			c = c.after(sort(token))
		}
	}
	return c
}

// stop is where a source of these tokens, with a blank between each two, is refused: at which byte; -1, if it is taken.
func (c *chart) stop(tokens []string) int { return c.stopBehind(nil, tokens) }

// stopBehind is stop of a chart that has gone through the first tokens already.
func (c *chart) stopBehind(first, tokens []string) int {
	at := length(first)
	for _, token := range tokens {
		if c = c.after(sort(token)); c == nil {
			return at
		}
		at += len(token) + 1
	}
	if c.after("END") == nil {
		return max(at-1, 0)
	}
	return -1
}

// length is how many bytes tokens have, with a blank behind each.
func length(tokens []string) int {
	n := 0
	for _, token := range tokens {
		n += len(token) + 1
	}
	return n
}

// wantStop asks Parse for what the chart says.
func wantStop(t *testing.T, tokens []string, stop int) {
	t.Helper()
	src := strings.Join(tokens, " ")
	l, f := tree.Parse(src)
	if stop >= 0 {
		if len(l) != 0 || f != (api.Fault{Code: api.ErrSyntax, At: stop}) {
			t.Errorf("Parse(%q): %v; want ErrSyntax at %d", src, f, stop)
		}
		return
	}
	if f != (api.Fault{}) {
		t.Errorf("Parse(%q): %v", src, f)
		return
	}
	wantThereAndBack(t, l)
	if text := leastText(l); !hasGroup(tokens) && text != src {
		t.Errorf("Parse(%q) is the tree of %q", src, text)
	}
}

// hasGroup tells whether there are brackets around an expression: those that are not needed are not in the tree.
func hasGroup(tokens []string) bool {
	for i, token := range tokens {
		if token == "(" && (i == 0 || sort(tokens[i-1]) != "NAME") {
			return true
		}
	}
	return false
}

// vocabulary are tokens of each sort; strings that look like a mark, a word, a name are none.
var vocabulary = slices.Concat(
	strings.Fields("fn let if else while for in break continue return out and or not true false nil"),
	strings.Fields("== != <= >= << >> // .. + - * / % & | ^ ~ < > = ( ) { } [ ] , ; :"),
	strings.Fields(`a 1 0x1p+0 inf "" ";" "(" "}" "let" "b"`),
)

// everyWay goes on behind tokens by each one of the vocabulary, and behind the right ones of these again, n times.
func everyWay(t *testing.T, c *chart, tokens []string, n int) {
	t.Helper()
	at := length(tokens)
	for _, token := range vocabulary {
		longer := append(slices.Clip(tokens), token)
		after := c.after(sort(token))
		switch {
		case after == nil:
			wantStop(t, longer, at)
			continue
		case after.after("END") != nil:
			wantStop(t, longer, -1)
		default:
			wantStop(t, longer, at+len(token))
		}
		if n > 1 {
			everyWay(t, after, longer, n-1)
		}
	}
}

// contexts are beginnings of right sources: each rule, cut off at each of its places.
var contexts = []string{
	"", "let", "let g", "let g ;", "fn", "fn f", "fn f (", "fn f ( a", "fn f ( a ,", "fn f ( a , b", "fn f ( )", "fn f ( ) {", "fn f ( ) { }", "fn f ( ) { } let g ;",
	"fn f ( ) { let", "fn f ( ) { let x", "fn f ( ) { let x =", "fn f ( ) { let x = a",
	"fn f ( ) { x", "fn f ( ) { x =", "fn f ( ) { x = a", "fn f ( ) { x [", "fn f ( ) { x [ 1", "fn f ( ) { x [ 1 ]", "fn f ( ) { x [ 1 ] =", "fn f ( ) { x [ 1 ] = a", "fn f ( ) { ( x", "fn f ( ) { ( x )", "fn f ( ) { ( ( x ) )", "fn f ( ) { ( x [ 1 ] )", "fn f ( ) { ( x ) [ 1 ]",
	"fn f ( ) { if", "fn f ( ) { if a", "fn f ( ) { if a {", "fn f ( ) { if a { }", "fn f ( ) { if a { } else", "fn f ( ) { if a { } else {", "fn f ( ) { if a { } else { }", "fn f ( ) { if a { } else if", "fn f ( ) { if a { } else if b", "fn f ( ) { if a { } else if b { }", "fn f ( ) { if a { } else if b { } else", "fn f ( ) { if a { } else if b { } else { }",
	"fn f ( ) { while", "fn f ( ) { while a", "fn f ( ) { while a {", "fn f ( ) { while a { }", "fn f ( ) { l :", "fn f ( ) { l : while", "fn f ( ) { l : while a", "fn f ( ) { l : while a {",
	"fn f ( ) { for", "fn f ( ) { for i", "fn f ( ) { for i in", "fn f ( ) { for i in a", "fn f ( ) { for i in a ..", "fn f ( ) { for i in a .. b", "fn f ( ) { for i in a .. b {", "fn f ( ) { l : for", "fn f ( ) { l : for i in a .. b { }",
	"fn f ( ) { break", "fn f ( ) { break l", "fn f ( ) { break l ;", "fn f ( ) { continue", "fn f ( ) { continue l", "fn f ( ) { return", "fn f ( ) { return a", "fn f ( ) { return a ;", "fn f ( ) { out", "fn f ( ) { out a",
	"fn f ( ) { a", "fn f ( ) { a or", "fn f ( ) { a or b", "fn f ( ) { a and", "fn f ( ) { a and b", "fn f ( ) { not", "fn f ( ) { not a", "fn f ( ) { a <", "fn f ( ) { a < b", "fn f ( ) { a < b and c", "fn f ( ) { a |", "fn f ( ) { a | b", "fn f ( ) { a ^ b", "fn f ( ) { a & b", "fn f ( ) { a << b", "fn f ( ) { a + b", "fn f ( ) { a -", "fn f ( ) { a * b", "fn f ( ) { -", "fn f ( ) { - a", "fn f ( ) { ~", "fn f ( ) { ~ a", "fn f ( ) { a + - b",
	"fn f ( ) { 1", "fn f ( ) { 0x1p+0", "fn f ( ) { \"a\"", "fn f ( ) { true", "fn f ( ) { nil", "fn f ( ) { g (", "fn f ( ) { g ( a", "fn f ( ) { g ( a ,", "fn f ( ) { g ( a , b", "fn f ( ) { g ( )", "fn f ( ) { g ( ) [ 1 ]", "fn f ( ) { (", "fn f ( ) { ( a + b", "fn f ( ) { ( a + b )", "fn f ( ) { ( - a )", "fn f ( ) { ( 1 )", "fn f ( ) { ( g ( ) )",
}

// Each rule, cut off behind each of its tokens, and gone on by each token, right or wrong.
func TestEveryWay(t *testing.T) {
	begin := newChart()
	for _, context := range contexts {
		tokens := strings.Fields(context)
		c := begin.gone(tokens)
		if c == nil {
			t.Fatalf("no right source begins with %q", context)
		}
		wantStop(t, tokens, begin.stop(tokens))
		everyWay(t, c, tokens, 2)
	}
}

// A statement, and an expression, gone on by each three tokens.
func TestEveryThree(t *testing.T) {
	for _, context := range []string{"", "fn f ( ) {", "fn f ( ) { return a"} {
		tokens := strings.Fields(context)
		everyWay(t, newChart().gone(tokens), tokens, 3)
	}
}

// wholes are right sources: each rule with the fewest parts, and with several.
var wholes = []string{
	"let g ;", "let g ; let h ; fn f ( ) { } let i ;", "fn f ( ) { }", "fn f ( a ) { }", "fn f ( a , b , c ) { a ; }",
	"fn f ( ) { let x = 1 ; }", "fn f ( ) { x = 1 ; y = x ; }", "fn f ( ) { x [ 1 ] = 2 ; x [ 1 ] [ 2 ] = 3 ; }", "fn f ( ) { ( x ) = 1 ; ( x [ 1 ] ) = 2 ; }",
	"fn f ( ) { if a { } }", "fn f ( ) { if a { x = 1 ; } else { x = 2 ; } }", "fn f ( ) { if a { } else if b { } else if c { } else { } }",
	"fn f ( ) { while a { } }", "fn f ( ) { l : while a { break l ; } }", "fn f ( ) { for i in 0 .. 9 { } }", "fn f ( ) { l : for i in 0 .. 9 { continue l ; } }",
	"fn f ( ) { break ; continue ; break l ; continue l ; }", "fn f ( ) { return ; return 1 ; out 2 ; a ; }",
	"fn f ( ) { a or b and not c ; }", "fn f ( ) { a < b | c ^ d & e << g + h * - i [ 1 ] ; }", "fn f ( ) { g ( ) ; g ( 1 ) ; g ( 1 , h ( ) , 3 ) ; }", "fn f ( ) { ( a ) ; ( a + b ) * ( c ) ; }",
	"fn f ( ) { 1 ; 0x1p+0 ; \"a\" ; true ; false ; nil ; inf ; nan ; }",
}

// Right sources: one token left out, doubled, two turned round, one put in, another one in its place, all that stands behind cut off.
func TestTurnedTokens(t *testing.T) {
	begin := newChart()
	for _, whole := range wholes {
		l := strings.Fields(whole)
		wantStop(t, l, -1)
		if stop := begin.stop(l); stop != -1 {
			t.Fatalf("%q stops at %d", whole, stop)
		}
		for i := range len(l) + 1 {
			c := begin.gone(l[:i])
			want := func(parts ...[]string) {
				t.Helper()
				rest := slices.Concat(parts...)
				wantStop(t, slices.Concat(l[:i], rest), c.stopBehind(l[:i], rest))
			}
			want()
			for _, token := range vocabulary {
				want([]string{token}, l[i:])
				if i < len(l) {
					want([]string{token}, l[i+1:])
				}
			}
			if i < len(l) {
				want(l[i+1:])
				want(l[i:i+1], l[i:])
			}
			if i+1 < len(l) {
				want(l[i+1:i+2], l[i:i+1], l[i+2:])
			}
		}
	}
}

// Tokens by chance.
func TestAnyTokens(t *testing.T) {
	begin := newChart()
	var c chance = 3
	for range 3000 {
		tokens := strings.Fields("fn f ( ) {")
		for range c.below(12) {
			tokens = append(tokens, pick(&c, vocabulary))
		}
		wantStop(t, tokens, begin.stop(tokens))
	}
}

// Tokens that may stand there, by chance: such sources go on for long, and get one wrong token at the end.
func TestAnyRightTokens(t *testing.T) {
	begin := newChart()
	var c chance = 4
	for range 300 {
		tokens := strings.Fields("fn f ( ) {")
		chart := begin.gone(tokens)
		for range c.below(200) {
			token := pick(&c, vocabulary)
			if after := chart.after(sort(token)); after != nil {
				tokens, chart = append(tokens, token), after
			}
		}
		wantStop(t, tokens, begin.stop(tokens))
		tokens = append(tokens, pick(&c, vocabulary), pick(&c, vocabulary))
		wantStop(t, tokens, begin.stop(tokens))
	}
}
