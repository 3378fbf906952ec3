package tree_test

import (
	"slices"
	"strings"
	"testing"

	"casket/api"
	"casket/tree"
)

// Promise 12.4: the first fault that is met from the front. (grammar_test.go asks ErrSyntax of each rule.)

func TestSyntax(t *testing.T) {
	for _, x := range []struct {
		src string
		at  int
	}{
		{"x", 0}, {" x", 1}, {";", 0}, {"}", 0}, {"1", 0}, {"\"let\"", 0}, {"out 1;", 0}, {"x = 1;", 0}, {"(", 0}, {"let g;;", 6}, {"let g", 5}, {"let g ", 6}, {"let g # r", 9}, {"let g,h;", 5}, {"let g=1;", 5}, {"let 1;", 4}, {"let let;", 4}, {"let inf;", 4}, {"let \"g\";", 4},
		{"fn", 2}, {"fn  ", 4}, {"fn (", 3}, {"fn f{", 4}, {"fn f()", 6}, {"fn f();", 6}, {"fn f(){", 7}, {"fn f(){}}", 8}, {"fn f(){};", 8}, {"fn f(,){}", 5}, {"fn f(a,){}", 7}, {"fn f(a b){}", 7}, {"fn f(1){}", 5}, {"fn f(a=1){}", 6}, {"fn f(nil){}", 5}, {"fn f((a)){}", 5}, {"fn f[", 4},
		{"fn f(){fn g(){}}", 7}, {"fn f(){{}}", 7}, {"fn f(){;}", 7}, {"fn f(){)}", 7}, {"fn f(){a}", 8}, {"fn f(){a;", 9}, {"fn f(){a,b;}", 8}, {"fn f(){else{}}", 7}, {"fn f(){in}", 7}, {"fn f(){and b;}", 7}, {"fn f(){..}", 7}, {"fn f(){if{}}", 9}, {"fn f(){if a;}", 11}, {"fn f(){if a{};}", 13}, {"fn f(){if a{}else;}", 17}, {"fn f(){if a{}else while", 18}, {"fn f(){if a{}else{}else{}}", 19}, {"fn f(){if let", 10},
		{"fn f(){while{}}", 12}, {"fn f(){while a;}", 14}, {"fn f(){for{}}", 10}, {"fn f(){for 1 in", 11}, {"fn f(){for i a", 13}, {"fn f(){for i in..", 15}, {"fn f(){for i in a{", 17}, {"fn f(){for i in a..{", 19}, {"fn f(){for i in a..b;", 20}, {"fn f(){for i in a..b..c", 20}, {"fn f(){for (i) in", 11},
		{"fn f(){l:}", 9}, {"fn f(){l:;", 9}, {"fn f(){l:m:while", 9}, {"fn f(){l::", 9}, {"fn f(){l:if", 9}, {"fn f(){l:let", 9}, {"fn f(){l:x=1;", 9}, {"fn f(){l:{", 9}, {"fn f(){l:return", 9}, {"fn f(){l:break", 9}, {"fn f(){l:out", 9}, {"fn f(){l:1", 9}, {"fn f(){(l):while", 10}, {"fn f(){l[1]:while", 11}, {"fn f(){1:while", 8}, {"fn f(){\"l\":while", 10}, {"fn f(){nil:while", 10}, {"fn f(){let l:", 12}, {"fn f(){if a{}else l:while", 18}, {"l:fn f(){}", 0}, {"fn f(){x=l:while", 10}, {"fn f(){l:", 9},
		{"fn f(){break l m;}", 15}, {"fn f(){break 1;}", 13}, {"fn f(){break (l);}", 13}, {"fn f(){break}", 12}, {"fn f(){break if;}", 13}, {"fn f(){continue l,m;}", 17}, {"fn f(){continue \"l\";}", 16}, {"fn f(){break l", 14}, {"fn f(){break:", 12},
		{"fn f(){return}", 13}, {"fn f(){return a", 15}, {"fn f(){return return", 14}, {"fn f(){return a b;", 16}, {"fn f(){return a,b;", 15}, {"fn f(){out;}", 10}, {"fn f(){out}", 10}, {"fn f(){out a,b;}", 12}, {"fn f(){out out", 11},
		{"fn f(){(;}", 8}, {"fn f(){();}", 8}, {"fn f(){(a;}", 9}, {"fn f(){(a];}", 9}, {"fn f(){(a,b);}", 9}, {"fn f(){a);}", 8}, {"fn f(){a];}", 8}, {"fn f(){a[];}", 9}, {"fn f(){a[1;}", 10}, {"fn f(){a[1);}", 10}, {"fn f(){a[1,2];}", 10}, {"fn f(){a[1..2];}", 10}, {"fn f(){[1];}", 7}, {"fn f(){g(;}", 9}, {"fn f(){g(,);}", 9}, {"fn f(){g(a,);}", 11}, {"fn f(){g(a;}", 10}, {"fn f(){g(a b);}", 11}, {"fn f(){g(a];}", 10}, {"fn f(){let(1);}", 10},
	} {
		wantFault(t, x.src, api.ErrSyntax, x.at)
	}
}

// Of several faults the first one is told, whatever stands behind it.
func TestFirstFault(t *testing.T) {
	for _, behind := range []string{"", " ", ")", " $", " \"", " 007", " " + strings.Repeat("a", 32), " 0x", strings.Repeat("(", 100), " = = =", "\n!\n", "}}}}"} {
		for _, x := range []struct {
			src  string
			code api.Errno
			at   int
		}{
			{"x", api.ErrSyntax, 0}, {"let 1", api.ErrSyntax, 4}, {"fn f(){1=", api.ErrSyntax, 8}, {"fn f(){a<b<", api.ErrSyntax, 10}, {"fn f(){l:m", api.ErrSyntax, 9}, {"fn f(){{", api.ErrSyntax, 7}, {"fn f(){-not", api.ErrSyntax, 8}, {"fn f(){f()(", api.ErrSyntax, 10},
			{"$", api.ErrByte, 0}, {"let g $", api.ErrByte, 6}, {"fn f(){a.b", api.ErrByte, 8}, {"fn f(){\"\t", api.ErrString, 7}, {"fn f(){x \"\\q", api.ErrString, 9}, {"fn f(){00 ", api.ErrNumber, 7}, {"fn f(){x 00 ", api.ErrNumber, 9}, {"fn 0xg", api.ErrNumber, 3}, {"fn f " + strings.Repeat("a", 32) + " ", api.ErrName, 5}, {"fn f(){" + strings.Repeat("(", 63) + "(", api.ErrNest, 70},
		} {
			src := x.src
			if behind != "" && behind[0] != ' ' && behind[0] != '\n' {
				src += " " // so that no token gets longer
			}
			wantFault(t, src+behind, x.code, x.at)
		}
	}
}

// What is no token is told where it stands, if all tokens ahead of it are right: behind each beginning of a right source.
func TestNoTokenBehind(t *testing.T) {
	for _, context := range contexts {
		for _, x := range []struct {
			text string
			code api.Errno
		}{{"$", api.ErrByte}, {".", api.ErrByte}, {"!", api.ErrByte}, {"A", api.ErrByte}, {"\"", api.ErrString}, {"\"\\", api.ErrString}, {"00", api.ErrNumber}, {"0x1", api.ErrNumber}, {"9223372036854775808", api.ErrNumber}, {strings.Repeat("l", 32), api.ErrName}} {
			wantFault(t, context+" "+x.text, x.code, len(context)+1)
			wantFault(t, context+"\n"+x.text+" ; fn $", x.code, len(context)+1)
		}
	}
}

// nested are ways to open a bracket in an expression: what stands ahead of it, and what shuts it.
var nested = [][2]string{{"(", ")"}, {"g(", ")"}, {"a[", "]"}, {"not -(", ")"}, {"1+(", ")*2"}, {"g(a,b)+g(c,", ",d)"}, {"(a)[1][", "]"}}

// opened are n brackets, open one within another, and what shuts them: the block of a function, and in it those that sort tells.
func opened(n int, sort func(i int) int) (string, string) {
	ahead, behind := "fn f(){", ";}"
	for i := range n - 1 {
		way := nested[sort(i)%len(nested)]
		ahead, behind = ahead+way[0], way[1]+behind
	}
	return ahead, behind
}

// wantNest asks of a source with MaxNest brackets open: it is right; with one more it is refused there, right or not besides.
func wantNest(t *testing.T, ahead, inner, behind string) {
	t.Helper()
	parsed(t, ahead+inner+behind)
	for _, more := range []string{"(", "[", "{"} {
		for _, rest := range []string{"", "a", "$", behind, inner + behind} {
			wantFault(t, ahead+more+rest, api.ErrNest, len(ahead))
			wantFault(t, ahead+" \n"+more+rest, api.ErrNest, len(ahead)+2)
			wantFault(t, ahead+inner+more+rest, api.ErrNest, len(ahead+inner))
			wantFault(t, ahead+inner+" "+more+rest, api.ErrNest, len(ahead+inner)+1)
		}
	}
	for _, no := range []string{"*", "]", "fn", "..", "=="} {
		wantFault(t, ahead+no+" ((((", api.ErrSyntax, len(ahead))
	}
	wantFault(t, ahead+"$((((", api.ErrByte, len(ahead))
	wantFault(t, ahead, api.ErrSyntax, len(ahead))
}

func TestNestOfEachSort(t *testing.T) {
	for one := range nested {
		ahead, behind := opened(api.MaxNest, func(int) int { return one })
		wantNest(t, ahead, "a", behind)
	}
	ahead, behind := opened(api.MaxNest, func(i int) int { return i })
	wantNest(t, ahead, "a", behind)
	blocks := "fn f(){" + strings.Repeat("if a{", api.MaxNest-1)
	wantNest(t, blocks, "a;", strings.Repeat("}", api.MaxNest))
	wantNest(t, "fn f(){"+strings.Repeat("if a{}else{", api.MaxNest-1), "a;", strings.Repeat("}", api.MaxNest))
	wantNest(t, "fn f(){"+strings.Repeat("while a{", api.MaxNest-1), "a;", strings.Repeat("}", api.MaxNest))
	wantNest(t, "fn f(){"+strings.Repeat("l:for i in a..b{", api.MaxNest-1), "a;", strings.Repeat("}", api.MaxNest))
	wantNest(t, "fn f(){"+strings.Repeat("if a{", 31)+strings.Repeat("(", 16)+strings.Repeat("a[", 16), "a", strings.Repeat("]", 16)+strings.Repeat(")", 16)+";"+strings.Repeat("}", 32))
}

// One bracket less open: another one is refused only where it may not stand.
func TestNestOneLess(t *testing.T) {
	ahead := "fn f(){" + strings.Repeat("(", api.MaxNest-2)
	behind := strings.Repeat(")", api.MaxNest-2) + ";}"
	parsed(t, ahead+"(a)"+behind)
	parsed(t, ahead+"a[1]"+behind)
	parsed(t, ahead+"g()"+behind)
	parsed(t, ahead+"(a)+(b)*g(1)-c[2]"+behind)
	wantFault(t, ahead+"{", api.ErrSyntax, len(ahead))
	wantFault(t, ahead+"[", api.ErrSyntax, len(ahead))
	wantFault(t, ahead+"1(", api.ErrSyntax, len(ahead)+1)
	wantFault(t, ahead+"a{", api.ErrSyntax, len(ahead)+1)
	wantFault(t, ahead+"((", api.ErrNest, len(ahead)+1)
	wantFault(t, ahead+"(a)(", api.ErrSyntax, len(ahead)+3)
	wantFault(t, ahead+"(a)+((", api.ErrNest, len(ahead)+5)
	wantFault(t, ahead+"g(a[", api.ErrNest, len(ahead)+3)
	wantFault(t, ahead+"g({", api.ErrNest, len(ahead)+2)
}

// An if, a loop and a function's head may begin where their block cannot stand any more: that is told at the block.
func TestNestToldAtBracket(t *testing.T) {
	blocks := "fn f(){" + strings.Repeat("if a{", api.MaxNest-1)
	for _, head := range []string{"if a", "if a+1", "while a", "l:while a", "for i in a..b", "l:for i in a..b", "if not -a or b"} {
		wantFault(t, blocks+head+"{}", api.ErrNest, len(blocks+head))
		wantFault(t, blocks+head+";", api.ErrSyntax, len(blocks+head))
		wantFault(t, blocks+head+"$", api.ErrByte, len(blocks+head))
		wantFault(t, blocks+head, api.ErrSyntax, len(blocks+head))
	}
	wantFault(t, blocks+"fn", api.ErrSyntax, len(blocks))
}

// Those that are shut again do not count, and those in strings and remarks are none.
func TestNestShut(t *testing.T) {
	parsed(t, "fn f(){"+strings.Repeat("(a);g();a[1];if a{}", 200)+"}")
	parsed(t, strings.Repeat("fn f(a,b){}", 200))
	parsed(t, "fn f(){a"+strings.Repeat("[1]", 500)+";}")
	parsed(t, "fn f(){"+strings.Repeat("\"((([[[{{{\"; # ((([[[{{{\n", 100)+"}")
	parsed(t, "fn f(){if a{}"+strings.Repeat("else if a{}", 500)+"}")
}

func TestLongestSources(t *testing.T) {
	for _, x := range []struct{ ahead, repeated, behind string }{
		{"", " ", ""}, {"", "#", ""}, {"", "let g;", ""}, {"", "fn f(){}", ""}, {"fn f(){", "a;", "}"}, {"fn f(){", "-", "a;}"}, {"fn f(){", "~", "a;}"}, {"fn f(){", "not ", "a;}"}, {"fn f(){a", "+a", ";}"}, {"fn f(){a", " or a", ";}"}, {"fn f(){a", " and a", ";}"}, {"fn f(){a", "-~a", ";}"}, {"fn f(){a", "[1]", ";}"}, {"fn f(){a", "[1]", "=1;}"}, {"fn f(){g(a", ",a", ");}"}, {"fn f(a", ",a", "){}"},
		{"fn f(){if a{}", "else if a{}", "}"}, {"fn f(){", "if a{}", "}"}, {"fn f(){", "l:while a{}", "}"}, {"fn f(){out \"", "a", "\";}"}, {"fn f(){out \"", "\\xff", "\";}"}, {"fn f(){", "(a);", "}"}, {"fn f(){", "a=(a[b])*-c;", "}"}, {"fn f(){a", "+(a)*b", ";}"}, {"fn f(){", "return;", "}"},
	} {
		n := (api.MaxSource - len(x.ahead+x.behind)) / len(x.repeated)
		src := x.ahead + strings.Repeat(x.repeated, n) + x.behind
		src += strings.Repeat("\n", api.MaxSource-len(src))
		l, f := tree.Parse(src)
		if f != (api.Fault{}) {
			t.Fatalf("%q, %d times: %v", x.repeated, n, f)
		}
		if text, e := tree.Print(l); e != api.OK || len(l) > 1 && text == "" {
			t.Fatalf("%q, %d times: Print: %d", x.repeated, n, e)
		} else if len(text) <= api.MaxSource && deepest(text) <= api.MaxNest {
			if m, f := tree.Parse(text); !same(l, m) || f != (api.Fault{}) {
				t.Fatalf("%q, %d times: there and back: %v", x.repeated, n, f)
			}
		}
		wantFault(t, src+"\n", api.ErrLong, 0)
		wantFault(t, "$"+src, api.ErrLong, 0)
	}
	for _, one := range []string{" ", "a", "(", "$", "\""} {
		wantFault(t, strings.Repeat(one, api.MaxSource+1), api.ErrLong, 0)
	}
	wantFault(t, strings.Repeat(" ", api.MaxSource-1)+"x", api.ErrSyntax, api.MaxSource-1)
	wantFault(t, "fn"+strings.Repeat(" ", api.MaxSource-2), api.ErrSyntax, api.MaxSource)
	wantFault(t, "x"+strings.Repeat("$", api.MaxSource-1), api.ErrSyntax, 0)
}

// A fault at the end of a source that nests as deep as it can.
func TestDeepFaults(t *testing.T) {
	for _, x := range []struct{ repeated, wrong string }{{"-", ";"}, {"~-", "not"}, {"not ", "or"}, {"not ", "}"}, {"a+", ")"}, {"a or ", "="}} {
		ahead := "fn f(){return " + strings.Repeat(x.repeated, 65000/len(x.repeated))
		wantFault(t, ahead+x.wrong, api.ErrSyntax, len(ahead))
		wantFault(t, ahead, api.ErrSyntax, len(ahead))
		wantFault(t, ahead+"$", api.ErrByte, len(ahead))
	}
}

// Every byte of a right source put in the place of another one, left out, or doubled: what is answered is a row that is right, or a fault beside none.
func TestTurnedBytes(t *testing.T) {
	const src = "let g;fn f(a,b){l:while a<=0x1p+1{out \"x\\n\"+b[10];if not a{break l;}else{b[1]=-2;}}for i in 0..9{g=h(a,i);}}"
	want := parsed(t, src)
	for at := range len(src) {
		list := []string{src[:at], src[at:], src[:at] + src[at+1:], src[:at+1] + src[at:]}
		for b := range 256 {
			list = append(list, src[:at]+string([]byte{byte(b)})+src[at+1:])
		}
		for _, turned := range list {
			l, f := tree.Parse(turned)
			if f == (api.Fault{}) {
				wantThereAndBack(t, l)
			} else if len(l) != 0 || f.At < 0 || f.At > len(turned) || f.Code == api.OK {
				t.Fatalf("Parse(%q): %v, %v", turned, l, f)
			}
		}
	}
	if again := parsed(t, src); !slices.Equal(again, want) {
		t.Error("asked again, the row is another one")
	}
}
