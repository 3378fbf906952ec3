package fold_test

import (
	"math"
	"slices"
	"testing"

	"casket/api"
)

// Promise 19.2: operators, with literals of each kind on either side.

// someLiterals are of each kind, with the edges at which operators answer something else.
func someLiterals() []api.Node {
	return []api.Node{
		null, yes, no,
		whole(0), whole(1), whole(2), whole(49), whole(63), whole(64), whole(255), whole(256), whole(1<<47 - 1), whole(1 << 47), whole(1<<53 + 1), whole(1 << 62), whole(math.MaxInt64 - 1), whole(math.MaxInt64), whole(one),
		double(plusZero), double(least), double(half), double(one), double(0x3fe6666666666667), double(0x4008000000000000), double(0x4340000000000000), double(0x43e0000000000000), double(greatest), double(infinity), double(api.Canon),
		text(""), text("a"), text("ab"), text("b"), text("12"), text("-5"), text("0x1p+0"), text("nan"), text("abcdef"), text("\xff\x00"), text(filler(500)), text(filler(501)), text(filler(1000)), text(filler(1001)),
	}
}

var (
	unaries  = []string{"-", "~"}
	binaries = []string{"+", "-", "*", "/", "//", "%", "&", "|", "^", "<<", ">>", "<", "<=", ">", ">=", "==", "!="}
)

// outcomes counts what chapter 10 answers: a value with a literal, one without, an error.
type outcomes struct{ literal, none, refused int }

// holdAgainst folds a node whose kids are literals, and looks whether what comes of it is what chapter 10 answers.
func (o *outcomes) holdAgainst(t *testing.T, kind int, word string, kids ...api.Node) {
	t.Helper()
	var rows [][]api.Node
	for _, kid := range kids {
		rows = append(rows, leaf(kid))
	}
	expression := of(kind, word, rows...)
	v, e := modelAnswer(expression[0], kids)
	switch {
	case e != api.OK:
		o.refused++
		wantStays(t, returned(expression))
	case !modelHasLiteral(v):
		o.none++
		wantStays(t, returned(expression))
	default:
		o.literal++
		want := api.Node{Int: v.Int, Bits: v.Bits, Text: v.Text}
		switch v.Kind {
		case api.Nil:
			want.Kind = api.NodeNil
		case api.Bool:
			want = no
			if v.Int == 1 {
				want = yes
			}
		case api.Int:
			want.Kind = api.NodeInt
		case api.Float:
			want.Kind = api.NodeFloat
		case api.Text:
			want.Kind = api.NodeText
		}
		wantLiteral(t, expression, want)
	}
}

// wantSome asks for outcomes that must be met; which ones there are is told by a letter each.
func (o outcomes) wantSome(t *testing.T, what, letters string) {
	t.Helper()
	for i, n := range []int{o.literal, o.none, o.refused} {
		if slices.Contains([]byte(letters), "lnr"[i]) != (n > 0) {
			t.Errorf("%s: %+v, want %q", what, o, letters)
		}
	}
}

func TestEachBinary(t *testing.T) {
	for _, operator := range binaries {
		var met outcomes
		for _, a := range someLiterals() {
			for _, b := range someLiterals() {
				met.holdAgainst(t, api.NodeBinary, operator, a, b)
			}
		}
		switch operator {
		case "+", "-", "%": // a string that is too long; a number below 0; one that the remainder's steps round to below 0
			met.wantSome(t, operator, "lnr")
		case "==", "!=":
			met.wantSome(t, operator, "l")
		default:
			met.wantSome(t, operator, "lr")
		}
	}
}

func TestEachUnary(t *testing.T) {
	for _, x := range []struct {
		kind       int
		word, want string
	}{{api.NodeUnary, "-", "lnr"}, {api.NodeUnary, "~", "nr"}, {api.NodeNot, "", "lr"}} {
		var met outcomes
		for _, a := range someLiterals() {
			met.holdAgainst(t, x.kind, x.word, a)
		}
		met.wantSome(t, x.word, x.want)
	}
}

// An operator with a kid that is no literal stays, whatever the other one is.
func TestOperatorsOfOthers(t *testing.T) {
	others := [][]api.Node{
		leaf(name("a")), of(api.NodeCall, "f", leaf(null)), of(api.NodeCall, "row", leaf(whole(1))), of(api.NodeIndex, "", leaf(text("ab")), leaf(whole(0))),
		of(api.NodeBinary, "+", leaf(whole(1)), leaf(yes)), of(api.NodeUnary, "-", leaf(whole(1))), of(api.NodeAnd, "", leaf(yes), leaf(whole(1))), of(api.NodeNot, "", leaf(null)),
	}
	for _, other := range others {
		for _, operator := range unaries {
			wantStays(t, returned(of(api.NodeUnary, operator, other)))
		}
		wantStays(t, returned(of(api.NodeNot, "", other)))
		for _, operator := range binaries {
			for _, literal := range []api.Node{null, yes, whole(0), double(one), text("ab")} {
				wantStays(t, returned(of(api.NodeBinary, operator, other, leaf(literal))))
				wantStays(t, returned(of(api.NodeBinary, operator, leaf(literal), other)))
			}
			wantStays(t, returned(of(api.NodeBinary, operator, other, other)))
		}
	}
}

// By hand, as text.
func TestOperatorsAsText(t *testing.T) {
	for _, x := range []struct{ is, want string }{
		{"1 + 2", "3"}, {"1 + 0x1p-1", "0x1.8p+0"}, {"0x1p-1 + 0x1p-1", "0x1p+0"}, {`"ab" + "cd"`, `"abcd"`}, {`"" + ""`, `""`}, {`1 + "a"`, `( 1 + "a" )`}, {"9223372036854775806 + 1", "9223372036854775807"}, {"9223372036854775807 + 1", "( 9223372036854775807 + 1 )"}, {"9223372036854775807 + 0x0p+0", "0x1p+63"},
		{"3 - 2", "1"}, {"2 - 3", "( 2 - 3 )"}, {"2 - 0x1.8p+1", "( 2 - 0x1.8p+1 )"}, {"0x1.8p+1 - 2", "0x1p+0"},
		{"6 * 7", "42"}, {"4294967296 * 2147483648", "( 4294967296 * 2147483648 )"}, {"0 * inf", "nan"},
		{"7 / 2", "0x1.cp+1"}, {"4 / 2", "0x1p+1"}, {"0 / 5", "0x0p+0"}, {"5 / 0", "inf"}, {"0 / 0", "nan"}, {"nil / 1", "( nil / 1 )"},
		{"7 // 2", "3"}, {"7 // 0", "( 7 // 0 )"}, {"0x1.cp+2 // 2", "0x1.8p+1"}, {"7 // 0x0p+0", "inf"},
		{"7 % 4", "3"}, {"7 % 0", "( 7 % 0 )"}, {"0x1.cp+2 % 4", "0x1.8p+1"}, {"49 % 0x1.6666666666667p-1", "( 49 % 0x1.6666666666667p-1 )"},
		{"6 & 3", "2"}, {"6 | 3", "7"}, {"6 ^ 3", "5"}, {"6 & 0x1p+0", "( 6 & 0x1p+0 )"},
		{"1 << 62", "4611686018427387904"}, {"1 << 63", "( 1 << 63 )"}, {"1 << 64", "( 1 << 64 )"}, {"0 << 63", "0"}, {"5 >> 1", "2"}, {"5 >> 63", "0"}, {"5 >> 64", "( 5 >> 64 )"},
		{"1 < 2", "true"}, {"2 < 1", "false"}, {"1 <= 1", "true"}, {"1 > 1", "false"}, {"1 >= 1", "true"}, {`"a" < "ab"`, "true"}, {`"b" >= "ab"`, "true"}, {`1 < "a"`, `( 1 < "a" )`}, {"nil < nil", "( nil < nil )"}, {"nan < 1", "false"}, {"nan >= 1", "false"}, {"9007199254740993 > 0x1p+53", "true"},
		{"1 == 0x1p+0", "true"}, {"9007199254740993 == 0x1p+53", "false"}, {"nan == nan", "false"}, {"nan != nan", "true"}, {"nil == false", "false"}, {"nil == nil", "true"}, {`"" == nil`, "false"}, {`"a" == "a"`, "true"}, {`1 != "1"`, "true"}, {"true != false", "true"},
		{"-0", "0"}, {"-1", "( - 1 )"}, {"-nan", "nan"}, {"-0x0p+0", "( - 0x0p+0 )"}, {"-nil", "( - nil )"}, {`-"a"`, `( - "a" )`}, {"~0", "( ~ 0 )"}, {"~0x1p+0", "( ~ 0x1p+0 )"}, {"~true", "( ~ true )"},
		{"not true", "false"}, {"not false", "true"}, {"not nil", "( not nil )"}, {"not 0", "( not 0 )"}, {`not ""`, `( not "" )`},
		// A number below 0 has no literal: what is made of it is not known ahead.
		{"--1", "( - ( - 1 ) )"}, {"~-1", "( ~ ( - 1 ) )"}, {"~~5", "( ~ ( ~ 5 ) )"}, {"-1 + 5", "( ( - 1 ) + 5 )"}, {"1 - 2 + 3", "( ( 1 - 2 ) + 3 )"}, {"3 + 1 - 2", "2"}, {"-1 < 0", "( ( - 1 ) < 0 )"},
	} {
		wantExpression(t, x.is, x.want)
	}
}
