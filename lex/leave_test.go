package lex_test

import (
	"iter"
	"slices"
	"strings"
	"testing"

	"casket/api"
	"casket/lex"
)

// Promise 11.2, and R3: Tokens is told as long as it is asked, as often as it is asked; All's answers are apart.

// sources have tokens of all kinds; the last ones have faults.
var sources = []string{
	"", " ", "x", "let x=1..2 # y", `"a\n" 0x1p+0 fn <= 7 inf`, strings.Repeat("a 1 ", 500), "if a { out b; } # end\n",
	"!", "a !", "a b c !", `a "b`, "1 007 x", "0x", strings.Repeat("a", 32), "x " + strings.Repeat("a", 32), strings.Repeat(" ", api.MaxSource+1),
}

// heard is what comes with each call of a loop's body.
type heard struct {
	token api.Token
	fault api.Fault
}

// hear goes through a sequence, and leaves it at its n-th answer.
func hear(seq iter.Seq2[api.Token, api.Fault], n int) []heard {
	var list []heard
	seq(func(k api.Token, f api.Fault) bool {
		list = append(list, heard{k, f})
		return len(list) != n
	})
	return list
}

// allHeard is what is heard of a source, by the model.
func allHeard(src string) []heard {
	var list []heard
	tokens, fault := model(src)
	for _, k := range tokens {
		list = append(list, heard{token: k})
	}
	if fault != (api.Fault{}) {
		list = append(list, heard{fault: fault})
	}
	return list
}

// Left at the first, at each in the middle, and at the last one; asked again, it begins at the front.
func TestLeftEarly(t *testing.T) {
	for _, src := range sources {
		want := allHeard(src)
		seq := lex.Tokens(src)
		for n := 1; n <= len(want)+1; n++ {
			first := want[:min(n, len(want))]
			if got := hear(seq, n); !slices.Equal(got, first) {
				t.Errorf("%.40q left at %d: %v", src, n, got)
			}
			if got := hear(lex.Tokens(src), n); !slices.Equal(got, first) {
				t.Errorf("a new one of %.40q left at %d: %v", src, n, got)
			}
		}
	}
}

func TestLeftByBreak(t *testing.T) {
	n := 0
	for k, f := range lex.Tokens("a b c !") {
		if n++; n == 2 {
			if k != (api.Token{Kind: api.TokName, At: 2, Text: "b"}) || f != (api.Fault{}) {
				t.Errorf("the second one is %v, %v", k, f)
			}
			break
		}
	}
	if n != 2 {
		t.Errorf("left at %d", n)
	}
	if n := len(hear(lex.Tokens("a b c !"), -1)); n != 4 {
		t.Errorf("all of it: %d", n)
	}
}

// Nothing behind TokEnd, and nothing behind a fault, whatever the loop answers.
func TestNothingBehind(t *testing.T) {
	for _, src := range sources {
		list := hear(lex.Tokens(src), -1)
		for i, x := range list {
			last := x.fault != (api.Fault{}) || x.token.Kind == api.TokEnd
			if last != (i == len(list)-1) {
				t.Errorf("%.40q: %v is the answer %d of %d", src, x, i, len(list))
			}
			if (x.fault == (api.Fault{})) == (x.token == (api.Token{})) {
				t.Errorf("%.40q: token and fault, or none: %v", src, x)
			}
		}
		if !slices.Equal(list, allHeard(src)) {
			t.Errorf("%.40q: %v", src, list)
		}
	}
}

func TestAskedTwice(t *testing.T) {
	for _, src := range sources {
		seq := lex.Tokens(src)
		first, second := hear(seq, -1), hear(seq, -1)
		if want := allHeard(src); !slices.Equal(first, want) || !slices.Equal(second, want) {
			t.Errorf("%.40q: %v, then %v", src, first, second)
		}
	}
}

// Two loops over one sequence, one within the other and turn by turn, know nothing of each other.
func TestAskedAtOnce(t *testing.T) {
	for _, src := range []string{"a b 1", "x \"", "", "1 !"} {
		seq, want := lex.Tokens(src), allHeard(src)
		i := 0
		for k, f := range seq {
			if got := hear(seq, -1); !slices.Equal(got, want) {
				t.Errorf("%q: within, at %d: %v", src, i, got)
			}
			if want[i] != (heard{k, f}) {
				t.Errorf("%q: around, at %d: %v, %v", src, i, k, f)
			}
			i++
		}
		a, stopA := iter.Pull2(seq)
		b, stopB := iter.Pull2(seq)
		a()
		for i := range want {
			if i+1 < len(want) {
				if k, f, ok := a(); !ok || want[i+1] != (heard{k, f}) {
					t.Errorf("%q: the one ahead, at %d: %v, %v", src, i+1, k, f)
				}
			}
			if k, f, ok := b(); !ok || want[i] != (heard{k, f}) {
				t.Errorf("%q: the one behind, at %d: %v, %v", src, i, k, f)
			}
		}
		stopA()
		stopB()
	}
}

// Other sequences that are under way change nothing.
func TestSequencesApart(t *testing.T) {
	var pulls []func() (api.Token, api.Fault, bool)
	for _, src := range sources {
		next, stop := iter.Pull2(lex.Tokens(src))
		defer stop()
		pulls = append(pulls, next)
	}
	for turn := range 20 {
		for i, src := range sources {
			want := allHeard(src)
			k, f, ok := pulls[i]()
			if ok != (turn < len(want)) || ok && want[turn] != (heard{k, f}) {
				t.Errorf("%.40q, turn %d: %v, %v, %v", src, turn, k, f, ok)
			}
		}
	}
}

func TestAll(t *testing.T) {
	for _, src := range sources {
		_, fault := model(src)
		all, f := lex.All(src)
		if fault != (api.Fault{}) {
			if len(all) != 0 || f != fault {
				t.Errorf("All(%.40q): %v, %v; want none, and %v", src, all, f, fault)
			}
			continue
		}
		if n := len(all); n == 0 || all[n-1] != (api.Token{Kind: api.TokEnd, At: len(src)}) {
			t.Errorf("All(%.40q) has no end: %v", src, all)
		}
	}
}

// Answers that are written over and grown are apart, their spare room too.
func TestAnswersApart(t *testing.T) {
	stray := api.Token{Kind: 99, At: -1, Text: "stray", Int: -1, Bits: 1}
	for _, src := range sources {
		list, fault := model(src)
		if fault != (api.Fault{}) {
			list = nil
		}
		var answers [][]api.Token
		for range 4 {
			all, _ := lex.All(src)
			answers = append(answers, all)
		}
		for i, all := range answers {
			if !slices.Equal(all, list) {
				t.Errorf("All(%.40q) changed: %v", src, all)
			}
			full := all[:cap(all)]
			for j := range full {
				full[j] = stray
			}
			answers[i] = append(all, stray, stray)
		}
		wantModel(t, src)
	}
}
