package lex_test

import (
	"fmt"
	"math"
	"math/big"
	"regexp"
	"slices"
	"strconv"
	"strings"
	"testing"

	"casket/api"
	"casket/lex"
)

const infinity = 0x7ff0000000000000

// reserved are the names that are words, written out here once more.
var reserved = strings.Fields("fn let if else while for in break continue return out and or not true false nil")

var (
	longMarks  = strings.Fields("== != <= >= << >> // ..")
	shortMarks = strings.Fields("+ - * / % & | ^ ~ < > = ( ) { } [ ] , ; :")
)

func allMarks() []string { return slices.Concat(longMarks, shortMarks) }

// The model: what the chapter says begins at a byte, as forms that stand at the beginning of a text.
var (
	gapForm    = regexp.MustCompile(`^(?:[ \t\n]|#[^\n]*)`)
	nameForm   = regexp.MustCompile(`^[a-z_][a-z0-9_]*`)
	doubleForm = regexp.MustCompile(`^0x[0-9a-f.]*(?:p[+-]?[0-9]*)?`)
	wholeForm  = regexp.MustCompile(`^[0-9]+`)
	stringForm = regexp.MustCompile(`^"(?:[ !#-\[\]-~]|\\[\\"n]|\\x[0-9a-f][0-9a-f])*"`)
	escapeForm = regexp.MustCompile(`\\(?:[\\"n]|x[0-9a-f][0-9a-f])`)
	rightForm  = regexp.MustCompile(`^0x[0-9a-f]+(?:\.[0-9a-f]+)?p[+-][0-9]{1,5}$`)
)

// found is what the model finds at a byte: how many bytes it has, and its token or its error.
type found struct {
	size  int
	token api.Token
	e     api.Errno
}

func modelNext(rest string) found {
	if s := gapForm.FindString(rest); s != "" {
		return found{size: len(s)}
	}
	if s := nameForm.FindString(rest); s != "" {
		return modelName(s)
	}
	if s := doubleForm.FindString(rest); s != "" {
		return modelDouble(s)
	}
	if s := wholeForm.FindString(rest); s != "" {
		return modelWhole(s)
	}
	if rest[0] == '"' {
		return modelString(stringForm.FindString(rest))
	}
	for _, list := range [][]string{longMarks, shortMarks} {
		for _, m := range list {
			if strings.HasPrefix(rest, m) {
				return found{size: len(m), token: api.Token{Kind: api.TokMark, Text: m}}
			}
		}
	}
	return found{e: api.ErrByte}
}

func modelName(s string) found {
	token := api.Token{Kind: api.TokName, Text: s}
	switch {
	case len(s) > 31:
		return found{e: api.ErrName}
	case s == "inf":
		token = api.Token{Kind: api.TokFloat, Bits: infinity}
	case s == "nan":
		token = api.Token{Kind: api.TokFloat, Bits: api.Canon}
	case slices.Contains(reserved, s):
		token.Kind = api.TokWord
	}
	return found{size: len(s), token: token}
}

// modelDouble reads with numbers of as many bits as are wanted, and asks whether one of 64 is the same.
func modelDouble(s string) found {
	if len(s) > 64 || !rightForm.MatchString(s) {
		return found{e: api.ErrNumber}
	}
	exact, _, err := big.ParseFloat(s, 0, 400, big.ToNearestEven)
	if err != nil {
		panic(err)
	}
	near, accuracy := exact.Float64()
	if accuracy != big.Exact {
		return found{e: api.ErrNumber}
	}
	return found{size: len(s), token: api.Token{Kind: api.TokFloat, Bits: math.Float64bits(near)}}
}

func modelWhole(s string) found {
	i, err := strconv.ParseInt(s, 10, 64)
	if err != nil || s[0] == '0' && len(s) > 1 {
		return found{e: api.ErrNumber}
	}
	return found{size: len(s), token: api.Token{Kind: api.TokInt, Int: i}}
}

func modelString(s string) found {
	if s == "" {
		return found{e: api.ErrString}
	}
	text := escapeForm.ReplaceAllStringFunc(s[1:len(s)-1], func(escape string) string {
		switch escape[1] {
		case 'n':
			return "\n"
		case 'x':
			b, _ := strconv.ParseUint(escape[2:], 16, 8)
			return string([]byte{byte(b)})
		}
		return escape[1:]
	})
	return found{size: len(s), token: api.Token{Kind: api.TokText, Text: text}}
}

// model are the tokens ahead of the fault, or all of them.
func model(src string) ([]api.Token, api.Fault) {
	if len(src) > 1<<16 {
		return nil, api.Fault{Code: api.ErrLong}
	}
	var list []api.Token
	at := 0
	for at < len(src) {
		next := modelNext(src[at:])
		if next.e != api.OK {
			return list, api.Fault{Code: next.e, At: at}
		}
		if next.token.Kind != 0 {
			next.token.At = at
			list = append(list, next.token)
		}
		at += next.size
	}
	return append(list, api.Token{Kind: api.TokEnd, At: at}), api.Fault{}
}

// toldToken is a token as the chapter's table has it: kind, what it says, place. What has no place there must be zero.
func toldToken(k api.Token) string {
	bare, says := api.Token{Kind: k.Kind, At: k.At}, ""
	switch k.Kind {
	case api.TokName, api.TokWord, api.TokMark:
		bare.Text = k.Text
		says = [...]string{api.TokName: "Name ", api.TokWord: "Word ", api.TokMark: "Mark "}[k.Kind] + k.Text
	case api.TokText:
		bare.Text = k.Text
		says = "Text " + strconv.Quote(k.Text)
	case api.TokInt:
		bare.Int = k.Int
		says = fmt.Sprintf("Int %d", k.Int)
	case api.TokFloat:
		bare.Bits = k.Bits
		says = fmt.Sprintf("Float %x", k.Bits)
	case api.TokEnd:
		says = "End"
	}
	if says == "" || k != bare {
		return fmt.Sprintf("no token: %+v", k)
	}
	return fmt.Sprintf("%s %d", says, k.At)
}

func toldFault(f api.Fault) string {
	name := map[api.Errno]string{api.ErrLong: "ErrLong", api.ErrName: "ErrName", api.ErrNumber: "ErrNumber", api.ErrString: "ErrString", api.ErrByte: "ErrByte"}[f.Code]
	if name == "" {
		return fmt.Sprintf("no fault: %+v", f)
	}
	return fmt.Sprintf("%s %d", name, f.At)
}

// told are tokens and a fault behind them, if there is one.
func told(list []api.Token, f api.Fault) string {
	var parts []string
	for _, k := range list {
		parts = append(parts, toldToken(k))
	}
	if f != (api.Fault{}) {
		parts = append(parts, toldFault(f))
	}
	return strings.Join(parts, ", ")
}

// asked goes through Tokens to its end: the tokens, the fault behind them, and what is wrong with how they come.
func asked(src string) (list []api.Token, fault api.Fault, wrong string) {
	ended := false
	for k, f := range lex.Tokens(src) {
		if ended {
			return list, fault, "it goes on behind its end"
		}
		if f != (api.Fault{}) {
			if k != (api.Token{}) {
				return list, f, fmt.Sprintf("a token beside the fault: %+v", k)
			}
			fault, ended = f, true
			continue
		}
		list = append(list, k)
		ended = k.Kind == api.TokEnd
	}
	return list, fault, ""
}

// wantAnswer asks both calls: All has no token beside a fault.
func wantAnswer(t *testing.T, src string, list []api.Token, fault api.Fault) {
	t.Helper()
	got, f, wrong := asked(src)
	if !slices.Equal(got, list) || f != fault || wrong != "" {
		t.Errorf("Tokens(%.80q): %s\n got %.300s\nwant %.300s", src, wrong, told(got, f), told(list, fault))
	}
	if fault != (api.Fault{}) {
		list = nil
	}
	if all, f := lex.All(src); !slices.Equal(all, list) || f != fault {
		t.Errorf("All(%.80q):\n got %.300s\nwant %.300s", src, told(all, f), told(list, fault))
	}
}

// wantModel asks for what the model says.
func wantModel(t *testing.T, src string) {
	t.Helper()
	list, fault := model(src)
	wantAnswer(t, src, list, fault)
}

// wantTold asks for what is told here, and holds the model against it.
func wantTold(t *testing.T, src, want string) {
	t.Helper()
	list, fault, wrong := asked(src)
	if got := told(list, fault); got != want || wrong != "" {
		t.Errorf("Tokens(%.80q): %s\n got %.300s\nwant %.300s", src, wrong, got, want)
	}
	wantAnswer(t, src, list, fault)
	if of := told(model(src)); of != want {
		t.Errorf("the model of %.80q is wrong: %.300s", src, of)
	}
}

// wantTable asks row by row: a source, and what is told of it.
func wantTable(t *testing.T, rows [][2]string) {
	t.Helper()
	for _, row := range rows {
		wantTold(t, row[0], row[1])
	}
}

// everyText hands each text of up to n letters to check.
func everyText(letters string, n int, check func(string)) {
	texts := []string{""}
	for range n + 1 {
		var longer []string
		for _, s := range texts {
			check(s)
			for i := range len(letters) {
				longer = append(longer, s+letters[i:i+1])
			}
		}
		texts = longer
	}
}

// chance is a row of numbers that look like chance, and are the same in each run.
type chance uint64

func (c *chance) below(n int) int {
	*c = *c*6364136223846793005 + 1442695040888963407
	return int(uint64(*c) >> 33 % uint64(n))
}

func pick[T any](c *chance, list []T) T { return list[c.below(len(list))] }
