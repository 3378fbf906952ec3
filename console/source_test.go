package console_test

import (
	"fmt"
	"strings"
	"testing"

	"casket/api"
)

// 18.3: what is asked of the source: clear, tokens, print, tree and vm.

func TestNoSource(t *testing.T) {
	talk(t, "tokens", "tokens 1", "print", "print", "clear", "ok", "tokens", "tokens 1", "print", "print")
	both(t, "new 0", "ok", "reach", "reach 0", "global g", "!63", "run f 9", "!100", "step 9", "state")
}

func TestTokens(t *testing.T) {
	talk(t, "|let x=1..2 # y", "", "tokens", "tokens 7", "|", "", "tokens", "tokens 7", "|fn f(a) { }", "", "tokens", "tokens 14", "tokens", "tokens 14")
	talk(t, "|# a remark", "", "tokens", "tokens 1", "|;", "", "tokens", "tokens 2")
	talk(t, `|"a b" 0x1p+0 inf`, "", "tokens", "tokens 4")
}

func TestPrint(t *testing.T) {
	talk(t, "|let g; fn f(a) { return a - 1 - g; }", "", "print", "print let g ; fn f ( a ) { return ( ( a - 1 ) - g ) ; }")
	talk(t, "|fn f() {", "", "|  out", "", "|  \"a b\\x0a\\x41\\\"\"; }", "", "print", `print fn f ( ) { out "a b\nA\"" ; }`)
	talk(t, "|fn f() { x = nobody(1, 0x18p-4); break; }", "", "print", "print fn f ( ) { x = nobody ( 1 , 0x1.8p+0 ) ; break ; }", "vm 9", "!63 at 9")
	talk(t, "|let g;", "", "|let g;", "", "print", "print let g ; let g ;", "tree 9", "!80 at 11")
}

// A tree that has no text: the line has no blank behind its word.
func TestPrintNothing(t *testing.T) {
	talk(t, "print", "print", "|", "", "print", "print", "|  # a remark", "", "print", "print", "|let g;", "", "print", "print let g ;", "clear", "ok", "print", "print")
}

// A source with a fault: each call tells it with its place.
func TestFaults(t *testing.T) {
	for _, x := range []struct {
		source string
		code   api.Errno
		at     int
	}{
		{"fn f() { $ }", api.ErrByte, 9},
		{"let g; \xff", api.ErrByte, 7},
		{`fn f() { out "a; }`, api.ErrString, 13},
		{`fn f() { out "\q"; }`, api.ErrString, 13},
		{"fn f() { out 007; }", api.ErrNumber, 13},
		{"fn f() { out 0x1; }", api.ErrNumber, 13},
		{"fn f() { out 9223372036854775808; }", api.ErrNumber, 13},
		{"let " + strings.Repeat("g", 32) + ";", api.ErrName, 4},
		{strings.Repeat(" ", api.MaxSource), api.ErrLong, 0}, // and a byte 10
	} {
		fault := fmt.Sprintf("!%d at %d", x.code, x.at)
		talk(t, "|"+x.source, "", "tokens", fault, "print", fault, "tree 9", fault, "vm 9", fault)
	}
}

// What is no fault of tokens is one of the tree, or of the machine.
func TestFaultsOfTrees(t *testing.T) {
	for _, x := range []struct{ source, tokens, fault string }{
		{"out 1;", "tokens 4", "!70 at 0"},
		{"fn f() { 1 = 2; }", "tokens 11", "!70 at 11"},
		{"fn", "tokens 2", "!70 at 3"}, // behind the byte 10
		{"fn f() { return " + strings.Repeat("(", 65), "tokens 72", "!71 at 79"},
	} {
		talk(t, "|"+x.source, "", "tokens", x.tokens, "print", x.fault, "tree 9", x.fault, "vm 9", x.fault)
	}
}

// A source of just MaxSource bytes is taken.
func TestLongestSource(t *testing.T) {
	talk(t, "|"+strings.Repeat(" ", api.MaxSource-1), "", "tokens", "tokens 1", "print", "print", "vm 1", "ok", "|", "", "tokens", "!2 at 0", "print", "!2 at 0", "vm 1", "!2 at 0", "tree 1", "!2 at 0", "reach", "reach 0", "clear", "ok", "tokens", "tokens 1")
}

// What a tree must keep to is asked when a machine is made.
func TestFaultsOfMachines(t *testing.T) {
	for source, fault := range map[string]string{
		"fn f() { return x; }":       "!63 at 16",
		"fn f() { } fn f() { }":      "!80 at 14",
		"fn f() { break; }":          "!82 at 9",
		"fn f(a) { f(); }":           "!81 at 10",
		"fn f() { f(1, 2); } fn len": "!70 at 27",
	} {
		both(t, "|"+source, "", "new 9", fault, "reach", "!102")
	}
}

// Units are 0 to MaxUnits, and are looked at ahead of the source.
func TestUnits(t *testing.T) {
	both(t, "|fn f(n) { return row(n); }", "", "new 0", "ok", "run f 9 0", "error 40 at 17 ticks 2",
		"new 3", "ok", "run f 9 2", "value @0:row:2 ticks 2", "run f 9 0", "error 40 at 17 ticks 2",
		"new 1048576", "ok", "run f 9 1048575", "value @0:row:1048575 ticks 2", "reach", "reach 1048576",
		"new 1048577", "!1 at 0", "new 9223372036854775807", "!1 at 0", "new 4294967296", "!1 at 0", "reach", "reach 1048576",
		"|$", "", "new 1048577", "!1 at 0", "new 3", "!60 at 27", "new 9223372036854775808", "!110")
}

// The machine is the one that was, where a source is refused: with its globals, its things, its run.
func TestRefusedSource(t *testing.T) {
	both(t, "|let g; fn f() { out 1; return row(1); }", "", "new 9", "ok", "set g 5", "ok", "run f 9", "> \"1\"\nvalue @0:row:1 ticks 3", "start f 9", "ok", "step 1", "state 1 1 10 0",
		"|$", "", "new 9", "!60 at 40", "reach", "reach 2", "step 1", "state 2 1 16 0", "new 9", "!60 at 40", "step 9", "> \"1\"\nvalue @1:row:1 ticks 3",
		"global g", "value 5", "set g @0", "ok", "global g", "value @0:row:1", "clear", "ok", "new 1048577", "!1 at 0", "global g", "value @0:row:1", "set g @1", "ok")
}

// What is done to the source does not touch the machine that was made of it.
func TestSourceBehindMachine(t *testing.T) {
	both(t, "|let g; fn f() { return 1; }", "", "new 9", "ok", "clear", "ok", "run f 9", "value 1 ticks 2", "|fn f() { return 2; }", "", "run f 9", "value 1 ticks 2", "global g", "value nil",
		"print", "print fn f ( ) { return 2 ; }", "new 9", "ok", "run f 9", "value 2 ticks 2", "global g", "!63")
}

// A machine takes the place of the one that was, of either kind: nothing is left of that.
func TestAnotherMachine(t *testing.T) {
	for _, first := range kinds {
		for _, second := range kinds {
			sites := "!102"
			if second == "vm" {
				sites = "site 33 0 0 0 0"
			}
			talk(t, "|let g; fn f(a) { g = a; return a + 1; }", "", first+" 9", "ok", "run f 9 1", "value 2 ticks 3", "start f 9 1", "ok", "step 2", "state 2 1 17 0 1",
				second+" 9", "ok", "global g", "value nil", "step 1", "state", "sites", sites, "run f 9 2", "value 3 ticks 3", "global g", "value 2")
		}
	}
}

// All lines of a source count, till it is cleared; a new one behind it is one of its own.
func TestClear(t *testing.T) {
	both(t, "|fn f() {", "", "tokens", "tokens 6", "|}", "", "tokens", "tokens 7", "new 9", "ok", "clear", "ok", "clear", "ok", "tokens", "tokens 1", "|let a;", "", "tokens", "tokens 4", "|let b;", "", "print", "print let a ; let b ;",
		"global a", "!63", "new 9", "ok", "global a", "value nil", "global b", "value nil", "run f 9", "!100")
}
