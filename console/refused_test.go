package console_test

import (
	"fmt"
	"slices"
	"strings"
	"testing"
)

// 18.4: what is refused, with which number, and which error goes ahead of which.

// forms are lines of each command that are right, but for what a machine says of them.
var forms = []string{
	"clear", "tokens", "print", "tree 9", "vm 9", "run f 9", "run f 9 1", "run f 9 1 2", "start f 9", "start f 9 1", "step 1",
	"global g", "set g 1", "peek 0 0", "poke 0 0 1", "release 0", "reach", "sites", "force 0 0",
}

// asksMachine tells whether a command is one of `run` to `force`.
func asksMachine(line string) bool {
	return !slices.Contains([]string{"clear", "tokens", "print", "tree", "vm"}, strings.Fields(line)[0])
}

// What stands ahead of a line: no machine, one of each kind, one with a run under way, one behind a source that was refused.
func settings() map[string][]string {
	source := []string{"|let g; fn f(a) { return a + 1; }", ""}
	list := map[string][]string{"no machine": source}
	for _, kind := range kinds {
		open := slices.Concat(source, []string{kind + " 9", "ok"})
		list[kind] = open
		list[kind+", a run"] = slices.Concat(open, []string{"start f 9 1", "ok", "step 1", "state 1 1 10 0 1"})
		list[kind+", another source"] = slices.Concat(open, []string{"|$", "", kind + " 9", "!60 at 33"})
	}
	return list
}

// A first word that is no command.
func TestNoCommand(t *testing.T) {
	for _, first := range settings() {
		talk(t, each(first, "!110", "frob", "Clear", "CLEAR", "cleared", "clea", "token", "tokens,", "print;", "trees 9", "vms 9", "runs f 9", "state", "help", "quit", "exit",
			"0", "9", "nil", "@0", "-", "/", ".", ";", ">", "> x", "fn f() { }", "let g;", "line 1: error 110", "ok", "é", "\x00", "code f", "regs f", "end", "load", `"clear"`, "clear\t", "9 run f", "f run 9")...)
	}
}

// Too few words, and too many, of whatever forms.
func TestNumberOfWords(t *testing.T) {
	few := []string{"tree", "vm", "run", "run f", "start", "start f", "step", "global", "set", "set g", "peek", "peek 0", "poke", "poke 0", "poke 0 0", "release", "force", "force 0"}
	for _, first := range settings() {
		talk(t, each(first, "!110", few...)...)
		for _, line := range forms {
			if strings.HasPrefix(line, "run") || strings.HasPrefix(line, "start") {
				continue // they take any number of values
			}
			for _, more := range []string{" 1", " x", " nil", " @0", ` "a b"`, ` "a`, " #", " # x", " 1 1 1 1"} {
				talk(t, each(first, "!110", line+more)...)
			}
		}
	}
}

// A word of another form in each place where a number is asked for.
func TestNoNumbers(t *testing.T) {
	words := []string{"-1", "+1", "-0", "00", "01", "-", "x", "1x", "0x1p+0", "1.0", "1e1", "nil", "true", "inf", "@0", `"1"`, `"1`, `1"`, "9223372036854775808", "99999999999999999999", "-9223372036854775808", strings.Repeat("1", 64), strings.Repeat("1", 65), "1\t", "١", "''", "*", "n"}
	for _, first := range settings() {
		for _, form := range []string{"tree N", "vm N", "run f N", "run f N 1", "run f N @0", "start f N", "start f N 1", "step N", "peek N 0", "peek 0 N", "peek N N", "poke N 0 1", "poke 0 N 1", "release N", "force N 0", "force 0 N"} {
			var lines []string
			for _, word := range words {
				lines = append(lines, strings.ReplaceAll(form, "N", word))
			}
			talk(t, each(first, "!110", lines...)...)
		}
	}
}

// The least and the greatest number that fit are numbers: what is said of them is said by the chapters.
func TestNumbers(t *testing.T) {
	both(t, "|let g; fn f() { return row(1); }", "", "new 0", "ok", "new 9", "ok", "run f 0", "error 90 at 10 ticks 0", "run f 9223372036854775807", "!13", "start f 9223372036854775807", "!13", "step 0", "error 90 at 10 ticks 0", "step 9223372036854775807", "error 90 at 10 ticks 0",
		"run f 9", "value @0:row:1 ticks 2", "peek 0 0", "value nil", "peek 9223372036854775807 9223372036854775807", "!101", "peek 0 9223372036854775807", "!31", "poke 0 9223372036854775807 1", "!31", "poke 9223372036854775807 0 1", "!101", "release 9223372036854775807", "!101", "new 9223372036854775807", "!1 at 0", "release 0", "ok")
}

// Without a machine each command of `run` to `force` is refused, the others are not.
func TestNoMachine(t *testing.T) {
	for _, line := range forms {
		if asksMachine(line) {
			talk(t, line, "!102", "tokens", "tokens 1", line, "!102", "|$", "", "vm 9", "!60 at 0", line, "!102", "tree 9", "!60 at 0", line, "!102")
		}
	}
	talk(t, "clear", "ok", "tokens", "tokens 1", "print", "print", "tree 9", "ok", "reach", "reach 0")
}

// A tree machine has no sites, whatever is asked of them.
func TestNoSites(t *testing.T) {
	talk(t, "|fn f(a) { return a + 1; }", "", "tree 9", "ok", "sites", "!102", "force 0 0", "!102", "force 9 9", "!102", "start f 9 1", "ok", "sites", "!102", "force 0 0", "!102",
		"vm 9", "ok", "sites", "site 19 0 0 0 0", "force 0 0", "ok", "start f 9 1", "ok", "sites", "site 19 0 0 0 0", "force 0 1", "ok", "force 9 9", "!103",
		"tree 9", "ok", "sites", "!102", "force 0 0", "!102", "force 0", "!110", "sites 0", "!110", "force 0 -1", "!110")
}

// Numbers of things that are not held: never given, released, too great.
func TestNoThings(t *testing.T) {
	for _, ref := range []string{"@1", "@2", "@3", "@2147483647", "@2147483648", "@4294967296", "@4294967298", "@99999999999", "@9223372036854775807"} {
		both(t, "|let g; fn f(a) { return row(a); }", "", "new 99", "ok", "run f 9 1", "value @0:row:1 ticks 2", "run f 9 1", "value @1:row:1 ticks 2", "run f 9 1", "value @2:row:1 ticks 2", "release 1", "ok", "release 2", "ok",
			"run f 9 "+ref, "!101", "start f 9 "+ref, "!101", "set g "+ref, "!101", "poke 0 0 "+ref, "!101", "step 1", "value @2:row:1 ticks 2", "global g", "value nil", "peek 0 0", "value nil", "set g @0", "ok")
	}
}

// The first error that applies: ErrLine, ErrState, ErrRef, and what the chapter says.
func TestFirstError(t *testing.T) {
	// ErrLine goes ahead of ErrState, of ErrRef, of all others.
	talk(t, "run f", "!110", "run f x", "!110", "run f 9 @x", "!110", "step x", "!110", "global", "!110", "set g @0 1", "!110", "poke 0 0 nill", "!110", "sites 1", "!110", "force 0 x", "!110", "reach 0", "!110")
	both(t, "|let g; fn f(a) { return a; }", "", "new 9", "ok", "run g 9 @7 x", "!110", "run f 9 @7 \"a", "!110", "set none @7 1", "!110", "poke 7 7 @7 @7", "!110", "set none x", "!110", "run f 1099511627777 @99999999999999999999", "!110", "run none x @7", "!110")
	// ErrState goes ahead of ErrRef.
	talk(t, "run f 9 @0", "!102", "start f 9 @0", "!102", "set g @0", "!102", "poke 0 0 @0", "!102", "run f 9 @99999999999", "!102")
	// ErrRef goes ahead of what the chapter says: no function, another number of arguments, fuel, no global, no thing.
	both(t, "|let g; fn f(a) { return row(1); }", "", "new 9", "ok", "run f 9 1", "value @0:row:1 ticks 2",
		"run none 9 @7", "!101", "run f 9 @7 @7", "!101", "run f 9 @0 @7", "!101", "run f 9 1 @7", "!101", "run f 1099511627777 @7", "!101", "start none 1099511627777 @7", "!101", "set none @7", "!101", "poke 7 0 @7", "!101", "poke 0 7 @7", "!101", "poke 7 7 @99999999999", "!101",
		"run none 9 @0", "!100", "run f 9 @0 @0", "!81", "run f 1099511627777 @0", "!13", "run none 1099511627777 @0", "!100", "run f 1099511627777 @0 @0", "!81", "set none @0", "!63", "poke 0 7 @0", "!31")
	// And ahead of the ErrState of a run that is under way: that is what the chapter says.
	both(t, "|let g; fn f(a) { return row(1); }", "", "new 9", "ok", "run f 9 1", "value @0:row:1 ticks 2", "start f 9 @0", "ok", "step 1", "state 1 1 10 0 row:1",
		"run f 9 @7", "!101", "start f 9 @1", "!101", "set g @1", "!101", "set none @99999999999", "!101", "poke 0 0 @1", "!101",
		"run f 9 @0", "!102", "start none 9 @0", "!102", "set g @0", "!102", "set none @0", "!102", "poke 0 0 @0", "!102", "poke 7 7 @0", "!102", "peek 7 7", "!102", "peek 99999999999 0", "!102", "release 7", "!102", "global none", "!102",
		"step 9", "value @1:row:1 ticks 2", "set g @1", "ok")
}

// Behind a source that was refused, with a run under way and without, a line tells what it tells without that.
func TestRefusedChangesNothing(t *testing.T) {
	wrong := []string{"frob", "run", "run f", "run none 9", "run f 9", "run f 9 1 2", "run f 9 @9", "run f 1099511627777 1", "start f 9 @9", "start none 9", "set none 1", "set g @9", "set g x", "global none", "peek 9 0", "poke 9 0 1", "poke 0 9 1", "release 9", "force 9 9", "step", "step x", "vm 1048577", "tree 1048577", "vm x", `set g "a`, "sites 1", "clear 1", "tokens 1", "print 1"}
	lines := []string{"|let g; fn f(a) { out a; g = row(1); return g; }", "new 9", "run f 9 5", "tokens", "global g", "start f 9 @0", "step 1", "reach", "step 1", "step 1", "step 9", "global g", "peek 0 0", "poke 0 0 7", "peek 0 0", "release 0", "reach", "print", "clear", "tokens"}
	for _, kind := range kinds {
		want := run(of(kind, script(lines...)))
		for _, extra := range wrong {
			text := ""
			for i, line := range lines {
				text += line + "\n"
				if i > 0 {
					text += extra + "\n"
				}
			}
			got := ""
			for _, line := range strings.SplitAfter(run(of(kind, text)), "\n") {
				if !strings.HasPrefix(line, "line ") {
					got += line
				}
			}
			if got != want {
				t.Errorf("%s with lines %q among its own tells:\n%s\nwant:\n%s", kind, extra, got, want)
			}
		}
	}
}

// Lines that are refused are told one by one, each with its number.
func TestManyRefused(t *testing.T) {
	var text, want strings.Builder
	for i := range 3000 {
		switch i % 4 {
		case 0:
			text.WriteString("frob\n")
			fmt.Fprintf(&want, "line %d: error 110\n", i+1)
		case 1:
			text.WriteString("reach\n")
			fmt.Fprintf(&want, "line %d: error 102\n", i+1)
		case 2:
			text.WriteString("vm 1048577\n")
			fmt.Fprintf(&want, "line %d: error 1 at 0\n", i+1)
		default:
			text.WriteString("tokens\n")
			want.WriteString("tokens 1\n")
		}
	}
	wantTold(t, text.String(), want.String())
}
