package console_test

import (
	"fmt"
	"strings"
	"testing"

	"casket/api"
)

// 18.3: runs, at once and by steps.

func TestRun(t *testing.T) {
	both(t, "|fn f(n) { for i in 0..n { out i; } return n / 2; }", "", "new 9", "ok",
		"run f 99 0", "value 0x0p+0 ticks 4",
		"run f 99 3", "> \"0\"\n> \"1\"\n> \"2\"\nvalue 0x1.8p+0 ticks 10",
		"run f 5 3", "> \"0\"\nerror 90 at 26 ticks 5",
		"run f 0 3", "error 90 at 3 ticks 0",
		"run f 1099511627776 1", "> \"0\"\nvalue 0x1p-1 ticks 6",
		"run f 99 nil", "error 51 at 10 ticks 2",
		"run f 99 140737488355328", "error 13 at 10 ticks 2",
		"run f 1099511627777 1", "!13", "run f 99", "!81", "run f 99 1 2", "!81", "run g 99 1", "!100", "run F 99 1", "!100", "run f() 99 1", "!100")
}

// Lines that are told are written as strings are, whatever is in them.
func TestLinesTold(t *testing.T) {
	turns := []string{"|fn f(s) { out s; out \"\"; out nil; out true; out 0x1p-1; out -5; }", "", "new 999", "ok"}
	for _, s := range []string{"", "a", "a b", "\n", "a\nb", "\"", "\\", "\x00\x1f\x7f\x80\xff", "> x", "é", strings.Repeat("long ", 99)} {
		turns = append(turns, "run f 99 "+spelt(s), "> "+spelt(s)+"\n> \"\"\n> \"nil\"\n> \"true\"\n> \"0x1p-1\"\n> \"-5\"\nvalue nil ticks 7")
	}
	both(t, turns...)
}

// Runs that are refused on their way tell what they told, why, where and when.
func TestRefusedRuns(t *testing.T) {
	for _, x := range []struct{ body, want string }{
		{"out 1; return 1 + nil;", "> \"1\"\nerror 51 at 25 ticks 3"},
		{"out 1; out row(1);", "> \"1\"\nerror 51 at 16 ticks 3"},
		{"return 1 // 0;", "error 11 at 18 ticks 2"},
		{"return 9223372036854775807 + 1;", "error 10 at 36 ticks 2"},
		{"return 1 << 64;", "error 12 at 18 ticks 2"},
		{"return row(1)[1];", "error 31 at 22 ticks 2"},
		{"return f();", "error 91 at 16 ticks 128"},
		{"out 1; return row(99);", "> \"1\"\nerror 40 at 23 ticks 3"},
		{"while true { }", "error 90 at 9 ticks 1000"},
		{"return num(\"x\");", "error 20 at 16 ticks 2"},
		{"return frombits(9221120237041090561);", "value nan ticks 2"},
	} {
		both(t, "|fn f() { "+x.body+" }", "", "new 40", "ok", "run f 1000", x.want, "step 0", x.want, "reach", "reach 0")
	}
}

// As much as may be told, and one byte more.
func TestMuchTold(t *testing.T) {
	line := strings.Repeat("x", 1023)
	lines := strings.Repeat("> \""+line+"\"\n", api.MaxOut/1024)
	both(t, "|fn f(s, n) { for i in 0..n { out s; } }", "", "new 999", "ok",
		fmt.Sprintf("run f 9999 \"%s\" 64", line), lines+"value nil ticks 131",
		fmt.Sprintf("run f 9999 \"%s\" 65", line), lines+"error 92 at 29 ticks 132")
}

func TestStart(t *testing.T) {
	both(t, "|fn f(a) { return a; }", "", "new 9", "ok",
		"start g 9 1", "!100", "start f 9", "!81", "start f 9 1 2", "!81", "start f 1099511627777 1", "!13", "step 1", "state",
		"start f 9 1", "ok", "start f 9 1", "!102", "start g 9", "!102", "run f 9 1", "!102", "step 9", "value 1 ticks 2",
		"start f 1099511627776 2", "ok", "step 0", "state", "step 9", "value 2 ticks 2", "start f 0 3", "ok", "step 1", "error 90 at 3 ticks 0")
}

// The state is that behind the last step that was true; a run's end is told as run tells it, and again as often as it is asked.
func TestStep(t *testing.T) {
	both(t, "|let g; fn f(n, s) { let r = row(n); for i in 0..n { let b = u8(i); out s; g = h(i); } return r; } fn h(i) { return i; }", "", "new 99", "ok",
		"step 0", "state", "step 9", "state",
		`start f 99 2 "x"`, "ok", "step 0", "state",
		"step 1", `state 1 1 10 0 2 "x"`,
		"step 0", `state 1 1 10 0 2 "x"`,
		"step 1", `state 2 1 24 0 2 "x"`,
		"step 1", `state 3 1 36 0 2 "x" row:2`,
		"step 1", `state 4 1 36 0 2 "x" row:2`,
		"step 1", `state 5 1 56 0 2 "x" row:2 0`,
		"step 1", `state 6 1 67 0 2 "x" row:2 0 u8:0`,
		"step 1", `state 7 1 74 1 2 "x" row:2 0 u8:0`,
		"step 1", "state 8 2 101 1 0",
		"step 2", `state 10 1 36 1 2 "x" row:2`,
		"step 4", `state 14 2 101 2 1`,
		"step 0", `state 14 2 101 2 1`,
		"step 2", `state 16 1 36 2 2 "x" row:2`,
		"step 1", `state 17 1 86 2 2 "x" row:2`,
		"step 1", "> \"x\"\n> \"x\"\nvalue @0:row:2 ticks 17",
		"step 0", "> \"x\"\n> \"x\"\nvalue @0:row:2 ticks 17",
		"step 9223372036854775807", "> \"x\"\n> \"x\"\nvalue @0:row:2 ticks 17",
		"global g", "value 1",
		`start f 99 0 ""`, "ok", "step 0", "state", "step 9223372036854775807", "value @1:row:0 ticks 5", "step 9223372036854775808", "!110", "step 1", "value @1:row:0 ticks 5")
}

// A run that step goes through ends as run ends it; a run that is at its end already is told by step, too.
func TestStepAndRun(t *testing.T) {
	source := "|fn f(n) { out n; if n > 3 { return n // (n - 5); } return n; }"
	for _, n := range []string{"1", "3", "4", "5", "6", "nil", `"a"`} {
		for _, fuel := range []string{"0", "1", "2", "3", "9"} {
			for _, kind := range kinds {
				first := script(source, kind+" 9", "run f "+fuel+" "+n, "clear")
				want := strings.TrimSuffix(strings.TrimPrefix(run(first), "ok\n"), "ok\n")
				wantTold(t, script(source, kind+" 9", "start f "+fuel+" "+n, "step 99"), "ok\nok\n"+want)
				wantTold(t, script(source, kind+" 9", "run f "+fuel+" "+n, "step 5"), "ok\n"+want+want)
			}
		}
	}
}

// All Kinds of variables, in a state.
func TestStates(t *testing.T) {
	both(t, "|fn f() { let a = nil; let b = true; let c = -7; let d = -0x1p-1; let e = \"a\\n b\"; let g = f64(0); let h = f32(1); let i = i16(2); let j = u8(3); let k = row(4); let l = view(j, \"u8\", 1, 2); let m = nan; let n = 9223372036854775807; out n; }", "", "new 99", "ok",
		"start f 99", "ok", "step 1", "state 1 1 3 0", "step 2", "state 3 1 26 0 nil",
		"step 11", `state 14 1 207 0 nil true -7 -0x1p-1 "a\n b" f64:0 f32:1 i16:2 u8:3 row:4 u8:2 nan`,
		"step 1", `state 15 1 232 0 nil true -7 -0x1p-1 "a\n b" f64:0 f32:1 i16:2 u8:3 row:4 u8:2 nan 9223372036854775807`,
		"step 1", "> \"9223372036854775807\"\nvalue nil ticks 15")
}

// A state gives no numbers to things.
func TestStatesGiveNoNumbers(t *testing.T) {
	both(t, "|fn f(n) { let a = row(n); let b = row(n); return b; }", "", "new 99", "ok", "start f 9 1", "ok", "step 4", "state 4 1 42 0 1 row:1 row:1", "step 0", "state 4 1 42 0 1 row:1 row:1", "step 1", "value @0:row:1 ticks 4", "release 1", "!101")
}
