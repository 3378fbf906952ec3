package quote_test

import (
	"fmt"
	"math/rand"
	"strings"
	"testing"

	"casket/quote"
)

func wantRead(t *testing.T, text, s string, size int, ok bool) {
	t.Helper()
	if got, n, is := quote.Read(text); got != s || n != size || is != ok {
		t.Errorf("Read(%q) is %q, %d, %v; want %q, %d, %v", text, got, n, is, s, size, ok)
	}
}

// A string goes from `"` to `"`; what stands behind it is another thing.
func TestRead(t *testing.T) {
	for text, s := range map[string]string{
		`""`:           "",
		`"a"`:          "a",
		`"a b"`:        "a b",
		`" "`:          " ",
		`"\\"`:         `\`,
		`"\""`:         `"`,
		`"\n"`:         "\n",
		`"\x41\x00"`:   "A\x00",
		`"\xff\x0a"`:   "\xff\n",
		`"\\n"`:        `\n`,
		`"\\\""`:       `\"`,
		`"~!#[]"`:      "~!#[]",
		`"\x5cx41\"b"`: `\x41"b`,
	} {
		for _, behind := range []string{"", " ", `"`, "x", "\n", `\`, "\xff"} {
			wantRead(t, text+behind, s, len(text), true)
		}
	}
	long := strings.Repeat("long ", 1<<16)
	wantRead(t, `"`+long+`"`, long, len(long)+2, true)
}

func TestNoString(t *testing.T) {
	for _, text := range []string{
		"", "a", " ", ` "a"`, `a"b"`, `\"`, `'a'`,
		`"`, `"a`, `"a b`, `"\"`, `"\\\"`, `"\`, `"a\`,
		`"\q"`, `"\t"`, `"\N"`, `"\'"`, `"\0"`,
		`"\x"`, `"\x4"`, `"\x4g"`, `"\xg4"`, `"\xAB"`, `"\xaB"`, `"\X41"`, `"\x`, `"\x4`, `"\x41`,
		"\"\n\"", "\"\t\"", "\"\x00\"", "\"\x1f\"", "\"\x7f\"", "\"\x80\"", "\"é\"", "\"a\n\"",
	} {
		wantRead(t, text, "", 0, false)
	}
}

// Each byte has one way in which it is written, and is read back.
func TestWrite(t *testing.T) {
	for b := range 256 {
		want := fmt.Sprintf(`\x%02x`, b)
		switch {
		case b == '"' || b == '\\':
			want = `\` + string(rune(b))
		case b == '\n':
			want = `\n`
		case b >= 32 && b <= 126:
			want = string(rune(b))
		}
		s := string([]byte{byte(b)})
		for text, wants := range map[string]string{s: `"` + want + `"`, s + s: `"` + want + want + `"`, "a" + s + "1": `"a` + want + `1"`} {
			if got := quote.Write(text); got != wants {
				t.Errorf("Write(%q) is %s; want %s", text, got, wants)
			}
			wantRead(t, wants, text, len(wants), true)
		}
	}
	if got := quote.Write(""); got != `""` {
		t.Error(got)
	}
}

// What is written is read as what it was; what is read is written as one spelling, whichever it had.
func TestReadAndWrite(t *testing.T) {
	d := rand.New(rand.NewSource(1))
	for range 5000 {
		bytes := make([]byte, d.Intn(40))
		d.Read(bytes)
		s := string(bytes)
		text := quote.Write(s)
		wantRead(t, text, s, len(text), true)
		spelling := `"`
		for _, b := range bytes {
			if d.Intn(2) == 0 {
				spelling += fmt.Sprintf(`\x%02x`, b)
				continue
			}
			one := quote.Write(string([]byte{b}))
			spelling += one[1 : len(one)-1]
		}
		wantRead(t, spelling+`"`, s, len(spelling)+1, true)
		wantRead(t, spelling, "", 0, false)
	}
}

// Any bytes: there is an answer, and what is read is no longer than the text.
func TestAnyBytes(t *testing.T) {
	d := rand.New(rand.NewSource(2))
	alphabet := "\"\"\\\\nxa0f \n\xff"
	for range 20000 {
		text := `"`
		for range d.Intn(8) {
			i := d.Intn(len(alphabet))
			text += alphabet[i : i+1]
		}
		s, size, ok := quote.Read(text)
		if ok != (size > 0) || size > len(text) || len(s) > len(text) || !ok && s != "" {
			t.Errorf("Read(%q) is %q, %d, %v", text, s, size, ok)
		}
		if ok && (text[size-1] != '"' || size < 2) {
			t.Errorf("Read(%q) ends at %d", text, size)
		}
	}
}
