package image_test

import (
	"slices"
	"testing"

	"casket/api"
	"casket/vm"
)

// Promises 20.2, 20.5 and 20.6: sites.

const adder = "fn f(a, b) { return a + b; }"

// adderSaved are the bytes of a machine of adder.
func adderSaved(s []byte) []byte { return parts{src: adder, units: 9, sites: [][]byte{s}}.bytes() }

// Runs of whole numbers (w), doubles (d) and neither (g), one behind the other; forms that are forced by digits.
func exercised(t testing.TB, m *vm.Machine, what string) {
	t.Helper()
	args := map[rune][]api.Raw{'w': {whole(1), whole(2)}, 'd': {double(one), double(half)}, 'g': {whole(1), double(one)}}
	for _, c := range what {
		if c >= '0' && c <= '2' {
			if e := m.Force(0, int(c-'0')); e != api.OK {
				t.Fatal(e)
			}
			continue
		}
		if _, e := m.Run("f", args[c], 9); e != api.OK {
			t.Fatal(e)
		}
	}
}

func TestSaveOfSites(t *testing.T) {
	for _, x := range []struct {
		what string
		want []byte
	}{
		{"", []byte{0, 0, 0, 0, 0, 0}},
		{"w", []byte{0, 1, 0, 0, 1, 1}},
		{"ww", []byte{0, 2, 0, 0, 1, 2}},
		{"www", []byte{1, 3, 0, 0, 0, 0}},
		{"wwwww", []byte{1, 3, 2, 0, 0, 0}},
		{"d", []byte{0, 1, 0, 0, 2, 1}},
		{"dd", []byte{0, 2, 0, 0, 2, 2}},
		{"dddd", []byte{2, 3, 1, 0, 0, 0}},
		{"wwd", []byte{0, 3, 0, 0, 2, 1}},
		{"g", []byte{0, 1, 0, 0, 0, 0}},
		{"wwg", []byte{0, 3, 0, 0, 0, 0}},
		{"wwwd", []byte{0, 4, 0, 1, 2, 1}},
		{"wwwg", []byte{0, 4, 0, 1, 0, 0}},
		{"wwwddd", []byte{2, 6, 0, 1, 0, 0}},
		{"1", []byte{1, 0, 0, 0, 0, 0}},
		{"2", []byte{2, 0, 0, 0, 0, 0}},
		{"ww0", []byte{0, 2, 0, 0, 0, 0}},
		{"ww2", []byte{2, 2, 0, 0, 0, 0}},
		{"ww2w", []byte{0, 3, 0, 1, 1, 1}},
		{"1d1d1d1d", []byte{0, 4, 0, 4, 2, 1}},
		{"1d1d1d1dddd", []byte{0, 7, 0, 4, 2, 3}}, // it stays generic
		{"1d1d1d1dddd1w", []byte{1, 7, 1, 4, 0, 0}},
	} {
		m := open(t, adder, 9)
		exercised(t, m, x.what)
		wantSave(t, m, adderSaved(x.want))
	}
	m := open(t, adder, 9)
	for range 3 + 128 {
		exercised(t, m, "w")
	}
	exercised(t, m, "g")
	wantSave(t, m, adderSaved([]byte{0, 4, 128, 1, 1, 0, 0}))
}

// Sites come by their places in the source.
func TestOrderOfSites(t *testing.T) {
	src := "fn f(a, b) { return a * 2 + b; } let g; fn h(x) { return x < 1 or x & 3 == x >> 1; }"
	m := open(t, src, 9)
	m.Run("f", []api.Raw{whole(1), double(one)}, 9)
	m.Run("h", []api.Raw{whole(5)}, 9)
	m.Force(2, api.Double)
	want := parts{src: src, units: 9, globals: [][]byte{nilWord()}, sites: [][]byte{site(0, 1, 0, 0, 1, 1), site(0, 1, 0, 0, 0, 0), site(2, 1, 0, 0, 0, 0), site(0, 1, 0, 0, 1, 1)}}
	wantSave(t, m, want.bytes())
}

// A loaded site goes on as the saved one does, whatever comes, and its code has its form.
func TestSitesGoOn(t *testing.T) {
	for _, first := range []string{"", "w", "ww", "www", "wwwwd", "dd", "ddd", "dddg", "1", "2", "1d1d1d1dd", "1d1d1d1dddd", "1d1d1d", "1d1d1d1"} {
		for _, then := range []string{"w", "ww", "www", "wwww", "d", "dd", "ddd", "g", "wd", "wwd", "0ww", "1w", "2w", "gwww"} {
			m := open(t, adder, 9)
			exercised(t, m, first)
			j := load(t, save(t, m))
			wantForms(t, j)
			for i := range then {
				exercised(t, m, then[i:i+1])
				exercised(t, j, then[i:i+1])
				if !slices.Equal(m.Sites(), j.Sites()) {
					t.Fatalf("%s and %s: %v; want %v", first, then[:i+1], j.Sites(), m.Sites())
				}
				wantForms(t, j)
				wantSave(t, j, save(t, m))
			}
		}
	}
}

// wantForms looks whether the instruction of each site has the site's form.
func wantForms(t testing.TB, m *vm.Machine) {
	t.Helper()
	sites := m.Sites()
	code, e := m.Code("f")
	if e != api.OK {
		t.Fatal(e)
	}
	n := 0
	for _, in := range code {
		if in.Site >= 0 {
			n++
			if in.Form != sites[in.Site].Form {
				t.Errorf("an instruction in form %d of a site in form %d", in.Form, sites[in.Site].Form)
			}
		}
	}
	if n != len(sites) {
		t.Errorf("%d instructions with a site", n)
	}
}

// Each field at its bound is taken, one more is refused where it stands.
func TestSiteBounds(t *testing.T) {
	head := parts{src: adder, units: 9}.upToSites()
	at := len(head)
	saved := func(s ...[]byte) []byte { return slices.Concat(head, slices.Concat(s...)) }
	for _, x := range [][]byte{
		site(2, 1<<62, 1<<62, 1<<31-1, 2, 3), site(1, 1<<62-1, 0, 1<<31-2, 1, 1), site(1, 0, 1<<62-1, 0, 2, 2), site(0, 0, 0, 0, 1, 3), site(2, 5, 0, 9, 1, 3),
	} {
		m := wantTaken(t, saved(x))
		wantForms(t, m)
	}
	for form := range 256 {
		b := byte(form)
		if form <= 2 {
			wantTaken(t, saved(site(b, 1, 2, 3, 0, 0)))
			continue
		}
		wantWrong(t, saved(site(b, 1, 2, 3, 0, 0)), api.ErrForm, at)
		wantWrong(t, saved([]byte{b}), api.ErrForm, at)
		wantWrong(t, saved(site(0, 1, 2, 3, b, 1)), api.ErrForm, at+4)
		wantWrong(t, saved(site(0, 200, 2, 3, b, 0)), api.ErrForm, at+5)
	}
	for _, x := range []struct {
		site []byte
		at   int
	}{
		{site(0, 1<<62+1, 0, 0, 0, 0), 1}, {site(0, 1<<63-1, 1<<63-1, 0, 0, 0), 1}, {site(0, 1<<63, 0, 0, 0, 0), 1},
		{site(0, 0, 1<<62+1, 0, 0, 0), 2}, {site(0, 1<<62, 1<<62+1, 0, 0, 0), 10}, {site(0, 128, 1<<63-1, 0, 0, 0), 3},
		{site(0, 0, 0, 1<<31, 0, 0), 3}, {site(0, 0, 0, 1<<32, 0, 0), 3}, {site(0, 0, 0, 1<<32|4, 0, 0), 3}, {site(0, 0, 0, 1<<63-1, 9, 9), 3},
		{site(0, 0, 0, 0, 0, 1), 5}, {site(0, 0, 0, 0, 0, 3), 5}, {site(0, 0, 0, 0, 1, 0), 5}, {site(0, 0, 0, 0, 2, 0), 5}, {site(0, 0, 0, 0, 1, 4), 5}, {site(0, 0, 0, 0, 2, 4), 5},
		{site(0, 0, 0, 0, 2, 1<<32+1), 5}, {site(0, 0, 0, 0, 0, 1<<63-1), 5}, {site(0, 0, 0, 0, 1, 1<<63), 5}, {site(0, 0, 0, 1<<31-1, 1, 4), 9},
	} {
		wantWrong(t, saved(x.site), api.ErrForm, at+x.at)
		wantWrong(t, saved(x.site, []byte{1, 2, 3}), api.ErrForm, at+x.at)
	}
	wantWrong(t, head, api.ErrCut, at)
	for n, place := range []int{0, 1, 2, 2, 4, 5, 6} {
		wantWrong(t, saved(site(1, 9, 300, 4, 0, 0)[:n]), api.ErrCut, at+place)
	}
	wantWrong(t, saved(site(1, 9, 300, 4, 0, 0), []byte{0}), api.ErrTail, at+7)
}
