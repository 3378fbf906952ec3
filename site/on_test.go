package site_test

import (
	"math"
	"slices"
	"testing"

	"casket/api"
	"casket/site"
)

// 14.2: a new site has its At, whatever that is, and nothing else.
func TestNew(t *testing.T) {
	for _, at := range []int{0, 1, 9, api.MaxSource, -1, -9, math.MaxInt, math.MinInt} {
		s := site.New(at)
		wantTell(t, s, api.Site{At: at})
		if r := rowOf(t, s); r != (row{}) {
			t.Errorf("New(%d) has the row %v", at, r)
		}
		feed(s, w, w, w, w, d, g)
		wantTell(t, s, api.Site{At: at, Generic: 5, Fast: 1, Fails: 1})
		wantOK(t, s, d)
		wantTell(t, s, api.Site{At: at, Form: d, Generic: 5, Fast: 1, Fails: 1})
	}
}

// 14.3: in the generic form, with each row and each pair.
func TestOnInGeneric(t *testing.T) {
	for _, x := range []struct {
		ahead []int
		pair  int
		form  int
		row   row // none behind a form that is not generic
	}{
		{nil, g, g, row{}},
		{nil, w, g, row{w, 1}},
		{nil, d, g, row{d, 1}},
		{[]int{w}, g, g, row{}},
		{[]int{w}, w, g, row{w, 2}},
		{[]int{w}, d, g, row{d, 1}},
		{[]int{w, w}, g, g, row{}},
		{[]int{w, w}, w, w, row{}},
		{[]int{w, w}, d, g, row{d, 1}},
		{[]int{d}, g, g, row{}},
		{[]int{d}, w, g, row{w, 1}},
		{[]int{d}, d, g, row{d, 2}},
		{[]int{d, d}, g, g, row{}},
		{[]int{d, d}, w, g, row{w, 1}},
		{[]int{d, d}, d, d, row{}},
	} {
		for _, pair := range alike(x.pair) {
			s := with(7, x.ahead...)
			if got := s.On(pair); got != g {
				t.Errorf("%v, then %d: %d", x.ahead, pair, got)
			}
			wantTell(t, s, api.Site{At: 7, Form: x.form, Generic: int64(len(x.ahead) + 1)})
			if x.form != g {
				continue
			}
			if r := rowOf(t, s); r != x.row {
				t.Errorf("%v, then %d: the row %v, want %v", x.ahead, pair, r, x.row)
			}
		}
	}
}

// alike are the pairs that count as this one.
func alike(pair int) []int {
	if pair == g {
		return append([]int{g}, none...)
	}
	return []int{pair}
}

// 14.3: in another form, whether it was come to or forced, and each pair.
func TestOnInFast(t *testing.T) {
	for _, form := range []int{w, d} {
		come := with(3, times(api.WarmUp, form)...)
		forced := with(3, other(form), other(form), form)
		wantOK(t, forced, form)
		over := with(3, times(api.WarmUp, other(form))...)
		wantOK(t, over, form)
		for _, s := range []*site.Site{come, forced, over} {
			onInFast(t, *s, form)
		}
	}
}

func onInFast(t *testing.T, start site.Site, form int) {
	t.Helper()
	s := start
	if got := s.On(form); got != form {
		t.Errorf("On(%d) in that form: %d", form, got)
	}
	wantTell(t, &s, api.Site{At: 3, Form: form, Generic: api.WarmUp, Fast: 1})
	for _, fail := range append([]int{other(form)}, alike(g)...) {
		s := start
		if got := s.On(fail); got != g {
			t.Errorf("On(%d) in the form %d: %d", fail, form, got)
		}
		wantTell(t, &s, api.Site{At: 3, Generic: api.WarmUp + 1, Fails: 1})
		want := row{}
		if fail == other(form) {
			want = row{fail, 1}
		}
		if r := rowOf(t, &s); r != want {
			t.Errorf("On(%d) in the form %d: the row %v, want %v", fail, form, r, want)
		}
	}
}

// 14.3: a form stays, however often it is met, and its answer is the form each time.
func TestFastStays(t *testing.T) {
	for _, form := range []int{w, d} {
		s := with(0, times(api.WarmUp, form)...)
		if got := feed(s, times(1000, form)...); !slices.Equal(got, times(1000, form)) {
			t.Errorf("a long row of %d is not done in its form", form)
		}
		wantTell(t, s, api.Site{Form: form, Generic: api.WarmUp, Fast: 1000})
	}
}

// 14.3: whatever cuts a row off, it needs all of WarmUp again, or what the cut itself began.
func TestRowCutOff(t *testing.T) {
	for _, kind := range []int{w, d} {
		for ahead := 1; ahead < api.WarmUp; ahead++ {
			for _, cut := range alike(g) {
				cutOff(t, kind, ahead, row{}, func(s *site.Site) { s.On(cut) })
			}
			cutOff(t, kind, ahead, row{other(kind), 1}, func(s *site.Site) { s.On(other(kind)) })
			cutOff(t, kind, ahead, row{kind, 1}, func(s *site.Site) { feed(s, other(kind), kind) })
			cutOff(t, kind, ahead, row{}, func(s *site.Site) { s.Force(g) })
			for _, form := range []int{w, d} {
				cutOff(t, kind, ahead, row{}, func(s *site.Site) { s.Force(form); s.Force(g) })
				cutOff(t, kind, ahead, row{}, func(s *site.Site) { s.Force(form); feed(s, form, form, g) })
				cutOff(t, kind, ahead, row{other(form), 1}, func(s *site.Site) { s.Force(form); s.On(other(form)) })
			}
		}
	}
}

func cutOff(t *testing.T, kind, ahead int, want row, cut func(*site.Site)) {
	t.Helper()
	s := with(0, times(ahead, kind)...)
	cut(s)
	if r := rowOf(t, s); r != want {
		t.Errorf("a row of %d, %d long, cut off: %v, want %v", kind, ahead, r, want)
	}
}
