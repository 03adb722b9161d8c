package table_test

import (
	"math"
	"math/rand"
	"reflect"
	"slices"
	"strings"
	"testing"
	"time"

	"gnomon/api"
	"gnomon/off"
	"gnomon/rules"
	"gnomon/table"
)

func march() api.Rule {
	return api.Rule{From: 1980, To: api.LastYear, Month: 3, On: api.On{Kind: api.Last}, At: 7200, Save: 3600, Letter: "D"}
}

func october() api.Rule {
	return api.Rule{From: 1980, To: api.LastYear, Month: 10, On: api.On{Kind: api.Last}, At: 7200, Letter: "S"}
}

// exact begins at midnight of one day in one year.
func exact(y, m, d, save int, letter string) api.Rule {
	return api.Rule{From: y, To: y, Month: m, On: api.On{Kind: api.Exact, Day: d}, Save: save, Letter: letter}
}

// town is data of one zone of these eras, with one set of these rules.
func town(rules []api.Rule, eras ...api.Era) api.Data {
	return api.Data{
		Sets:  []api.Set{{Name: "s", Rules: rules}},
		Zones: []api.Zone{{Name: "Town", Eras: eras}},
		Links: []api.Link{{Name: "T", To: "Link"}, {Name: "Link", To: "Town"}},
	}
}

func europe() api.Data {
	return town([]api.Rule{march(), october()},
		api.Era{Std: 1800, Set: -1, Format: "LMT", Until: 500000000},
		api.Era{Std: 3600, Set: 0, Format: "CE%sT", Until: api.EndTime})
}

// midnight tells the second at which a day begins.
func midnight(y, m, d int) int {
	return int(time.Date(y, time.Month(m), d, 0, 0, 0, 0, time.UTC).Unix())
}

func turn(at, total, save int, abbr string) api.Turn {
	return api.Turn{At: at, Off: api.Off{Total: total, Save: save, Abbr: abbr}}
}

// compile Town, and the links to it.
func compile(t *testing.T, what string, d api.Data, want []api.Turn) {
	t.Helper()
	for _, name := range []string{"Town", "Link", "T"} {
		if l, e := table.Compile(d, name); !slices.Equal(l, want) || e != api.OK {
			t.Errorf("%s: Compile(%s) =\n%v, %d, want\n%v, 0", what, name, l, e, want)
		}
	}
}

func TestCompileExample(t *testing.T) { // F1: 88 turns, and two ahead
	l, e := table.Compile(europe(), "T")
	if len(l) != 90 || e != api.OK {
		t.Fatalf("%d turns, %d, want 90, 0", len(l), e)
	}
	want := []api.Turn{turn(0, 1800, 0, "LMT"), turn(500000000, 3600, 0, "CEST"), turn(512528400, 7200, 3600, "CEDT"), turn(530672400, 3600, 0, "CEST")}
	if !slices.Equal(l[:4], want) {
		t.Errorf("the first ones are %v, want %v", l[:4], want)
	}
	for i, x := range l[2:] {
		when := march()
		if i%2 == 1 {
			when = october()
		}
		if at, _ := rules.At(when, 1986+i/2, 3600); x.At != at {
			t.Errorf("turn %d is at %d, want %d", i+2, x.At, at)
		}
	}
}

func TestCompileEras(t *testing.T) { // F1: eras turn, but not if nothing else holds
	for _, x := range []struct {
		what string
		l    []api.Era
		want []api.Turn
	}{
		{"one era", []api.Era{{Std: 60, Set: -1, Save: 7, Format: "A", Until: api.EndTime}}, []api.Turn{turn(0, 67, 7, "A")}},
		{"all else", []api.Era{{Std: 60, Set: -1, Format: "A", Until: 5}, {Std: 120, Set: -1, Format: "B", Until: api.EndTime}},
			[]api.Turn{turn(0, 60, 0, "A"), turn(5, 120, 0, "B")}},
		{"called else", []api.Era{{Set: -1, Format: "A", Until: 5}, {Set: -1, Format: "B", Until: api.EndTime}},
			[]api.Turn{turn(0, 0, 0, "A"), turn(5, 0, 0, "B")}},
		{"saved else", []api.Era{{Std: 60, Set: -1, Format: "A", Until: 5}, {Set: -1, Save: 60, Format: "A", Until: api.EndTime}},
			[]api.Turn{turn(0, 60, 0, "A"), turn(5, 60, 60, "A")}},
		{"ahead by else", []api.Era{{Set: -1, Format: "A", Until: 5}, {Std: 1, Set: -1, Format: "A", Until: api.EndTime}},
			[]api.Turn{turn(0, 0, 0, "A"), turn(5, 1, 0, "A")}},
		{"nothing else", []api.Era{{Std: 60, Set: -1, Format: "A", Until: 5}, {Std: 60, Set: -1, Format: "%sA", Until: api.EndTime}},
			[]api.Turn{turn(0, 60, 0, "A")}},
		{"nothing else, then else, then as at first", []api.Era{
			{Set: -1, Format: "A", Until: 1}, {Set: -1, Format: "A%s", Until: 2}, {Set: -1, Format: "B", Until: api.EndTime - 1}, {Set: -1, Format: "A", Until: api.EndTime},
		}, []api.Turn{turn(0, 0, 0, "A"), turn(2, 0, 0, "B"), turn(api.EndTime-1, 0, 0, "A")}},
	} {
		compile(t, x.what, town([]api.Rule{march()}, x.l...), x.want)
	}
}

func TestCompileRules(t *testing.T) { // F1: rules turn within their era, but not if nothing else holds
	one := api.Era{Set: 0, Format: "%s", Until: api.EndTime}
	a, b := midnight(2000, 1, 1), midnight(2000, 1, 2)
	for _, x := range []struct {
		what  string
		rules []api.Rule
		want  []api.Turn
	}{
		{"two", []api.Rule{exact(2000, 1, 2, 60, "D"), exact(2000, 1, 1, 0, "S")},
			[]api.Turn{turn(0, 0, 0, "S"), turn(b, 60, 60, "D")}},
		{"not in their order", []api.Rule{exact(2000, 1, 2, 60, "D"), exact(2000, 1, 1, 30, "E")},
			[]api.Turn{turn(0, 0, 0, ""), turn(a, 30, 30, "E"), turn(b, 60, 60, "D")}},
		{"at one time", []api.Rule{exact(2000, 1, 1, 60, "D"), exact(2000, 1, 1, 30, "E")},
			[]api.Turn{turn(0, 0, 0, ""), turn(a, 30, 30, "E")}},
		{"nothing else begins", []api.Rule{exact(2000, 1, 1, 60, "D"), exact(2000, 1, 2, 60, "D")},
			[]api.Turn{turn(0, 0, 0, ""), turn(a, 60, 60, "D")}},
		{"its letter alone", []api.Rule{exact(2000, 1, 1, 60, "D"), exact(2000, 1, 2, 60, "E")},
			[]api.Turn{turn(0, 0, 0, ""), turn(a, 60, 60, "D"), turn(b, 60, 60, "E")}},
		{"at 0", []api.Rule{exact(1970, 1, 1, 60, "D")}, []api.Turn{turn(0, 60, 60, "D")}},
	} {
		compile(t, x.what, town(x.rules, one), x.want)
	}
	late := api.Rule{From: 2029, To: 2029, Month: 12, On: api.On{Kind: api.Exact, Day: 31}, At: api.DaySecs, Save: 60}
	last := api.Era{Set: 0, Format: "X", Until: api.EndTime}
	compile(t, "at EndTime", town([]api.Rule{late}, last), []api.Turn{turn(0, 0, 0, "X")})
	late.At--
	compile(t, "a second ahead of EndTime", town([]api.Rule{late}, last), []api.Turn{turn(0, 0, 0, "X"), turn(api.EndTime-1, 60, 60, "X")})
	east := api.Era{Std: 5, Set: 0, Format: "%s", Until: api.EndTime}
	compile(t, "ahead of 0", town([]api.Rule{exact(1970, 1, 1, 60, "D")}, east), []api.Turn{turn(0, 65, 60, "D")})
}

func TestCompileBetweenEras(t *testing.T) { // F1: eras that end where a rule begins, or about it
	at := midnight(2000, 1, 1)
	l := []api.Rule{exact(2000, 1, 1, 60, "D")}
	for _, x := range []struct {
		what  string
		until int
		want  []api.Turn
	}{
		{"then", at, []api.Turn{turn(0, 0, 0, "X"), turn(at, 60, 60, "D")}},
		{"a second behind", at + 1, []api.Turn{turn(0, 0, 0, "X"), turn(at+1, 60, 60, "D")}},
		{"a second ahead", at - 1, []api.Turn{turn(0, 0, 0, "X"), turn(at-1, 0, 0, ""), turn(at, 60, 60, "D")}},
	} {
		compile(t, x.what, town(l, api.Era{Set: -1, Format: "X", Until: x.until}, api.Era{Set: 0, Format: "%s", Until: api.EndTime}), x.want)
	}
	for _, x := range []struct {
		what  string
		until int
		want  []api.Turn
	}{
		{"the ruled one ends then", at, []api.Turn{{}, turn(at, 0, 0, "X")}},
		{"the ruled one ends a second behind", at + 1, []api.Turn{{}, turn(at, 60, 60, "D"), turn(at+1, 0, 0, "X")}},
	} {
		compile(t, x.what, town(l, api.Era{Set: 0, Format: "%s", Until: x.until}, api.Era{Set: -1, Format: "X", Until: api.EndTime}), x.want)
	}
	// The rule begins in both eras, by the Std of each.
	compile(t, "twice", town(l, api.Era{Std: 10, Set: 0, Format: "%s", Until: at - 5}, api.Era{Set: 0, Format: "%s", Until: api.EndTime}),
		[]api.Turn{turn(0, 10, 0, ""), turn(at-10, 70, 60, "D"), turn(at-5, 0, 0, ""), turn(at, 60, 60, "D")})
}

func TestCompileErrors(t *testing.T) { // F1, P1
	wrong := europe()
	wrong.Zones[0].Eras[0].Format = ""
	round := europe()
	round.Links[1].To = "T"
	for i, x := range []struct {
		d    api.Data
		name string
		want api.Errno
	}{
		{wrong, "Town", api.ErrForm}, {wrong, "X", api.ErrForm}, {round, "Town", api.ErrRound},
		{europe(), "X", api.ErrNone}, {europe(), "", api.ErrNone}, {europe(), "s", api.ErrNone}, {api.Data{}, "Town", api.ErrNone},
	} {
		if l, e := table.Compile(x.d, x.name); len(l) != 0 || e != x.want {
			t.Errorf("%d: Compile(%q) = %v, %d, want nothing, %d", i, x.name, l, e, x.want)
		}
	}
}

func TestLook(t *testing.T) { // F1
	a, b, c := api.Off{Total: 1, Save: 0, Abbr: "A"}, api.Off{Total: 2, Save: 1, Abbr: "B"}, api.Off{Total: -3, Save: 2, Abbr: ""}
	l := []api.Turn{{At: 0, Off: a}, {At: 5, Off: b}, {At: 6, Off: b}, {At: api.EndTime - 1, Off: c}}
	for at, want := range map[int]api.Off{0: a, 4: a, 5: b, 6: b, 7: b, api.EndTime - 2: b, api.EndTime - 1: c} {
		if o, e := table.Look(l, at); o != want || e != api.OK {
			t.Errorf("Look at %d = %v, %d, want %v, 0", at, o, e, want)
		}
	}
	for _, at := range []int{0, 7, api.EndTime - 1} {
		if o, e := table.Look(l[:1], at); o != a || e != api.OK {
			t.Errorf("Look at %d of one = %v, %d, want %v, 0", at, o, e, a)
		}
	}
}

func TestLookErrors(t *testing.T) { // F1, P1: lists of turns that are none, ahead of times that are none
	o := api.Off{Total: 1, Save: 0, Abbr: "A"}
	for i, l := range [][]api.Turn{
		nil, {}, {{At: 1, Off: o}}, {{At: -1, Off: o}}, {{At: -1, Off: o}, {At: 0, Off: o}}, {{At: 0, Off: o}, {At: 0, Off: o}}, {{At: 0, Off: o}, {At: 5, Off: o}, {At: 5, Off: o}}, {{At: 0, Off: o}, {At: 5, Off: o}, {At: 4, Off: o}},
		{{At: 0, Off: o}, {At: -1, Off: o}}, {{At: 0, Off: o}, {At: api.EndTime, Off: o}}, {{At: 0, Off: o}, {At: api.EndTime + 1, Off: o}}, {{At: 0, Off: o}, {At: math.MaxInt, Off: o}},
		{{At: 0, Off: o}, {At: api.EndTime, Off: o}, {At: 7, Off: o}}, {{At: 0, Off: o}, {At: math.MinInt, Off: o}}, {{At: api.EndTime, Off: o}}, {{At: 0, Off: o}, {At: 7, Off: o}, {At: 6, Off: o}, {At: 9, Off: o}},
	} {
		for _, at := range []int{0, 5, -1, api.EndTime} {
			if o, e := table.Look(l, at); o != (api.Off{}) || e != api.ErrForm {
				t.Errorf("%d: Look at %d = %v, %d, want nothing, %d", i, at, o, e, api.ErrForm)
			}
		}
	}
	for _, at := range []int{-1, api.EndTime, math.MinInt, math.MaxInt} {
		if o, e := table.Look([]api.Turn{{At: 0, Off: o}}, at); o != (api.Off{}) || e != api.ErrRange {
			t.Errorf("Look at %d = %v, %d, want nothing, %d", at, o, e, api.ErrRange)
		}
	}
}

// drawn is data that are right: one zone, some eras, some sets.
func drawn(r *rand.Rand) api.Data {
	d := api.Data{Zones: []api.Zone{{Name: "Town"}}}
	for i := range 1 + r.Intn(api.MaxSets) {
		s := api.Set{Name: "s" + string(rune('0'+i))}
		for range 1 + r.Intn(api.MaxRules) {
			from := api.FirstYear + r.Intn(60)
			s.Rules = append(s.Rules, api.Rule{
				From: from, To: from + r.Intn(api.LastYear-from+1), Month: 1 + r.Intn(12),
				On: api.On{Kind: api.After, Week: r.Intn(7), Day: 1 + r.Intn(22)},
				At: r.Intn(api.DaySecs + 1), Save: r.Intn(3) * 1800, Letter: strings.Repeat("X", r.Intn(2)),
			})
		}
		d.Sets = append(d.Sets, s)
	}
	last := 1 + r.Intn(api.MaxEras)
	for i := range last {
		era := api.Era{Std: (r.Intn(3) - 1) * api.MaxStd, Set: r.Intn(len(d.Sets)+1) - 1, Format: []string{"A", "A%s"}[r.Intn(2)]}
		era.Until = api.EndTime
		if i < last-1 {
			era.Until = api.EndTime/last*i + 1 + r.Intn(api.EndTime/last)
		}
		d.Zones[0].Eras = append(d.Zones[0].Eras, era)
	}
	return d
}

// suspects are all times about which something else may hold: where eras end, and where any rule begins by any Std.
func suspects(d api.Data) []int {
	l := []int{0, api.EndTime - 1}
	for _, era := range d.Zones[0].Eras {
		l = append(l, era.Until-1, era.Until)
		for _, s := range d.Sets {
			for _, r := range s.Rules {
				at, _ := rules.At(r, r.From, era.Std)
				l = append(l, at-1, at, at+1)
				at, _ = rules.At(r, r.To, era.Std)
				l = append(l, at-1, at, at+1)
			}
		}
	}
	return slices.DeleteFunc(l, func(t int) bool { return t < 0 || t >= api.EndTime })
}

func TestLookOfCompile(t *testing.T) { // F2, and F1: no turn but where something else holds
	r := rand.New(rand.NewSource(6))
	for range 60 {
		d := drawn(r)
		l, e := table.Compile(d, "Town")
		if e != api.OK || l[0].At != 0 {
			t.Fatalf("%v: %v, %d", d, l, e)
		}
		times := suspects(d)
		for i, x := range l {
			times = append(times, x.At, max(0, x.At-1))
			if i > 0 && (x.At <= l[i-1].At || x.Off == l[i-1].Off) {
				t.Errorf("%v stands behind %v", x, l[i-1])
			}
		}
		for range 20 {
			times = append(times, r.Intn(api.EndTime))
		}
		for _, at := range times {
			a, e := off.At(d, "Town", at)
			b, f := table.Look(l, at)
			if a != b || e != api.OK || f != api.OK {
				t.Errorf("%v: at %d holds %v, %d, Look tells %v, %d", d, at, a, e, b, f)
			}
		}
	}
}

func TestOnlyRead(t *testing.T) { // P2, P3
	d := europe()
	d.Sets[0].Rules = append(d.Sets[0].Rules, api.Rule{Letter: "spare"})[:2]
	d.Zones[0].Eras = append(d.Zones[0].Eras, api.Era{Format: "spare"})[:2]
	first, _ := table.Compile(d, "T")
	kept := slices.Clone(first)
	clear(first[:cap(first)])
	second, _ := table.Compile(d, "T")
	if !slices.Equal(second, kept) {
		t.Errorf("what was answered changes what is answered")
	}
	if !reflect.DeepEqual(d, europe()) || d.Sets[0].Rules[:3][2].Letter != "spare" || d.Zones[0].Eras[:3][2].Format != "spare" {
		t.Errorf("the data are changed: %v", d)
	}
	clear(d.Sets[0].Rules)
	clear(d.Zones[0].Eras)
	if !slices.Equal(second, kept) {
		t.Errorf("a change of the data is seen in the turns")
	}
	l := append(slices.Clone(kept), api.Turn{At: 7})[:len(kept)]
	table.Look(l, 1600000000)
	if !slices.Equal(l, kept) || l[:len(l)+1][len(l)].At != 7 {
		t.Errorf("Look changes the turns")
	}
}
