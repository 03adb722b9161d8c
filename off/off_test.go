package off_test

import (
	"math"
	"math/rand"
	"reflect"
	"slices"
	"strings"
	"testing"
	"time"

	"gnomon/api"
	"gnomon/data"
	"gnomon/off"
)

const springOf2020 = 1585443600 // when march begins in 2020, if Std is an hour

func march() api.Rule {
	return api.Rule{From: 1980, To: api.LastYear, Month: 3, On: api.On{Kind: api.Last}, At: 7200, Save: 3600, Letter: "D"}
}

func october() api.Rule {
	return api.Rule{From: 1980, To: api.LastYear, Month: 10, On: api.On{Kind: api.Last}, At: 7200, Letter: "S"}
}

// exact begins at midnight of one day in one year.
func exact(y, m, d, save int, letter string) api.Rule {
	return api.Rule{From: y, To: y, Month: m, On: api.On{Kind: api.Exact, Day: d}, Save: save, Letter: letter}
}

// town is data of one zone of these eras, with one set of these rules.
func town(rules []api.Rule, eras ...api.Era) api.Data {
	return api.Data{
		Sets:  []api.Set{{Name: "s", Rules: rules}},
		Zones: []api.Zone{{Name: "Town", Eras: eras}},
		Links: []api.Link{{Name: "T", To: "Link"}, {Name: "Link", To: "Town"}},
	}
}

func europe() api.Data {
	return town([]api.Rule{march(), october()},
		api.Era{Std: 1800, Set: -1, Format: "LMT", Until: 500000000},
		api.Era{Std: 3600, Set: 0, Format: "CE%sT", Until: api.EndTime})
}

// midnight tells the second at which a day begins.
func midnight(y, m, d int) int {
	return int(time.Date(y, time.Month(m), d, 0, 0, 0, 0, time.UTC).Unix())
}

// ask At of Town, and of the links to it.
func ask(t *testing.T, what string, d api.Data, at int, want api.Off) {
	t.Helper()
	for _, name := range []string{"Town", "Link", "T"} {
		if o, e := off.At(d, name, at); o != want || e != api.OK {
			t.Errorf("%s: At(%s, %d) = %v, %d, want %v, 0", what, name, at, o, e, want)
		}
	}
}

func TestAt(t *testing.T) { // E1, and the document's example
	winter, summer := api.Off{Total: 3600, Abbr: "CEST"}, api.Off{Total: 7200, Save: 3600, Abbr: "CEDT"}
	ask(t, "a second ahead", europe(), springOf2020-1, winter)
	ask(t, "spring", europe(), springOf2020, summer)
	ask(t, "the last second", europe(), api.EndTime-1, winter)
}

func TestAtEras(t *testing.T) { // E1: an era ends ahead of its Until
	d := europe()
	ask(t, "the first second", d, 0, api.Off{Total: 1800, Abbr: "LMT"})
	ask(t, "the last second of the era", d, 499999999, api.Off{Total: 1800, Abbr: "LMT"})
	ask(t, "the first second of the next", d, 500000000, api.Off{Total: 3600, Abbr: "CEST"})
	d.Zones[0].Eras[0].Until = springOf2020
	ask(t, "a second ahead of where a rule begins", d, springOf2020-1, api.Off{Total: 1800, Abbr: "LMT"})
	ask(t, "where a rule begins", d, springOf2020, api.Off{Total: 7200, Save: 3600, Abbr: "CEDT"})
	d.Zones[0].Eras[0].Until = springOf2020 + 1
	ask(t, "a second ahead, the rule has begun", d, springOf2020, api.Off{Total: 1800, Abbr: "LMT"})
	ask(t, "a rule that began in the era ahead", d, springOf2020+1, api.Off{Total: 7200, Save: 3600, Abbr: "CEDT"})
	many := town([]api.Rule{march()}, api.Era{Set: -1, Format: "A", Until: 1}, api.Era{Set: -1, Format: "B", Until: 2},
		api.Era{Set: -1, Format: "C", Until: 3}, api.Era{Set: -1, Format: "D", Until: api.EndTime})
	for i, s := range []string{"A", "B", "C", "D", "D"} {
		ask(t, "eras of a second", many, i, api.Off{Abbr: s})
	}
}

func TestAtStd(t *testing.T) { // E1: a rule begins by the Std of the era that has it
	rules := []api.Rule{exact(2000, 1, 2, 60, "X")}
	for _, std := range []int{-api.MaxStd, -1, 0, 1, api.MaxStd} {
		d := town(rules, api.Era{Std: 7, Set: 0, Format: "F", Until: 1}, api.Era{Std: std, Set: 0, Format: "F", Until: api.EndTime})
		begin := midnight(2000, 1, 2) - std
		ask(t, "ahead", d, begin-1, api.Off{Total: std, Abbr: "F"})
		ask(t, "begun", d, begin, api.Off{Total: std + 60, Save: 60, Abbr: "F"})
	}
}

func TestAtWithoutSet(t *testing.T) { // E1: without a set Save is the era's, and there is no letter
	for format, abbr := range map[string]string{"XT": "XT", "X%sT": "XT", "%s": "", "%sA": "A", "A%s": "A"} {
		d := town([]api.Rule{march()}, api.Era{Std: -18000, Set: -1, Save: 5400, Format: format, Until: api.EndTime})
		ask(t, format, d, 1600000000, api.Off{Total: -12600, Save: 5400, Abbr: abbr})
	}
}

func TestAtFormat(t *testing.T) { // E1: the letter stands for %s
	long := strings.Repeat("Q", api.MaxName)
	for _, x := range []struct{ format, letter, abbr string }{
		{"XT", "D", "XT"}, {"%s", "D", "D"}, {"%sT", "D", "DT"}, {"X%s", "D", "XD"}, {"X%sT", "", "XT"}, {"%s", "", ""},
		{"AAAAA%sBBBBB", long, "AAAAA" + long + "BBBBB"}, {"s%ss", "s", "sss"},
	} {
		d := town([]api.Rule{exact(1970, 1, 1, 0, x.letter)}, api.Era{Set: 0, Format: x.format, Until: api.EndTime})
		ask(t, x.format, d, 5, api.Off{Abbr: x.abbr})
	}
}

func TestAtNoneBegun(t *testing.T) { // E1: the first rule's letter whose Save is 0
	for _, x := range []struct {
		what  string
		rules []api.Rule
		abbr  string
	}{
		{"the second of three", []api.Rule{exact(2000, 1, 1, 1, "A"), exact(2002, 1, 1, 0, "B"), exact(2001, 1, 1, 0, "C")}, "XBT"},
		{"the first", []api.Rule{exact(2001, 1, 1, 0, "A"), exact(2000, 1, 1, 0, "B")}, "XAT"},
		{"its letter is empty", []api.Rule{exact(2000, 1, 1, 60, "A"), exact(2000, 1, 1, 0, "")}, "XT"},
		{"none", []api.Rule{exact(2000, 1, 1, 60, "A"), exact(2000, 1, 1, 7200, "B")}, "XT"},
	} {
		d := town(x.rules, api.Era{Std: 3600, Set: 0, Format: "X%sT", Until: api.EndTime})
		for _, at := range []int{0, 500000000, midnight(2000, 1, 1) - 3601} {
			ask(t, x.what, d, at, api.Off{Total: 3600, Abbr: x.abbr})
		}
	}
}

func TestAtOneTime(t *testing.T) { // E1: of several rules at one time the last one (chapter 3)
	d := town([]api.Rule{exact(2000, 1, 1, 60, "A"), exact(2000, 1, 1, 0, "B"), exact(1999, 1, 1, 5, "C")},
		api.Era{Set: 0, Format: "%s", Until: api.EndTime})
	ask(t, "ahead", d, midnight(2000, 1, 1)-1, api.Off{Total: 5, Save: 5, Abbr: "C"})
	ask(t, "both", d, midnight(2000, 1, 1), api.Off{Abbr: "B"})
}

func TestAtSets(t *testing.T) { // E1: each zone and era has its own set
	d := api.Data{
		Sets: []api.Set{{Name: "a", Rules: []api.Rule{exact(1970, 1, 1, 1, "A")}}, {Name: "b", Rules: []api.Rule{exact(1970, 1, 1, 2, "B")}}},
		Zones: []api.Zone{
			{Name: "A", Eras: []api.Era{{Set: 1, Format: "%s", Until: 100}, {Set: 0, Format: "%s", Until: api.EndTime}}},
			{Name: "B", Eras: []api.Era{{Set: 0, Format: "%s", Until: 100}, {Set: 1, Format: "%s", Until: api.EndTime}}},
		},
	}
	a, b := api.Off{Total: 1, Save: 1, Abbr: "A"}, api.Off{Total: 2, Save: 2, Abbr: "B"}
	for name, want := range map[string][2]api.Off{"A": {b, a}, "B": {a, b}} {
		first, e := off.At(d, name, 99)
		second, f := off.At(d, name, 100)
		if first != want[0] || second != want[1] || e != api.OK || f != api.OK {
			t.Errorf("%s: %v, %d and %v, %d, want %v", name, first, e, second, f, want)
		}
	}
}

func TestAtErrors(t *testing.T) { // E1, P1: data.Check's, ErrNone, ErrRange, in that order
	wrong := europe()
	wrong.Zones[0].Eras[0].Format = ""
	round := europe()
	round.Links[1].To = "T"
	for i, x := range []struct {
		d    api.Data
		name string
		t    int
		want api.Errno
	}{
		{wrong, "Town", 5, api.ErrForm}, {wrong, "X", -1, api.ErrForm}, {round, "Town", 5, api.ErrRound},
		{europe(), "X", 5, api.ErrNone}, {europe(), "", -1, api.ErrNone}, {europe(), "X", api.EndTime, api.ErrNone},
		{europe(), "s", 5, api.ErrNone}, {api.Data{}, "Town", 5, api.ErrNone},
		{europe(), "Town", -1, api.ErrRange}, {europe(), "T", api.EndTime, api.ErrRange},
		{europe(), "T", math.MinInt, api.ErrRange}, {europe(), "T", math.MaxInt, api.ErrRange},
	} {
		if o, e := off.At(x.d, x.name, x.t); o != (api.Off{}) || e != x.want {
			t.Errorf("%d: At(%q, %d) = %v, %d, want nothing, %d", i, x.name, x.t, o, e, x.want)
		}
	}
}

// drawn is data that are right: one zone, some eras, some sets.
func drawn(r *rand.Rand) api.Data {
	d := api.Data{Zones: []api.Zone{{Name: "Town"}}, Links: []api.Link{{Name: "T", To: "Link"}, {Name: "Link", To: "Town"}}}
	for i := range 1 + r.Intn(api.MaxSets) {
		s := api.Set{Name: "s" + string(rune('0'+i))}
		for range 1 + r.Intn(api.MaxRules) {
			from := api.FirstYear + r.Intn(60)
			s.Rules = append(s.Rules, api.Rule{
				From: from, To: from + r.Intn(api.LastYear-from+1), Month: 1 + r.Intn(12), On: drawnOn(r),
				At: r.Intn(api.DaySecs + 1), Save: r.Intn(3) * 1800, Letter: strings.Repeat("X", r.Intn(3)),
			})
		}
		d.Sets = append(d.Sets, s)
	}
	last := 1 + r.Intn(api.MaxEras)
	for i := range last {
		era := api.Era{Std: r.Intn(2*api.MaxStd+1) - api.MaxStd, Set: r.Intn(len(d.Sets)+1) - 1, Format: []string{"A", "A%s", "%sB"}[r.Intn(3)]}
		if era.Set < 0 {
			era.Save = r.Intn(api.MaxSave + 1)
		}
		era.Until = api.EndTime
		if i < last-1 {
			era.Until = api.EndTime/last*i + 1 + r.Intn(api.EndTime/last)
		}
		d.Zones[0].Eras = append(d.Zones[0].Eras, era)
	}
	return d
}

func drawnOn(r *rand.Rand) api.On {
	return []api.On{{Kind: api.Exact, Day: 1 + r.Intn(28)}, {Kind: api.Last, Week: r.Intn(7)}, {Kind: api.After, Week: r.Intn(7), Day: 1 + r.Intn(22)}}[r.Intn(3)]
}

// dayOf finds a rule's day by the library's calendar.
func dayOf(r api.Rule, y int) time.Time {
	d := time.Date(y, time.Month(r.Month), 1, 0, 0, 0, 0, time.UTC)
	switch r.On.Kind {
	case api.Exact:
		return d.AddDate(0, 0, r.On.Day-1)
	case api.Last:
		d = d.AddDate(0, 1, -1)
		return d.AddDate(0, 0, -((int(d.Weekday()) - r.On.Week + 7) % 7))
	}
	d = d.AddDate(0, 0, r.On.Day-1)
	return d.AddDate(0, 0, (r.On.Week-int(d.Weekday())+7)%7)
}

// byHand works out what holds, from all that begins, laid in order.
func byHand(d api.Data, t int) api.Off {
	l := d.Zones[0].Eras
	era := l[slices.IndexFunc(l, func(x api.Era) bool { return x.Until > t })]
	save, letter := era.Save, ""
	if era.Set >= 0 {
		rules := d.Sets[era.Set].Rules
		if i := slices.IndexFunc(rules, func(r api.Rule) bool { return r.Save == 0 }); i >= 0 {
			letter = rules[i].Letter
		}
		var all []api.Turn
		for _, r := range rules {
			for y := r.From; y <= r.To; y++ {
				all = append(all, api.Turn{At: int(dayOf(r, y).Unix()) + r.At - era.Std, Off: api.Off{Save: r.Save, Abbr: r.Letter}})
			}
		}
		slices.SortStableFunc(all, func(a, b api.Turn) int { return a.At - b.At })
		for _, x := range all {
			if x.At <= t {
				save, letter = x.Off.Save, x.Off.Abbr
			}
		}
	}
	return api.Off{Total: era.Std + save, Save: save, Abbr: strings.ReplaceAll(era.Format, "%s", letter)}
}

func TestAtByHand(t *testing.T) { // E1, of much that is drawn
	r := rand.New(rand.NewSource(5))
	for range 300 {
		d := drawn(r)
		if e := data.Check(d); e != api.OK {
			t.Fatalf("%v: %d", d, e)
		}
		for range 20 {
			at := r.Intn(api.EndTime)
			ask(t, "drawn", d, at, byHand(d, at))
		}
		for _, era := range d.Zones[0].Eras {
			ask(t, "the last of an era", d, era.Until-1, byHand(d, era.Until-1))
		}
	}
}

func TestOnlyRead(t *testing.T) { // P2, P3
	d := europe()
	d.Sets[0].Rules = append(d.Sets[0].Rules, api.Rule{Letter: "spare"})[:2]
	d.Zones[0].Eras = append(d.Zones[0].Eras, api.Era{Format: "spare"})[:2]
	first, _ := off.At(d, "T", springOf2020)
	second, _ := off.At(d, "T", springOf2020)
	if first != second {
		t.Errorf("first %v, then %v", first, second)
	}
	if !reflect.DeepEqual(d, europe()) || d.Sets[0].Rules[:3][2].Letter != "spare" || d.Zones[0].Eras[:3][2].Format != "spare" {
		t.Errorf("the data are changed: %v", d)
	}
	d.Sets[0].Rules[0].Save = 60
	if o, _ := off.At(d, "T", springOf2020); o.Save != 60 {
		t.Errorf("what was saved ahead of the change: %v", o)
	}
}
