package data_test

import (
	"math"
	"reflect"
	"slices"
	"strings"
	"testing"

	"gnomon/api"
	"gnomon/data"
)

func march() api.Rule {
	return api.Rule{From: 1980, To: api.LastYear, Month: 3, On: api.On{Kind: api.Last}, At: 7200, Save: 3600, Letter: "D"}
}

func october() api.Rule {
	return api.Rule{From: 1980, To: api.LastYear, Month: 10, On: api.On{Kind: api.Last}, At: 7200, Letter: "S"}
}

// towns is right; each thing of which there may be several is there twice at least.
func towns() api.Data {
	return api.Data{
		Sets: []api.Set{
			{Name: "eu", Rules: []api.Rule{march(), october()}},
			{Name: "am", Rules: []api.Rule{october(), march()}},
		},
		Zones: []api.Zone{
			{Name: "E/Old_Town", Eras: []api.Era{
				{Std: 1800, Set: -1, Save: 60, Format: "LMT", Until: 500000000},
				{Std: 3600, Set: 0, Format: "CE%sT", Until: api.EndTime},
			}},
			{Name: "A/West", Eras: []api.Era{
				{Std: -18000, Set: -1, Format: "XT", Until: 1},
				{Std: -18000, Set: 1, Format: "X%sT", Until: api.EndTime},
			}},
		},
		Links: []api.Link{{Name: "T", To: "Town"}, {Name: "Town", To: "E/Old_Town"}, {Name: "West", To: "A/West"}},
	}
}

// full has as much of everything as there may be.
func full() api.Data {
	var d api.Data
	for i := range api.MaxSets {
		s := api.Set{Name: "set" + string(rune('A'+i))}
		for k := range api.MaxRules {
			r := march()
			r.Month = k + 1
			s.Rules = append(s.Rules, r)
		}
		d.Sets = append(d.Sets, s)
	}
	for i := range api.MaxZones {
		z := api.Zone{Name: "zone" + string(rune('A'+i))}
		for k := range api.MaxEras {
			z.Eras = append(z.Eras, api.Era{Set: k % api.MaxSets, Format: "X%s", Until: api.EndTime - api.MaxEras + 1 + k})
		}
		d.Zones = append(d.Zones, z)
	}
	for i := range api.MaxLinks {
		d.Links = append(d.Links, api.Link{Name: "link" + string(rune('A'+i)), To: "zoneA"})
	}
	return d
}

// change is something done to data, and what Check must say of them then.
type change struct {
	what string
	do   func(d *api.Data)
	want api.Errno
}

func check(t *testing.T, from func() api.Data, l []change) {
	t.Helper()
	for _, c := range l {
		d := from()
		c.do(&d)
		if e := data.Check(d); e != c.want {
			t.Errorf("%s: Check = %d, want %d", c.what, e, c.want)
		}
	}
}

func TestName(t *testing.T) { // D1
	for s, want := range map[string]bool{
		"": false, "a": true, "Z": true, "A/b": true, "A/": false, "/a": false, "/": false, "1": false, "_a": false,
		"+a": false, "-a": false, "a1": true, "a0": true, "a_b": true, "a+1": true, "a-": true, "a+": true, "a_": true,
		"a//b": true, "a b": false, "a.b": false, "abcdefghijkl": true, "abcdefghijklm": false, "a/bcdefghijk": true,
		"abcdefghijk/": false, "é": false, "aé": false, "a\x00": false, "a\n": false, "a%": false,
	} {
		if is := data.Name(s); is != want {
			t.Errorf("Name(%q) = %v, want %v", s, is, want)
		}
	}
	if data.Name(strings.Repeat("a", 1<<20)) {
		t.Error("a long text is a name")
	}
}

func TestNameBytes(t *testing.T) { // D1: each byte, at the beginning, within, at the end
	const letters = "ABCDEFGHIJKLMNOPQRSTUVWXYZabcdefghijklmnopqrstuvwxyz"
	for i := range 256 {
		c := string([]byte{byte(i)})
		first := strings.Contains(letters, c)
		in := first || strings.Contains("0123456789/_+-", c)
		for s, want := range map[string]bool{c: first, c + "a": first, "a" + c + "a": in, "a" + c: in && c != "/"} {
			if is := data.Name(s); is != want {
				t.Errorf("Name(%q) = %v, want %v", s, is, want)
			}
		}
	}
}

func TestCheckRight(t *testing.T) { // D1: the bounds themselves are right
	check(t, towns, []change{
		{"as it is", func(d *api.Data) {}, api.OK},
		{"nothing", func(d *api.Data) { *d = api.Data{} }, api.OK},
		{"empty lists", func(d *api.Data) { *d = api.Data{Sets: []api.Set{}, Zones: []api.Zone{}, Links: []api.Link{}} }, api.OK},
		{"no links", func(d *api.Data) { d.Links = nil }, api.OK},
		{"all there may be", func(d *api.Data) { *d = full() }, api.OK},
		{"one era", func(d *api.Data) { d.Zones[0].Eras = d.Zones[0].Eras[1:] }, api.OK},
		{"one rule", func(d *api.Data) { d.Sets[0].Rules = d.Sets[0].Rules[:1] }, api.OK},
		{"a set has a zone's name", func(d *api.Data) { d.Sets[0].Name = "A/West" }, api.OK},
		{"a set has a link's name", func(d *api.Data) { d.Sets[0].Name = "Town" }, api.OK},
		{"names that are long", func(d *api.Data) { d.Sets[0].Name = strings.Repeat("a", api.MaxName) }, api.OK},
		{"names that differ in case", func(d *api.Data) { d.Links[0].Name = "town" }, api.OK},
		{"Std least", func(d *api.Data) { d.Zones[1].Eras[1].Std = -api.MaxStd }, api.OK},
		{"Std greatest", func(d *api.Data) { d.Zones[1].Eras[1].Std = api.MaxStd }, api.OK},
		{"Save greatest", func(d *api.Data) { d.Zones[0].Eras[0].Save = api.MaxSave }, api.OK},
		{"Save least", func(d *api.Data) { d.Zones[0].Eras[0].Save = 0 }, api.OK},
		{"Set greatest", func(d *api.Data) { d.Zones[0].Eras[1].Set = 1 }, api.OK},
		{"Until a second ahead", func(d *api.Data) { d.Zones[0].Eras[0].Until = api.EndTime - 1 }, api.OK},
		{"Format of a letter", func(d *api.Data) { d.Zones[0].Eras[0].Format = "z" }, api.OK},
		{"Format of %s alone", func(d *api.Data) { d.Zones[0].Eras[0].Format = "%s" }, api.OK},
		{"Format ends with %s", func(d *api.Data) { d.Zones[0].Eras[0].Format = "AZaz%s" }, api.OK},
		{"Format that is long", func(d *api.Data) { d.Zones[1].Eras[1].Format = strings.Repeat("X", api.MaxName) }, api.OK},
		{"Format that is long, with %s", func(d *api.Data) { d.Zones[1].Eras[1].Format = strings.Repeat("X", api.MaxName-2) + "%s" }, api.OK},
		{"a way of all links", func(d *api.Data) {
			d.Links = []api.Link{{Name: "a", To: "b"}, {Name: "b", To: "c"}, {Name: "c", To: "d"}, {Name: "d", To: "A/West"}}
		}, api.OK},
	})
}

func TestCheckMany(t *testing.T) { // D1: ErrMany
	check(t, full, []change{
		{"sets", func(d *api.Data) { d.Sets = append(d.Sets, api.Set{Name: "more", Rules: []api.Rule{march()}}) }, api.ErrMany},
		{"zones", func(d *api.Data) { d.Zones = append(d.Zones, api.Zone{Name: "more", Eras: d.Zones[0].Eras}) }, api.ErrMany},
		{"links", func(d *api.Data) { d.Links = append(d.Links, api.Link{Name: "more", To: "zoneA"}) }, api.ErrMany},
		{"rules", func(d *api.Data) { d.Sets[2].Rules = append(d.Sets[2].Rules, march()) }, api.ErrMany},
		{"no rules", func(d *api.Data) { d.Sets[2].Rules = nil }, api.ErrMany},
		{"no rules of the first", func(d *api.Data) { d.Sets[0].Rules = []api.Rule{} }, api.ErrMany},
		{"eras", func(d *api.Data) {
			d.Zones[4].Eras = append([]api.Era{{Set: -1, Format: "X", Until: 1}}, d.Zones[4].Eras...)
		}, api.ErrMany},
		{"no eras", func(d *api.Data) { d.Zones[4].Eras = nil }, api.ErrMany},
		{"no eras of the first", func(d *api.Data) { d.Zones[0].Eras = []api.Era{} }, api.ErrMany},
		{"very many sets", func(d *api.Data) { d.Sets = make([]api.Set, 1<<16) }, api.ErrMany},
	})
}

func TestCheckNames(t *testing.T) { // D1: ErrName, ErrThere
	check(t, towns, []change{
		{"a set's", func(d *api.Data) { d.Sets[1].Name = "1" }, api.ErrName},
		{"a zone's", func(d *api.Data) { d.Zones[1].Name = "A/" }, api.ErrName},
		{"a link's", func(d *api.Data) { d.Links[2].Name = "" }, api.ErrName},
		{"where a link leads", func(d *api.Data) { d.Links[2].To = "A West" }, api.ErrName},
		{"where a link leads: empty", func(d *api.Data) { d.Links[0].To = "" }, api.ErrName},
		{"a byte too many", func(d *api.Data) { d.Sets[0].Name = strings.Repeat("a", api.MaxName+1) }, api.ErrName},
		{"two sets", func(d *api.Data) { d.Sets[1].Name = "eu" }, api.ErrThere},
		{"two zones", func(d *api.Data) { d.Zones[1].Name = "E/Old_Town" }, api.ErrThere},
		{"two links", func(d *api.Data) { d.Links[2].Name = "T" }, api.ErrThere},
		{"two links to one", func(d *api.Data) { d.Links[2] = d.Links[1] }, api.ErrThere},
		{"a zone and a link", func(d *api.Data) { d.Links[2].Name = "A/West" }, api.ErrThere},
	})
}

func TestCheckRules(t *testing.T) { // D1: rules.Check's first error
	check(t, towns, []change{
		{"a year", func(d *api.Data) { d.Sets[1].Rules[1].To = api.LastYear + 1 }, api.ErrRange},
		{"a kind", func(d *api.Data) { d.Sets[0].Rules[0].On.Kind = 0 }, api.ErrKind},
		{"a letter", func(d *api.Data) { d.Sets[1].Rules[0].Letter = "d1" }, api.ErrName},
		{"a day", func(d *api.Data) {
			d.Sets[0].Rules[1].Month, d.Sets[0].Rules[1].On = 4, api.On{Kind: api.Exact, Day: 31}
		}, api.ErrNone},
		{"the first one's of two in a set", func(d *api.Data) {
			d.Sets[0].Rules[0].Letter, d.Sets[0].Rules[1].Month = "1", 0
		}, api.ErrName},
		{"the first one's of two sets", func(d *api.Data) {
			d.Sets[0].Rules[1].On.Kind, d.Sets[1].Rules[0].Month = 4, 0
		}, api.ErrKind},
	})
}

func TestCheckEras(t *testing.T) { // D1: ErrRange
	check(t, towns, []change{
		{"Std below", func(d *api.Data) { d.Zones[1].Eras[1].Std = -api.MaxStd - 1 }, api.ErrRange},
		{"Std above", func(d *api.Data) { d.Zones[0].Eras[0].Std = api.MaxStd + 1 }, api.ErrRange},
		{"Std least of all", func(d *api.Data) { d.Zones[0].Eras[0].Std = math.MinInt }, api.ErrRange},
		{"Set below", func(d *api.Data) { d.Zones[0].Eras[0].Set = -2 }, api.ErrRange},
		{"Set above", func(d *api.Data) { d.Zones[1].Eras[1].Set = 2 }, api.ErrRange},
		{"Set without sets", func(d *api.Data) { d.Sets = nil }, api.ErrRange},
		{"Save below", func(d *api.Data) { d.Zones[0].Eras[0].Save = -1 }, api.ErrRange},
		{"Save above", func(d *api.Data) { d.Zones[0].Eras[0].Save = api.MaxSave + 1 }, api.ErrRange},
		{"Save with a set", func(d *api.Data) { d.Zones[0].Eras[1].Save = 1 }, api.ErrRange},
		{"Save below with a set", func(d *api.Data) { d.Zones[0].Eras[1].Save = -1 }, api.ErrRange},
		{"the first Until is 0", func(d *api.Data) { d.Zones[1].Eras[0].Until = 0 }, api.ErrRange},
		{"the first Until is below 0", func(d *api.Data) { d.Zones[1].Eras[0].Until = -1 }, api.ErrRange},
		{"Until is that of the one ahead", func(d *api.Data) { d.Zones[0].Eras[0].Until = api.EndTime }, api.ErrRange},
		{"Until is below that of the one ahead", func(d *api.Data) { d.Zones[0].Eras[0].Until = math.MaxInt }, api.ErrRange},
		{"the last Until is less", func(d *api.Data) { d.Zones[0].Eras[1].Until = api.EndTime - 1 }, api.ErrRange},
		{"the last Until is more", func(d *api.Data) { d.Zones[1].Eras[1].Until = api.EndTime + 1 }, api.ErrRange},
	})
}

func TestCheckFormats(t *testing.T) { // D1: ErrForm
	for _, s := range []string{
		"", "%s%s", "A%sB%s", "%", "%d", "%S", "s%", "%%s", "%ss%", "%%ss", "A1", "A B", "A/B", "A_B", "A-B", "+01", "é", "A\x00",
		strings.Repeat("X", api.MaxName+1), strings.Repeat("X", api.MaxName-1) + "%s", strings.Repeat("X", 1<<20),
	} {
		for zone := range 2 {
			for era := range 2 {
				d := towns()
				d.Zones[zone].Eras[era].Format = s
				if e := data.Check(d); e != api.ErrForm {
					t.Errorf("Format %.20q: Check = %d, want %d", s, e, api.ErrForm)
				}
			}
		}
	}
}

func TestCheckLinks(t *testing.T) { // D1: ErrNone, ErrRound
	check(t, towns, []change{
		{"to nothing", func(d *api.Data) { d.Links[2].To = "none" }, api.ErrNone},
		{"to a set", func(d *api.Data) { d.Links[2].To = "eu" }, api.ErrNone},
		{"to a name that differs in case", func(d *api.Data) { d.Links[2].To = "a/west" }, api.ErrNone},
		{"no zones", func(d *api.Data) { d.Zones = nil }, api.ErrNone},
		{"to itself", func(d *api.Data) { d.Links[2].To = "West" }, api.ErrRound},
		{"to each other", func(d *api.Data) { d.Links[1].To = "T" }, api.ErrRound},
		{"to others that go round", func(d *api.Data) {
			d.Links = []api.Link{{Name: "a", To: "b"}, {Name: "b", To: "c"}, {Name: "c", To: "b"}}
		}, api.ErrRound},
		{"all of them round", func(d *api.Data) {
			d.Links = []api.Link{{Name: "a", To: "b"}, {Name: "b", To: "c"}, {Name: "c", To: "d"}, {Name: "d", To: "a"}}
		}, api.ErrRound},
		{"round, without zones", func(d *api.Data) { d.Zones, d.Links = nil, []api.Link{{Name: "a", To: "a"}} }, api.ErrRound},
	})
}

// faults stand in the order in which the chapter names their errors, and any two of them may be done together. The later
// its error, the further ahead in the data a fault lies, so that it would be met first.
func faults() []change {
	return []change{
		{"many", func(d *api.Data) { d.Zones[1].Eras = nil }, api.ErrMany},
		{"name", func(d *api.Data) { d.Links[2].Name = "1" }, api.ErrName},
		{"there", func(d *api.Data) { d.Zones = append(d.Zones, d.Zones[1]) }, api.ErrThere},
		{"kind", func(d *api.Data) { d.Sets[1].Rules[0].On.Kind = 9 }, api.ErrKind},
		{"range", func(d *api.Data) { d.Zones[0].Eras[1].Std = math.MaxInt }, api.ErrRange},
		{"form", func(d *api.Data) { d.Zones[0].Eras[0].Format = "" }, api.ErrForm},
		{"none", func(d *api.Data) { d.Links[1].To = "none" }, api.ErrNone},
		{"round", func(d *api.Data) { d.Links[0].To = "T" }, api.ErrRound},
	}
}

func TestCheckOrder(t *testing.T) { // D1, P1: the error that is named first
	l := faults()
	for i, first := range l {
		check(t, towns, []change{first})
		for _, second := range l[i+1:] {
			both := func(d *api.Data) { second.do(d); first.do(d) }
			check(t, towns, []change{{first.what + " and " + second.what, both, first.want}})
		}
	}
}

func TestZone(t *testing.T) { // D2
	for name, want := range map[string]int{"E/Old_Town": 0, "A/West": 1, "Town": 0, "T": 0, "West": 1} {
		if k, e := data.Zone(towns(), name); k != want || e != api.OK {
			t.Errorf("Zone(%q) = %d, %d, want %d, 0", name, k, e, want)
		}
	}
	for _, name := range []string{"", "X", "eu", "e/old_town", "E/Old_Tow", "E/Old_Towns", "A/", strings.Repeat("a", 1<<16)} {
		if k, e := data.Zone(towns(), name); k != 0 || e != api.ErrNone {
			t.Errorf("Zone(%.20q) = %d, %d, want 0, %d", name, k, e, api.ErrNone)
		}
	}
	if k, e := data.Zone(api.Data{}, "A"); k != 0 || e != api.ErrNone {
		t.Errorf("Zone of no data = %d, %d, want 0, %d", k, e, api.ErrNone)
	}
}

func TestZoneLinks(t *testing.T) { // D2: a link leads where what it leads to leads, by however many links
	d := full()
	for i := range d.Links {
		d.Links[i].To = "zoneD"
		if i > 0 {
			d.Links[i].To = d.Links[i-1].Name
		}
	}
	for _, l := range d.Links {
		a, e := data.Zone(d, l.Name)
		b, f := data.Zone(d, l.To)
		if a != 3 || b != 3 || e != api.OK || f != api.OK {
			t.Errorf("%s leads to %d, %d; %s to %d, %d; want 3, 0", l.Name, a, e, l.To, b, f)
		}
	}
}

func TestZoneErrors(t *testing.T) { // D2: Check's errors, ahead of ErrNone, and then no zone
	for _, f := range faults() {
		for _, name := range []string{"A/West", "West", "X", ""} {
			d := towns()
			f.do(&d)
			if k, e := data.Zone(d, name); k != 0 || e != f.want {
				t.Errorf("%s: Zone(%q) = %d, %d, want 0, %d", f.what, name, k, e, f.want)
			}
		}
	}
}

// roomy gives all lists of towns spare room that is not empty.
func roomy() api.Data {
	d := towns()
	d.Sets = append(d.Sets, api.Set{Name: "spare"})[:len(d.Sets)]
	d.Zones = append(d.Zones, api.Zone{Name: "spare"})[:len(d.Zones)]
	d.Links = append(d.Links, api.Link{Name: "spare"})[:len(d.Links)]
	for i := range d.Sets {
		d.Sets[i].Rules = append(d.Sets[i].Rules, api.Rule{Letter: "spare"})[:len(d.Sets[i].Rules)]
	}
	for i := range d.Zones {
		d.Zones[i].Eras = append(d.Zones[i].Eras, api.Era{Format: "spare"})[:len(d.Zones[i].Eras)]
	}
	return d
}

// whole shows the spare room too.
func whole(d api.Data) api.Data {
	d.Sets, d.Zones, d.Links = slices.Clone(d.Sets[:3]), slices.Clone(d.Zones[:3]), d.Links[:4]
	for i := range 2 {
		d.Sets[i].Rules, d.Zones[i].Eras = d.Sets[i].Rules[:3], d.Zones[i].Eras[:3]
	}
	return d
}

func TestOnlyRead(t *testing.T) { // P2, P3
	d := roomy()
	for range 2 {
		if e := data.Check(d); e != api.OK {
			t.Errorf("Check = %d, want 0", e)
		}
		if k, e := data.Zone(d, "West"); k != 1 || e != api.OK {
			t.Errorf("Zone = %d, %d, want 1, 0", k, e)
		}
	}
	if is, was := whole(d), whole(roomy()); !reflect.DeepEqual(is, was) {
		t.Errorf("the data are\n%v\nand were\n%v", is, was)
	}
	d.Links[2].To = "Town"
	if k, e := data.Zone(d, "West"); k != 0 || e != api.OK {
		t.Errorf("Zone of changed data = %d, %d, want 0, 0", k, e)
	}
}
