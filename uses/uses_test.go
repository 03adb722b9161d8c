package uses_test

import (
	"math"
	"math/rand"
	"slices"
	"strconv"
	"strings"
	"testing"

	"gnomon/api"
	"gnomon/data"
	"gnomon/uses"
)

// towns is data of three zones, whose names do not rise, and of links, one of them to another one.
func towns() api.Data {
	era := func() []api.Era { return []api.Era{{Set: -1, Format: "XT", Until: api.EndTime}} }
	return api.Data{
		Zones: []api.Zone{{Name: "E/Old_Town", Eras: era()}, {Name: "A/West", Eras: era()}, {Name: "B", Eras: era()}},
		Links: []api.Link{{Name: "T", To: "Town"}, {Name: "Town", To: "E/Old_Town"}, {Name: "West", To: "A/West"}},
	}
}

// base has a zone with a gap, one with uses that meet, and one without any.
func base() []api.Use {
	return []api.Use{
		{Zone: "E/Old_Town", From: 500, To: 1000, Meta: "mid"},
		{Zone: "A/West", From: 1000, To: api.EndTime, Meta: "pac"},
		{Zone: "E/Old_Town", From: 2000, To: 3000, Meta: "pac"},
		{Zone: "A/West", From: 0, To: 1000, Meta: "mid"},
	}
}

func use(zone string, from, to int, meta string) api.Use {
	return api.Use{Zone: zone, From: from, To: to, Meta: meta}
}

// ofMany is as many uses as there may be, each of a second.
func ofMany(n int) []api.Use {
	var l []api.Use
	for i := range n {
		l = append(l, use("B", i, i+1, "m"+strconv.Itoa(i)))
	}
	return l
}

// change is something done to uses, and what Check must say of them then.
type change struct {
	what string
	do   func(l []api.Use) []api.Use
	want api.Errno
}

func check(t *testing.T, l []change) {
	t.Helper()
	for _, c := range l {
		told(t, c.what, towns(), c.do(base()), c.want)
	}
}

// told asks all calls: the others tell what Check tells, ahead of what they have to say of the rest.
func told(t *testing.T, what string, d api.Data, l []api.Use, want api.Errno) {
	t.Helper()
	if e := uses.Check(d, l); e != want {
		t.Errorf("%s: Check = %d, want %d", what, e, want)
	}
	if want == api.OK {
		return
	}
	for _, at := range []int{0, -1} {
		for _, name := range []string{"B", ""} {
			if meta, e := uses.Meta(d, l, name, at); meta != "" || e != want {
				t.Errorf("%s: Meta(%q, %d) = %q, %d, want none, %d", what, name, at, meta, e, want)
			}
			if zones, e := uses.Zones(d, l, name, at); len(zones) != 0 || e != want {
				t.Errorf("%s: Zones(%q, %d) = %q, %d, want none, %d", what, name, at, zones, e, want)
			}
		}
	}
}

func meta(t *testing.T, l []api.Use, name string, at int, want string, err api.Errno) {
	t.Helper()
	if m, e := uses.Meta(towns(), l, name, at); m != want || e != err {
		t.Errorf("Meta(%q, %d) = %q, %d, want %q, %d", name, at, m, e, want, err)
	}
}

func zones(t *testing.T, l []api.Use, meta string, at int, want []string, err api.Errno) {
	t.Helper()
	if z, e := uses.Zones(towns(), l, meta, at); !slices.Equal(z, want) || e != err {
		t.Errorf("Zones(%q, %d) = %q, %d, want %q, %d", meta, at, z, e, want, err)
	}
}

func TestCheckRight(t *testing.T) { // I1: the bounds themselves are right
	check(t, []change{
		{"as they are", func(l []api.Use) []api.Use { return l }, api.OK},
		{"nothing", func(l []api.Use) []api.Use { return nil }, api.OK},
		{"an empty list", func(l []api.Use) []api.Use { return []api.Use{} }, api.OK},
		{"as many as there may be", func(l []api.Use) []api.Use { return ofMany(api.MaxUses) }, api.OK},
		{"all times", func(l []api.Use) []api.Use { return []api.Use{use("B", 0, api.EndTime, "m")} }, api.OK},
		{"the first second", func(l []api.Use) []api.Use { return []api.Use{use("B", 0, 1, "m")} }, api.OK},
		{"the last second", func(l []api.Use) []api.Use { return []api.Use{use("B", api.EndTime-1, api.EndTime, "m")} }, api.OK},
		{"a long Meta", func(l []api.Use) []api.Use { l[0].Meta = strings.Repeat("m", api.MaxName); return l }, api.OK},
		{"a Meta with signs", func(l []api.Use) []api.Use { l[0].Meta = "a/b_c+1-"; return l }, api.OK},
		{"a Meta that a zone has", func(l []api.Use) []api.Use { l[0].Meta = "B"; return l }, api.OK},
		{"two that meet, the later one ahead", func(l []api.Use) []api.Use { return []api.Use{use("B", 5, 9, "m"), use("B", 2, 5, "m")} }, api.OK},
		{"two that meet, the earlier one ahead", func(l []api.Use) []api.Use { return []api.Use{use("B", 2, 5, "m"), use("B", 5, 9, "n")} }, api.OK},
		{"two zones at one time", func(l []api.Use) []api.Use { return []api.Use{use("B", 2, 5, "m"), use("A/West", 2, 5, "m")} }, api.OK},
	})
}

func TestCheckWrong(t *testing.T) { // I1: each error, at its bounds
	check(t, []change{
		{"one too many", func(l []api.Use) []api.Use { return ofMany(api.MaxUses + 1) }, api.ErrMany},
		{"an empty Meta", func(l []api.Use) []api.Use { l[0].Meta = ""; return l }, api.ErrName},
		{"a Meta that is no name", func(l []api.Use) []api.Use { l[3].Meta = "m/"; return l }, api.ErrName},
		{"a Meta that is too long", func(l []api.Use) []api.Use { l[3].Meta = strings.Repeat("m", api.MaxName+1); return l }, api.ErrName},
		{"no zone", func(l []api.Use) []api.Use { l[3].Zone = "C"; return l }, api.ErrNone},
		{"an empty zone", func(l []api.Use) []api.Use { l[0].Zone = ""; return l }, api.ErrNone},
		{"a link", func(l []api.Use) []api.Use { l[0].Zone = "Town"; return l }, api.ErrNone},
		{"a link to a link", func(l []api.Use) []api.Use { l[1].Zone = "T"; return l }, api.ErrNone},
		{"a zone's name in other case", func(l []api.Use) []api.Use { l[1].Zone = "b"; return l }, api.ErrNone},
		{"From below 0", func(l []api.Use) []api.Use { l[3].From = -1; return l }, api.ErrRange},
		{"From far below 0", func(l []api.Use) []api.Use { l[3].From = math.MinInt; return l }, api.ErrRange},
		{"no time", func(l []api.Use) []api.Use { l[0].To = 500; return l }, api.ErrRange},
		{"To ahead of From", func(l []api.Use) []api.Use { l[0].To = 499; return l }, api.ErrRange},
		{"To beyond the end", func(l []api.Use) []api.Use { l[1].To = api.EndTime + 1; return l }, api.ErrRange},
		{"To far beyond the end", func(l []api.Use) []api.Use { l[1].To = math.MaxInt; return l }, api.ErrRange},
		{"From at the end", func(l []api.Use) []api.Use { l[2].From, l[2].To = api.EndTime, api.EndTime+1; return l }, api.ErrRange},
		{"a second in common", func(l []api.Use) []api.Use { l[3].To = 1001; return l }, api.ErrThere},
		{"a second in common, by From", func(l []api.Use) []api.Use { l[1].From = 999; return l }, api.ErrThere},
		{"one within another", func(l []api.Use) []api.Use { l[3] = use("A/West", 5000, 5001, "mid"); return l }, api.ErrThere},
		{"one around another", func(l []api.Use) []api.Use { l[2].From, l[2].To = 499, 1001; return l }, api.ErrThere},
		{"the same times", func(l []api.Use) []api.Use { l[2].From, l[2].To = 500, 1000; return l }, api.ErrThere},
		{"the same twice", func(l []api.Use) []api.Use { return append(l, l[0]) }, api.ErrThere},
		{"the first and the last one", func(l []api.Use) []api.Use { return append(l, use("E/Old_Town", 999, 1500, "x")) }, api.ErrThere},
	})
}

func TestCheckOrder(t *testing.T) { // I1: of two errors the one that is named first, wherever it stands
	wrong := []struct {
		e  api.Errno
		do func(d *api.Data, l []api.Use, i int) []api.Use
	}{
		{api.ErrForm, func(d *api.Data, l []api.Use, i int) []api.Use { d.Zones[2].Eras[0].Format = ""; return l }},
		{api.ErrMany, func(d *api.Data, l []api.Use, i int) []api.Use { return append(l, make([]api.Use, api.MaxUses)...) }},
		{api.ErrName, func(d *api.Data, l []api.Use, i int) []api.Use { l[i].Meta = "1"; return l }},
		{api.ErrNone, func(d *api.Data, l []api.Use, i int) []api.Use { l[i].Zone = "West"; return l }},
		{api.ErrRange, func(d *api.Data, l []api.Use, i int) []api.Use { l[i].To = l[i].From; return l }},
		{api.ErrThere, func(d *api.Data, l []api.Use, i int) []api.Use { return append(l, l[0]) }},
	}
	for i, a := range wrong {
		for _, b := range wrong[i+1:] {
			for _, at := range [][2]int{{1, 2}, {2, 1}} {
				d, l := towns(), base()
				l = a.do(&d, l, at[0])
				l = b.do(&d, l, at[1])
				told(t, "two errors", d, l, a.e)
			}
		}
	}
}

func TestDataErrors(t *testing.T) { // I1: data.Check's errors are told first
	for _, do := range []func(d *api.Data){
		func(d *api.Data) { d.Zones = make([]api.Zone, api.MaxZones+1) },
		func(d *api.Data) { d.Zones[0].Name = "1" },
		func(d *api.Data) { d.Zones[0].Name = "B" },
		func(d *api.Data) { d.Zones[0].Eras[0].Until = 5 },
		func(d *api.Data) { d.Zones[0].Eras[0].Format = "1" },
		func(d *api.Data) { d.Links[1].To = "no" },
		func(d *api.Data) { d.Links[1].To = "T" },
		func(d *api.Data) {
			rule := api.Rule{From: 1970, To: 1970, Month: 1}
			d.Sets = []api.Set{{Name: "s", Rules: []api.Rule{rule}}}
		},
	} {
		d := towns()
		do(&d)
		want := data.Check(d)
		if want == api.OK {
			t.Fatalf("%v is right", d)
		}
		told(t, "wrong data", d, base(), want)
		told(t, "wrong data and uses", d, make([]api.Use, api.MaxUses+1), want)
		told(t, "wrong data without uses", d, nil, want)
	}
}

func TestExample(t *testing.T) { // I2: at 7 the second zone is called mid, the first one by nothing
	meta(t, base(), "A/West", 7, "mid", api.OK)
	meta(t, base(), "E/Old_Town", 7, "", api.OK)
	zones(t, base(), "mid", 7, []string{"A/West"}, api.OK)
}

func TestMeta(t *testing.T) { // I2: zones and links, at the times at which uses begin and end
	for at, want := range map[int]string{0: "", 499: "", 500: "mid", 501: "mid", 999: "mid", 1000: "", 1999: "", 2000: "pac", 2999: "pac", 3000: "", api.EndTime - 1: ""} {
		for _, name := range []string{"E/Old_Town", "Town", "T"} {
			meta(t, base(), name, at, want, api.OK)
		}
	}
	for at, want := range map[int]string{0: "mid", 999: "mid", 1000: "pac", 3000: "pac", api.EndTime - 1: "pac"} {
		for _, name := range []string{"A/West", "West"} {
			meta(t, base(), name, at, want, api.OK)
		}
	}
	meta(t, base(), "B", 0, "", api.OK)
	meta(t, nil, "Town", 0, "", api.OK)
	meta(t, []api.Use{use("B", 3, 4, "m")}, "B", 3, "m", api.OK)
}

func TestMetaErrors(t *testing.T) { // I1, I2: wrong times, then names that no zone and no link has
	for _, at := range []int{math.MinInt, -1, api.EndTime, math.MaxInt} {
		for _, name := range []string{"B", "T", "no", "", "1"} {
			meta(t, base(), name, at, "", api.ErrRange)
			meta(t, nil, name, at, "", api.ErrRange)
		}
	}
	for _, name := range []string{"no", "", "1", "mid", "b", "E/Old_Town/", strings.Repeat("B", 1<<16)} {
		for _, at := range []int{0, 500, api.EndTime - 1} {
			meta(t, base(), name, at, "", api.ErrNone)
		}
	}
}

func TestZones(t *testing.T) { // I2: names rise, and links are not among them
	l := append(base(), use("B", 500, 2500, "mid"))
	for at, want := range map[int][]string{0: {"A/West"}, 499: {"A/West"}, 500: {"A/West", "B", "E/Old_Town"}, 999: {"A/West", "B", "E/Old_Town"}, 1000: {"B"}, 2499: {"B"}, 2500: nil, api.EndTime - 1: nil} {
		zones(t, l, "mid", at, want, api.OK)
	}
	for at, want := range map[int][]string{0: nil, 999: nil, 1000: {"A/West"}, 2000: {"A/West", "E/Old_Town"}, 2999: {"A/West", "E/Old_Town"}, 3000: {"A/West"}, api.EndTime - 1: {"A/West"}} {
		zones(t, l, "pac", at, want, api.OK)
	}
	for _, name := range []string{"B", "Town", "mi", "midd", "MID"} {
		zones(t, l, name, 500, nil, api.OK)
	}
	zones(t, nil, "mid", 0, nil, api.OK)
}

func TestZonesRise(t *testing.T) { // I2: names rise by their bytes, whatever order zones and uses have
	names := []string{"a", "B", "Ab", "A", "A-b"}
	var d api.Data
	var l []api.Use
	for i, name := range names {
		d.Zones = append(d.Zones, api.Zone{Name: name, Eras: []api.Era{{Set: -1, Format: "X", Until: api.EndTime}}})
		l = append(l, use(names[len(names)-1-i], 0, 1, "m"))
	}
	want := []string{"A", "A-b", "Ab", "B", "a"}
	if z, e := uses.Zones(d, l, "m", 0); !slices.Equal(z, want) || e != api.OK {
		t.Errorf("Zones = %q, %d, want %q, 0", z, e, want)
	}
}

func TestZonesErrors(t *testing.T) { // I1, I2: wrong times, then what is no name
	for _, at := range []int{math.MinInt, -1, api.EndTime, math.MaxInt} {
		for _, name := range []string{"mid", "no", "", "1"} {
			zones(t, base(), name, at, nil, api.ErrRange)
		}
	}
	for _, name := range []string{"", "1", "mid/", "m d", strings.Repeat("m", api.MaxName+1)} {
		zones(t, base(), name, 0, nil, api.ErrName)
		zones(t, nil, name, api.EndTime-1, nil, api.ErrName)
	}
}

func TestDrawn(t *testing.T) { // I1, I2: uses of few seconds, held against what each second has
	r := rand.New(rand.NewSource(1))
	names, metas := []string{"A/West", "B", "E/Old_Town"}, []string{"m", "n"}
	right := 0
	for range 4000 {
		var l []api.Use
		seen := map[string][]string{}
		twice := false
		for range r.Intn(5) {
			from := r.Intn(10)
			u := use(names[r.Intn(3)], from, from+1+r.Intn(4), metas[r.Intn(2)])
			l = append(l, u)
			for at := u.From; at < u.To; at++ {
				key := u.Zone + " " + strconv.Itoa(at)
				seen[key] = append(seen[key], u.Meta)
				twice = twice || len(seen[key]) > 1
			}
		}
		if twice {
			told(t, "drawn uses", towns(), l, api.ErrThere)
			continue
		}
		right++
		for at := range 15 {
			called := map[string][]string{}
			for _, name := range names {
				want := strings.Join(seen[name+" "+strconv.Itoa(at)], "")
				called[want] = append(called[want], name)
				meta(t, l, name, at, want, api.OK)
			}
			for _, m := range metas {
				zones(t, l, m, at, called[m], api.OK)
			}
		}
	}
	if right < 500 {
		t.Errorf("only %d uses are right", right)
	}
}

func TestOnlyRead(t *testing.T) { // P2: uses are as they were, the spare room too
	d := towns()
	d.Zones = append(d.Zones, api.Zone{Name: "spare"})[:3]
	l := append(base(), use("spare", 1, 2, "spare"))[:4]
	uses.Check(d, l)
	uses.Meta(d, l, "T", 500)
	uses.Zones(d, l, "mid", 500)
	if !slices.Equal(l[:5], append(base(), use("spare", 1, 2, "spare"))) {
		t.Errorf("uses have become %v", l[:5])
	}
	for i, name := range []string{"E/Old_Town", "A/West", "B", "spare"} {
		if d.Zones[:4][i].Name != name {
			t.Errorf("zone %d has become %q", i, d.Zones[:4][i].Name)
		}
	}
}

func TestNewMemory(t *testing.T) { // P2: no two answers share memory
	d, l := towns(), base()
	a, _ := uses.Zones(d, l, "mid", 500)
	b, _ := uses.Zones(d, l, "mid", 500)
	a[0] = "x"
	l[0].Zone, d.Zones[1].Name = "B", "y"
	if !slices.Equal(b, []string{"A/West", "E/Old_Town"}) {
		t.Errorf("an answer has become %q", b)
	}
}

func TestAgain(t *testing.T) { // P3: calls tell the same whatever was asked ahead
	for range 3 {
		meta(t, base(), "Town", 500, "mid", api.OK)
		meta(t, nil, "Town", 500, "", api.OK)
		zones(t, base(), "mid", 500, []string{"A/West", "E/Old_Town"}, api.OK)
		zones(t, base(), "", 500, nil, api.ErrName)
	}
}
