package source_test

import (
	"math"
	"math/rand"
	"reflect"
	"slices"
	"strconv"
	"strings"
	"testing"

	"gnomon/api"
	"gnomon/data"
	"gnomon/source"
)

func march() api.Rule {
	return api.Rule{From: 1980, To: api.LastYear, Month: 3, On: api.On{Kind: api.Last}, At: 7200, Save: 3600, Letter: "D"}
}

func october() api.Rule {
	return api.Rule{From: 1980, To: api.LastYear, Month: 10, On: api.On{Kind: api.Last}, At: 7200, Letter: "S"}
}

// europe is the data of the document's example.
func europe() api.Data {
	return api.Data{
		Sets: []api.Set{{Name: "eu", Rules: []api.Rule{march(), october()}}},
		Zones: []api.Zone{
			{Name: "E/Old_Town", Eras: []api.Era{
				{Std: 1800, Set: -1, Format: "LMT", Until: 500000000},
				{Std: 3600, Set: 0, Format: "CE%sT", Until: api.EndTime},
			}},
			{Name: "A/West", Eras: []api.Era{{Std: -18000, Set: -1, Save: 3600, Format: "XT", Until: api.EndTime}}},
		},
		Links: []api.Link{{Name: "Town", To: "E/Old_Town"}, {Name: "T", To: "Town"}},
	}
}

const europeText = `set eu
rule 1980 2029 3 2 0 0 7200 3600 D
rule 1980 2029 10 2 0 0 7200 0 S
zone E/Old_Town
era 1800 -1 0 LMT 500000000
era 3600 0 0 CE%sT 1893456000
zone A/West
era -18000 -1 3600 XT 1893456000
link Town E/Old_Town
link T Town
`

// apart has another number or text in each place, so that no two can be taken for each other.
func apart() api.Data {
	return api.Data{
		Sets: []api.Set{
			{Name: "s", Rules: []api.Rule{
				{From: 1971, To: 1972, Month: 3, On: api.On{Kind: api.After, Week: 4, Day: 5}, At: 6, Save: 7, Letter: "L"},
				{From: 1973, To: 1974, Month: 12, On: api.On{Kind: api.Exact, Day: 31}, At: api.DaySecs, Save: api.MaxSave},
			}},
			{Name: "r", Rules: []api.Rule{{From: 1970, To: 2029, Month: 1, On: api.On{Kind: api.Last, Week: 6}}}},
		},
		Zones: []api.Zone{
			{Name: "z", Eras: []api.Era{{Std: 1, Set: -1, Save: 2, Format: "F", Until: 3}, {Std: -4, Set: 1, Format: "%s", Until: api.EndTime}}},
			{Name: "y", Eras: []api.Era{{Std: 0, Set: 0, Format: "G", Until: api.EndTime}}},
		},
		Links: []api.Link{{Name: "l", To: "m"}, {Name: "m", To: "y"}},
	}
}

const apartText = `set s
rule 1971 1972 3 3 4 5 6 7 L
rule 1973 1974 12 1 0 31 86400 7200 -
set r
rule 1970 2029 1 2 6 0 0 0 -
zone z
era 1 -1 2 F 3
era -4 1 0 %s 1893456000
zone y
era 0 0 0 G 1893456000
link l m
link m y
`

// greatest has as much of everything as there may be, each as long as it may be.
func greatest() api.Data {
	long := strings.Repeat("x", api.MaxName-1)
	var d api.Data
	for i := range api.MaxSets {
		rule := api.Rule{From: 1970, To: 2029, Month: 12, On: api.On{Kind: api.After, Week: 6, Day: 22}, At: api.DaySecs, Save: api.MaxSave, Letter: long + "L"}
		d.Sets = append(d.Sets, api.Set{Name: long + strconv.Itoa(i), Rules: slices.Repeat([]api.Rule{rule}, api.MaxRules)})
	}
	for i := range api.MaxZones {
		z := api.Zone{Name: long + strconv.Itoa(i)}
		for k := range api.MaxEras {
			z.Eras = append(z.Eras, api.Era{Std: -api.MaxStd, Set: -1, Save: api.MaxSave, Format: long + "F", Until: api.EndTime - api.MaxEras + 1 + k})
		}
		d.Zones = append(d.Zones, z)
	}
	for i := range api.MaxLinks {
		d.Links = append(d.Links, api.Link{Name: long + string(rune('a'+i)), To: long + "0"})
	}
	return d
}

// same asks whether data are the same: an empty list may be nil or not.
func same(a, b api.Data) bool {
	return slices.EqualFunc(a.Sets, b.Sets, func(x, y api.Set) bool { return x.Name == y.Name && slices.Equal(x.Rules, y.Rules) }) &&
		slices.EqualFunc(a.Zones, b.Zones, func(x, y api.Zone) bool { return x.Name == y.Name && slices.Equal(x.Eras, y.Eras) }) &&
		slices.Equal(a.Links, b.Links)
}

// refused asks Read of a text that is not data.
func refused(t *testing.T, what, s string, want api.Errno) {
	t.Helper()
	if d, e := source.Read(s); e != want || !reflect.DeepEqual(d, api.Data{}) {
		t.Errorf("%s: Read(%q) = %v, %d, want nothing, %d", what, s, d, e, want)
	}
}

// both asks Show and Read, which lead from data to the text and back.
func both(t *testing.T, what string, d api.Data, text string) {
	t.Helper()
	if s, e := source.Show(d); s != text || e != api.OK {
		t.Errorf("%s: Show =\n%s, %d, want\n%s, 0", what, s, e, text)
	}
	if x, e := source.Read(text); !same(x, d) || e != api.OK {
		t.Errorf("%s: Read =\n%v, %d, want\n%v, 0", what, x, e, d)
	}
}

func TestExample(t *testing.T) { // G1, G2: the document's data are 227 bytes
	both(t, "the example", europe(), europeText)
	if len(europeText) != 227 {
		t.Errorf("%d bytes, want 227", len(europeText))
	}
}

func TestBoth(t *testing.T) { // G1, G2: what there may be, and the bounds of it
	both(t, "nothing", api.Data{}, "")
	both(t, "empty lists", api.Data{Sets: []api.Set{}, Zones: []api.Zone{}, Links: []api.Link{}}, "")
	both(t, "all apart", apart(), apartText)
	both(t, "a set alone", api.Data{Sets: []api.Set{{Name: "rule", Rules: []api.Rule{march()}}}}, "set rule\nrule 1980 2029 3 2 0 0 7200 3600 D\n")
	zone := func(name string, era api.Era) api.Data {
		era.Until = api.EndTime
		return api.Data{Zones: []api.Zone{{Name: name, Eras: []api.Era{era}}}}
	}
	both(t, "a zone alone", zone("era", api.Era{Set: -1, Format: "era"}), "zone era\nera 0 -1 0 era 1893456000\n")
	both(t, "Std least", zone("A/b_c+1-", api.Era{Std: -api.MaxStd, Set: -1, Format: "%sA"}), "zone A/b_c+1-\nera -50400 -1 0 %sA 1893456000\n")
	both(t, "Std greatest", zone("A", api.Era{Std: api.MaxStd, Set: -1, Save: api.MaxSave, Format: "A%s"}), "zone A\nera 50400 -1 7200 A%s 1893456000\n")
}

func TestEmptyLetter(t *testing.T) { // G1: a letter that is empty, and letters at their bounds
	for letter, word := range map[string]string{"": "-", "a": "a", "Z": "Z", strings.Repeat("q", api.MaxName): strings.Repeat("q", api.MaxName)} {
		r := march()
		r.Letter = letter
		both(t, "letter "+letter, api.Data{Sets: []api.Set{{Name: "s", Rules: []api.Rule{r}}}}, "set s\nrule 1980 2029 3 2 0 0 7200 3600 "+word+"\n")
	}
	refused(t, "no letter", "set s\nrule 1980 2029 3 2 0 0 7200 3600\n", api.ErrForm)
	refused(t, "a blank for it", "set s\nrule 1980 2029 3 2 0 0 7200 3600 \n", api.ErrForm)
	refused(t, "two signs for it", "set s\nrule 1980 2029 3 2 0 0 7200 3600 --\n", api.ErrForm)
	refused(t, "a sign ahead of it", "set s\nrule 1980 2029 3 2 0 0 7200 3600 -D\n", api.ErrForm)
	refused(t, "no name", "zone -\nera 0 -1 0 A 1893456000\n", api.ErrForm)
	refused(t, "no format", "zone A\nera 0 -1 0 - 1893456000\n", api.ErrForm)
}

func TestGreatest(t *testing.T) { // G2: all that is shown can be read
	s, e := source.Show(greatest())
	if e != api.OK || len(s) > api.MaxText {
		t.Fatalf("%d bytes, %d", len(s), e)
	}
	both(t, "the greatest data", greatest(), s)
	lines := strings.Count(s, "\n")
	if want := api.MaxSets*(1+api.MaxRules) + api.MaxZones*(1+api.MaxEras) + api.MaxLinks; lines != want {
		t.Errorf("%d lines, want %d", lines, want)
	}
}

func TestTextBounds(t *testing.T) { // G1: MaxText bytes are not too many, but no data are shown so
	for n, want := range map[int]api.Errno{api.MaxText - 1: api.ErrForm, api.MaxText: api.ErrForm, api.MaxText + 1: api.ErrMany, 1 << 20: api.ErrMany} {
		refused(t, "a long text", strings.Repeat("x", n), want)
		refused(t, "line feeds", strings.Repeat("\n", n), want)
		refused(t, "blanks", strings.Repeat(" ", n), want)
		refused(t, "sets", strings.Repeat("set s\n", n)[:n], want)
		refused(t, "data ahead", (europeText + strings.Repeat("link T Town\n", n))[:n], want)
		refused(t, "a number that is long", "zone A\nera "+strings.Repeat("9", n-12)+"\n", want)
	}
}

func TestShowErrors(t *testing.T) { // G1: data.Check's errors, and no text then
	for _, x := range []struct {
		what string
		do   func(d *api.Data)
		want api.Errno
	}{
		{"too many sets", func(d *api.Data) { d.Sets = make([]api.Set, api.MaxSets+1) }, api.ErrMany},
		{"a set without rules", func(d *api.Data) { d.Sets[0].Rules = nil }, api.ErrMany},
		{"a zone without eras", func(d *api.Data) { d.Zones[1].Eras = nil }, api.ErrMany},
		{"no name", func(d *api.Data) { d.Zones[1].Name = "A B" }, api.ErrName},
		{"one name twice", func(d *api.Data) { d.Links[1].Name = "Town" }, api.ErrThere},
		{"a rule's year", func(d *api.Data) { d.Sets[0].Rules[0].To = 2030 }, api.ErrRange},
		{"a rule's kind", func(d *api.Data) { d.Sets[0].Rules[1].On.Kind = 4 }, api.ErrKind},
		{"a rule's letter", func(d *api.Data) { d.Sets[0].Rules[1].Letter = "-" }, api.ErrName},
		{"no era's set", func(d *api.Data) { d.Zones[0].Eras[1].Set = 1 }, api.ErrRange},
		{"no format", func(d *api.Data) { d.Zones[0].Eras[1].Format = "A\nB" }, api.ErrForm},
		{"a link to nothing", func(d *api.Data) { d.Links[0].To = "no" }, api.ErrNone},
		{"a link to itself", func(d *api.Data) { d.Links[0].To = "T" }, api.ErrRound},
		{"no name, and a link to itself", func(d *api.Data) { d.Links[0].To, d.Sets[0].Name = "T", "" }, api.ErrName},
	} {
		d := europe()
		x.do(&d)
		if s, e := source.Show(d); s != "" || e != x.want || e != data.Check(d) {
			t.Errorf("%s: Show = %q, %d, want none, %d", x.what, s, e, x.want)
		}
	}
}

func TestReadErrors(t *testing.T) { // G1: texts as which no data are shown
	const era = "era 0 -1 0 XT 1893456000\n"
	const rule = "rule 1980 2029 3 2 0 0 7200 3600 D\n"
	for what, s := range map[string]string{
		"a line feed": "\n", "a blank": " ", "no such line": "town T\n", "a line feed ahead": "\nzone A\n" + era,
		"a line feed behind": "zone A\n" + era + "\n", "a line feed within": "zone A\n\n" + era, "no line feed": "zone A\nera 0 -1 0 XT 1893456000",
		"other line feeds": "zone A\r\nera 0 -1 0 XT 1893456000\r\n", "a zero byte": "zone A\n" + era + "\x00",
		"a blank ahead": " zone A\n" + era, "a blank behind": "zone A \n" + era, "two blanks": "zone  A\n" + era, "a tab": "zone\tA\n" + era,
		"a blank behind numbers": "zone A\nera 0 -1 0 XT 1893456000 \n", "a word behind": "zone A\nera 0 -1 0 XT 1893456000 0\n",
		"0 ahead": "zone A\nera 00 -1 0 XT 1893456000\n", "+ ahead": "zone A\nera +0 -1 0 XT 1893456000\n", "- ahead of 0": "zone A\nera -0 -1 0 XT 1893456000\n",
		"0 ahead of -": "zone A\nera -01 -1 0 XT 1893456000\n", "two -": "zone A\nera --1 -1 0 XT 1893456000\n", "- alone": "zone A\nera - -1 0 XT 1893456000\n",
		"hexadecimal": "zone A\nera 0x0 -1 0 XT 1893456000\n", "underlined": "zone A\nera 1_0 -1 0 XT 1893456000\n", "no number": "zone A\nera a -1 0 XT 1893456000\n",
		"beyond all numbers": "zone A\nera 9223372036854775808 -1 0 XT 1893456000\n", "round the numbers": "zone A\nera 18446744073709551616 -1 0 XT 1893456000\n",
		"other digits":      "zone A\nera \u0661 -1 0 XT 1893456000\n",
		"a word is missing": "zone A\nera 0 -1 0 XT\n", "an empty word": "zone A\nera 0 -1  XT 1893456000\n", "a zone without a name": "zone\n" + era, "a zone with an empty name": "zone \n" + era,
		"an era of no zone": era, "a rule of no set": rule, "a rule behind a zone": "set s\n" + "zone A\n" + rule + era, "an era behind a set": "zone A\n" + "set s\n" + era + rule,
		"a zone without eras": "zone A\n", "a set without rules": "set s\n", "a set behind a zone": "zone A\n" + era + "set s\n" + rule,
		"a link ahead": "link B A\nzone A\n" + era, "a link between": "zone A\n" + era + "link C A\nzone B\n" + era, "a link to nothing": "link A B\n",
		"a link round": "link A B\nlink B A\n", "a link without an end": "zone A\n" + era + "link B\n",
		"a zone twice": "zone A\n" + era + "zone A\n" + era, "too many sets": "set a\n" + rule + "set b\n" + rule + "set c\n" + rule + "set d\n" + rule,
		"too many eras":  "zone A\nera 0 -1 0 XT 1\nera 0 -1 0 XT 2\nera 0 -1 0 XT 3\nera 0 -1 0 XT 4\n" + era,
		"too many rules": "set s\n" + rule + rule + rule + rule + rule, "a format": "zone A\nera 0 -1 0 %s%s 1893456000\n", "an end": "zone A\nera 0 -1 0 XT 1893455999\n",
		"no such set": "zone A\nera 0 0 0 XT 1893456000\n", "other case": "Zone A\n" + era, "a rule's day": "set s\nrule 1980 2029 2 1 0 30 0 0 -\n",
	} {
		refused(t, what, s, api.ErrForm)
	}
}

func TestReadNothingElse(t *testing.T) { // G2: a text that is read is shown, whatever has become of it
	r := rand.New(rand.NewSource(7))
	const bytes = "0123456789 -\n+%sABerzltu"
	read := 0
	for range 60000 {
		b := []byte([]string{europeText, apartText}[r.Intn(2)])
		for range 1 + r.Intn(2) {
			i, c := r.Intn(len(b)), bytes[r.Intn(len(bytes))]
			switch r.Intn(3) {
			case 0:
				b[i] = c
			case 1:
				b = slices.Insert(b, i, c)
			default:
				b = slices.Delete(b, i, i+1)
			}
		}
		d, e := source.Read(string(b))
		if e == api.ErrForm && reflect.DeepEqual(d, api.Data{}) {
			continue
		}
		read++
		if s, f := source.Show(d); e != api.OK || f != api.OK || s != string(b) {
			t.Errorf("Read(%q) = %v, %d, shown as %q, %d", b, d, e, s, f)
		}
	}
	if read < 1000 {
		t.Errorf("only %d texts are read", read)
	}
}

func TestReadLines(t *testing.T) { // G2: lines that trade places, or stand twice, or not at all
	lines := strings.SplitAfter(strings.TrimSuffix(apartText, "\n"), "\n")
	lines[len(lines)-1] += "\n"
	try := func(l []string) {
		s := strings.Join(l, "")
		if d, e := source.Read(s); e == api.OK {
			if shown, _ := source.Show(d); shown != s {
				t.Errorf("%q is read, and shown as %q", s, shown)
			}
		} else if e != api.ErrForm || !reflect.DeepEqual(d, api.Data{}) {
			t.Errorf("Read(%q) = %v, %d", s, d, e)
		}
	}
	for i := range lines {
		try(slices.Delete(slices.Clone(lines), i, i+1))
		try(lines[i:])
		try(lines[:i])
		for k := range lines {
			l := slices.Clone(lines)
			l[i], l[k] = l[k], l[i]
			try(l)
			try(slices.Insert(slices.Clone(lines), i, lines[k]))
		}
	}
}

// drawn makes right data by chance.
func drawn(r *rand.Rand) api.Data {
	text := func(least int) string { return strings.Repeat("abcXYZ", 2)[:least+r.Intn(api.MaxName+1-least)] }
	var d api.Data
	for i := range r.Intn(api.MaxSets + 1) {
		s := api.Set{Name: "s" + strconv.Itoa(i)}
		for range 1 + r.Intn(api.MaxRules) {
			from := 1970 + r.Intn(60)
			on := []api.On{{Kind: api.Exact, Day: 1 + r.Intn(28)}, {Kind: api.Last, Week: r.Intn(7)}, {Kind: api.After, Week: r.Intn(7), Day: 1 + r.Intn(22)}}[r.Intn(3)]
			s.Rules = append(s.Rules, api.Rule{From: from, To: from + r.Intn(2030-from), Month: 1 + r.Intn(12), On: on, At: r.Intn(api.DaySecs + 1), Save: r.Intn(api.MaxSave + 1), Letter: text(0)})
		}
		d.Sets = append(d.Sets, s)
	}
	for i := range r.Intn(api.MaxZones + 1) {
		z := api.Zone{Name: "z" + strconv.Itoa(i)}
		n := 1 + r.Intn(api.MaxEras)
		for k := range n {
			era := api.Era{Std: r.Intn(2*api.MaxStd+1) - api.MaxStd, Set: r.Intn(len(d.Sets)+1) - 1, Format: text(1), Until: api.EndTime / n * (k + 1)}
			if era.Set < 0 {
				era.Save = r.Intn(api.MaxSave + 1)
			}
			z.Eras = append(z.Eras, era)
		}
		z.Eras[n-1].Until = api.EndTime
		d.Zones = append(d.Zones, z)
		if i < api.MaxLinks && r.Intn(2) == 0 {
			d.Links = append(d.Links, api.Link{Name: "l" + z.Name, To: z.Name})
		}
	}
	return d
}

func TestDrawn(t *testing.T) { // G2: what is shown is read as it was
	r := rand.New(rand.NewSource(1))
	for range 3000 {
		d := drawn(r)
		s, e := source.Show(d)
		if e != api.OK {
			t.Fatalf("Show(%v) = %d", d, e)
		}
		if x, e := source.Read(s); !same(x, d) || e != api.OK {
			t.Fatalf("%q is read as\n%v, %d, was\n%v", s, x, e, d)
		}
	}
}

func TestExtremes(t *testing.T) { // P1: numbers at the ends of what there is
	for _, n := range []int{math.MinInt, math.MinInt32, -1, math.MaxInt32, math.MaxInt} {
		for i, do := range []func(d *api.Data){
			func(d *api.Data) { d.Sets[0].Rules[0].To = n },
			func(d *api.Data) { d.Sets[0].Rules[0].At = n },
			func(d *api.Data) { d.Zones[0].Eras[0].Until = n },
			func(d *api.Data) { d.Zones[0].Eras[0].Save = n },
		} {
			d := europe()
			do(&d)
			if s, e := source.Show(d); s != "" || e != api.ErrRange {
				t.Errorf("%d of %d: Show = %q, %d, want none, 3", i, n, s, e)
			}
		}
		refused(t, "a number", "zone A\nera 0 -1 0 XT "+strconv.Itoa(n)+"\n", api.ErrForm)
	}
}

// roomy has spare room behind each list, with something in it.
func roomy() api.Data {
	d := europe()
	d.Sets = append(d.Sets, api.Set{Name: "spare"})[:1]
	d.Sets[0].Rules = append(d.Sets[0].Rules, api.Rule{Letter: "spare"})[:2]
	d.Zones = append(d.Zones, api.Zone{Name: "spare"})[:2]
	d.Zones[1].Eras = append(d.Zones[1].Eras, api.Era{Format: "spare"})[:1]
	d.Links = append(d.Links, api.Link{Name: "spare"})[:2]
	return d
}

func TestOnlyRead(t *testing.T) { // P2: data are as they were, the spare room too
	d := roomy()
	both(t, "with spare room", d, europeText)
	if !same(d, europe()) {
		t.Errorf("data have become %v", d)
	}
	if d.Sets[:2][1].Name != "spare" || d.Sets[0].Rules[:3][2].Letter != "spare" || d.Zones[:3][2].Name != "spare" || d.Zones[1].Eras[:2][1].Format != "spare" || d.Links[:3][2].Name != "spare" {
		t.Error("spare room was written to")
	}
}

func TestNewMemory(t *testing.T) { // P2: what was read is the caller's, list by list
	a, _ := source.Read(apartText)
	b, _ := source.Read(apartText)
	a.Sets[0].Rules[0].From = 1
	a.Zones[0].Eras[0].Std = 9
	a.Links[0].To = "q"
	for _, l := range [][]api.Rule{a.Sets[0].Rules, a.Sets[1].Rules} {
		_ = append(l, api.Rule{Letter: "more"})
	}
	for _, l := range [][]api.Era{a.Zones[0].Eras, a.Zones[1].Eras} {
		_ = append(l, api.Era{Format: "MORE"})
	}
	_, _, _ = append(a.Sets, api.Set{}), append(a.Zones, api.Zone{}), append(a.Links, api.Link{})
	if !same(b, apart()) {
		t.Errorf("another answer has become %v", b)
	}
	a.Sets[0].Rules[0].From, a.Zones[0].Eras[0].Std, a.Links[0].To = 1971, 1, "m"
	if !same(a, apart()) {
		t.Errorf("lists share memory: %v", a)
	}
}

func TestAgain(t *testing.T) { // P3: calls tell the same whatever was asked ahead
	for range 3 {
		both(t, "again", europe(), europeText)
		refused(t, "again", europeText+" ", api.ErrForm)
		refused(t, "again", strings.Repeat(europeText, 20), api.ErrMany)
	}
}
