package back_test

import (
	"math"
	"reflect"
	"slices"
	"strings"
	"testing"

	"gnomon/api"
	"gnomon/back"
	"gnomon/names"
)

// march is when the rules of globe begin to save in 2020.
const march = 1585443600

func rule(month, save int, letter string) api.Rule {
	return api.Rule{From: 1980, To: 2029, Month: month, On: api.On{Kind: api.Last}, At: 7200, Save: save, Letter: letter}
}

// still is an era without rules, for all times.
func still(std, save int) []api.Era {
	return []api.Era{{Std: std, Set: -1, Save: save, Format: "XT", Until: api.EndTime}}
}

// globe is a world: a zone with rules, one that saves always, and links.
func globe() api.World {
	return api.World{
		Data: api.Data{
			Sets: []api.Set{{Name: "eu", Rules: []api.Rule{rule(3, 3600, "D"), rule(10, 0, "S")}}},
			Zones: []api.Zone{
				{Name: "E/Old_Town", Eras: []api.Era{
					{Std: 1800, Set: -1, Format: "LMT", Until: 500000000},
					{Std: 3600, Set: 0, Format: "CE%sT", Until: api.EndTime},
				}},
				{Name: "A/West", Eras: still(-18000, 3600)},
			},
			Links: []api.Link{{Name: "T", To: "Town"}, {Name: "Town", To: "E/Old_Town"}},
		},
		Uses: []api.Use{
			{Zone: "E/Old_Town", From: 500000000, To: api.EndTime, Meta: "mid"},
			{Zone: "A/West", From: 0, To: 1000, Meta: "mid"},
		},
		Books: []api.Book{
			{Locale: "root", Parent: -1, Pairs: []api.Pair{{Key: "A/West", Text: "West!"}, {Key: "mid/d", Text: "MDT"}, {Key: "mid/s", Text: "MST"}}},
			{Locale: "xx", Parent: 0, Pairs: []api.Pair{{Key: "A/West"}, {Key: "mid/s", Text: "GMT-4"}}},
		},
	}
}

// towns is a world of a zone for each text, which calls it ByCity; their names fall.
func towns(texts ...string) api.World {
	zones := []string{"e", "d", "D", "C", "B"}
	w := api.World{Books: []api.Book{{Locale: "root", Parent: -1}}}
	for i, text := range texts {
		w.Data.Zones = append(w.Data.Zones, api.Zone{Name: zones[i], Eras: still(0, 0)})
		w.Books[0].Pairs = slices.Insert(w.Books[0].Pairs, 0, api.Pair{Key: zones[i], Text: text})
	}
	return w
}

// clocks is a world of a zone for each offset; their names rise.
func clocks(l ...int) api.World {
	w := api.World{Books: []api.Book{{Locale: "root", Parent: -1}}}
	for i, std := range l {
		w.Data.Zones = append(w.Data.Zones, api.Zone{Name: "abcde"[i : i+1], Eras: still(std, 0)})
	}
	return w
}

func words(t *testing.T, w api.World, locale string, at, pattern int, want []string, err api.Errno) {
	t.Helper()
	if l, e := back.Words(w, locale, at, pattern); !slices.Equal(l, want) || e != err {
		t.Errorf("Words(%q, %d, %d) = %q, %d, want %q, %d", locale, at, pattern, l, e, want, err)
	}
}

func parse(t *testing.T, w api.World, locale, s string, at, pattern, n int, want []string, err api.Errno) {
	t.Helper()
	if m, l, e := back.Parse(w, locale, s, at, pattern); m != n || !slices.Equal(l, want) || e != err {
		t.Errorf("Parse(%q, %q, %d, %d) = %d, %q, %d, want %d, %q, %d", locale, s, at, pattern, m, l, e, n, want, err)
	}
}

// refused asks both calls for an error.
func refused(t *testing.T, w api.World, locale string, at, pattern int, want api.Errno) {
	t.Helper()
	words(t, w, locale, at, pattern, nil, want)
	for _, s := range []string{"", "MST", "GMT+1"} {
		parse(t, w, locale, s, at, pattern, 0, nil, want)
	}
}

func TestExample(t *testing.T) { // M1: of MSTx three bytes are taken
	parse(t, globe(), "root", "MSTx", 600000000, api.ByName, 3, []string{"E/Old_Town"}, api.OK)
}

func TestWords(t *testing.T) { // M1: of each zone, in order, but of no link, at both ends of time and between
	for _, x := range []struct {
		locale      string
		at, pattern int
		want        []string
	}{
		{"root", 0, api.ByOff, []string{"GMT+0:30", "GMT-4"}},
		{"root", march, api.ByOff, []string{"GMT+2", "GMT-4"}},
		{"root", api.EndTime - 1, api.ByOff, []string{"GMT+1", "GMT-4"}},
		{"root", 0, api.ById, []string{"E/Old_Town", "A/West"}},
		{"xx", api.EndTime - 1, api.ById, []string{"E/Old_Town", "A/West"}},
		{"root", 0, api.ByName, []string{"GMT+0:30", "MDT"}},
		{"root", 1000, api.ByName, []string{"GMT+0:30", "GMT-4"}},
		{"root", march - 1, api.ByName, []string{"MST", "GMT-4"}},
		{"root", march, api.ByName, []string{"MDT", "GMT-4"}},
		{"xx", march - 1, api.ByName, []string{"GMT-4", "GMT-4"}},
		{"xx", march, api.ByName, []string{"MDT", "GMT-4"}},
		{"root", 0, api.ByCity, []string{"Old Town", "West!"}},
		{"xx", api.EndTime - 1, api.ByCity, []string{"Old Town", "West"}},
	} {
		words(t, globe(), x.locale, x.at, x.pattern, x.want, api.OK)
	}
	words(t, towns("z", "a", "z", "m", "b"), "root", 0, api.ByCity, []string{"z", "a", "z", "m", "b"}, api.OK)
	words(t, clocks(0, 59, -59, 60, -60), "root", 0, api.ByOff, []string{"GMT", "GMT", "GMT", "GMT+0:01", "GMT-0:01"}, api.OK)
}

func TestWorldErrors(t *testing.T) { // M1: names.Check's errors are told first
	for i, do := range []func(w *api.World){
		func(w *api.World) { w.Data.Zones = make([]api.Zone, api.MaxZones+1) },
		func(w *api.World) { w.Data.Zones = nil },
		func(w *api.World) { w.Data.Sets[0].Name = "1" },
		func(w *api.World) { w.Data.Zones[0].Name = "T" },
		func(w *api.World) { w.Data.Sets[0].Rules[1].On.Kind = 0 },
		func(w *api.World) { w.Data.Zones[1].Eras[0].Until = 5 },
		func(w *api.World) { w.Data.Zones[1].Eras[0].Format = "" },
		func(w *api.World) { w.Data.Links[1].To = "X" },
		func(w *api.World) { w.Data.Links[1].To = "T" },
		func(w *api.World) { w.Data = api.Data{Links: []api.Link{{Name: "T", To: "X"}}} },
		func(w *api.World) { w.Data = api.Data{} },
		func(w *api.World) { w.Uses[0].Zone = "X" },
		func(w *api.World) { w.Uses[0].Meta = "" },
		func(w *api.World) { w.Uses[1].To = 0 },
		func(w *api.World) { w.Uses = append(w.Uses, w.Uses[0]) },
		func(w *api.World) { w.Books = make([]api.Book, api.MaxBooks+1) },
		func(w *api.World) { w.Books[1].Locale = "root" },
		func(w *api.World) { w.Books[1].Parent = 1 },
	} {
		w := globe()
		do(&w)
		want := names.Check(w)
		if want == api.OK {
			t.Fatalf("wrong world %d is right", i)
		}
		refused(t, w, "root", 0, api.ByName, want)
		refused(t, w, "no", 0, api.ByName, want)
		refused(t, w, "root", -1, api.ByName, want)
		refused(t, w, "root", 0, 0, want)
	}
}

func TestErrors(t *testing.T) { // M1: ErrKind, then ErrNone of locales, then ErrRange, of worlds without zones too
	times := []int{math.MinInt, -1, api.EndTime, math.MaxInt}
	all := append([]int{0, march, api.EndTime - 1}, times...)
	for _, w := range []api.World{globe(), {Books: globe().Books}, {Data: api.Data{Sets: globe().Data.Sets}, Books: globe().Books}} {
		for _, at := range all {
			for _, pattern := range []int{math.MinInt, 0, 5, math.MaxInt} {
				refused(t, w, "root", at, pattern, api.ErrKind)
				refused(t, w, "no", at, pattern, api.ErrKind)
			}
			for pattern := api.ByOff; pattern <= api.ByCity; pattern++ {
				for _, locale := range []string{"", "no", "Root", "roo", "X", "E/Old_Town", strings.Repeat("r", 1<<16)} {
					refused(t, w, locale, at, pattern, api.ErrNone)
				}
			}
		}
		for _, at := range times {
			for pattern := api.ByOff; pattern <= api.ByCity; pattern++ {
				refused(t, w, "root", at, pattern, api.ErrRange)
			}
		}
	}
	refused(t, api.World{}, "root", -1, api.ByOff, api.ErrNone)
	refused(t, api.World{}, "", 0, 0, api.ErrKind)
	refused(t, api.World{Data: globe().Data, Uses: globe().Uses}, "root", 0, api.ById, api.ErrNone)
}

func TestNoZones(t *testing.T) { // M1: no words, and no error of zones
	w := api.World{Books: globe().Books}
	for pattern := api.ByOff; pattern <= api.ByCity; pattern++ {
		for _, at := range []int{0, march, api.EndTime - 1} {
			words(t, w, "xx", at, pattern, nil, api.OK)
			for _, s := range []string{"", "X", "GMT", "MST", "West!"} {
				parse(t, w, "xx", s, at, pattern, 0, nil, api.OK)
			}
		}
	}
}

func TestParse(t *testing.T) { // M1: by each pattern, with something behind and without, and where no beginning is a word
	old, west := []string{"E/Old_Town"}, []string{"A/West"}
	both := []string{"A/West", "E/Old_Town"}
	for _, x := range []struct {
		locale, s   string
		at, pattern int
		n           int
		want        []string
	}{
		{"root", "GMT+0:30", 0, api.ByOff, 8, old}, {"root", "GMT+0:300", 0, api.ByOff, 8, old}, {"root", "GMT+0:3", 0, api.ByOff, 0, nil},
		{"root", "GMT-4:30", 0, api.ByOff, 5, west}, {"root", "GMT", 0, api.ByOff, 0, nil}, {"root", "", 0, api.ByOff, 0, nil},
		{"root", " GMT-4", 0, api.ByOff, 0, nil}, {"root", "gmt-4", 0, api.ByOff, 0, nil}, {"root", "GMT-04", 0, api.ByOff, 0, nil},
		{"root", "GMT+2", march, api.ByOff, 5, old}, {"root", "GMT+2", march - 1, api.ByOff, 0, nil}, {"root", "GMT+1", api.EndTime - 1, api.ByOff, 5, old},
		{"root", "E/Old_Town/A/West", 0, api.ById, 10, old}, {"root", "A/West", 0, api.ById, 6, west}, {"root", "Town", 0, api.ById, 0, nil}, {"root", "T", 0, api.ById, 0, nil},
		{"root", "MDT", 0, api.ByName, 3, west}, {"root", "MDT", march, api.ByName, 3, old}, {"root", "MDT", march - 1, api.ByName, 0, nil}, {"root", "mid/s", march, api.ByName, 0, nil},
		{"xx", "GMT-4", march - 1, api.ByName, 5, both}, {"xx", "GMT-4MDT", march, api.ByName, 5, west},
		{"root", "West!end", 0, api.ByCity, 5, west}, {"root", "West", 0, api.ByCity, 0, nil}, {"xx", "West!", 0, api.ByCity, 4, west}, {"xx", "Old Town", 0, api.ByCity, 8, old}, {"xx", "Old_Town", 0, api.ByCity, 0, nil},
	} {
		parse(t, globe(), x.locale, x.s, x.at, x.pattern, x.n, x.want, api.OK)
	}
}

func TestParseLongest(t *testing.T) { // M1: words of which one begins another one
	l := clocks(0, 3600, 36000, 5400, -3600)
	for s, want := range map[string]string{
		"GM": "", "GMT": "a", "GMT+": "a", "GMT-": "a", "GMT-1": "e", "GMT-1:30": "e", "GMT+1": "b", "GMT+10": "c", "GMT+101": "c",
		"GMT+1:": "b", "GMT+1:3": "b", "GMT+1:30": "d", "GMT+1:300": "d", "GMT+11": "b", "GMT+2": "a", "GMT+GMT+1": "a", "xGMT": "",
	} {
		n, zones := 0, []string(nil)
		if want != "" {
			zones = []string{want}
			n = map[string]int{"a": 3, "b": 5, "c": 6, "d": 8, "e": 5}[want]
		}
		parse(t, l, "root", s, 0, api.ByOff, n, zones, api.OK)
	}
	w := towns("abc", "a", "ab", "abcdefghijkl", "b")
	for s, want := range map[string]string{"a": "d", "ab": "D", "abc": "e", "abd": "D", "abcd": "e", "abcdefghijk": "e", "abcdefghijkl": "C", "abcdefghijklm": "C", "b": "B", "bb": "B"} {
		n := map[string]int{"e": 3, "d": 1, "D": 2, "C": 12, "B": 1}[want]
		parse(t, w, "root", s, 0, api.ByCity, n, []string{want}, api.OK)
	}
	parse(t, w, "root", "c", 0, api.ByCity, 0, nil, api.OK)
}

func TestParseAlike(t *testing.T) { // M1: all zones whose word that is, rising by their bytes, and no other ones
	parse(t, towns("a", "a", "a", "a", "a"), "root", "ab", 0, api.ByCity, 1, []string{"B", "C", "D", "d", "e"}, api.OK)
	w := towns("a", "ab", "a", "ab", "abc")
	parse(t, w, "root", "a", 0, api.ByCity, 1, []string{"D", "e"}, api.OK)
	parse(t, w, "root", "ab", 0, api.ByCity, 2, []string{"C", "d"}, api.OK)
	parse(t, w, "root", "abcd", 0, api.ByCity, 3, []string{"B"}, api.OK)
	parse(t, clocks(59, -59, 60, 0, -61), "root", "GMT-0", 0, api.ByOff, 3, []string{"a", "b", "d"}, api.OK)
}

func TestParseBytes(t *testing.T) { // M1: words of any bytes, and a text far longer than all of them
	for c := range 256 {
		s := string([]byte{byte(c)})
		parse(t, towns(s+s, s), "root", s, 0, api.ByCity, 1, []string{"d"}, api.OK)
		parse(t, towns(s+s, s), "root", s+s+s, 0, api.ByCity, 2, []string{"e"}, api.OK)
		parse(t, towns(s+"\x00", s+"\xff"), "root", s, 0, api.ByCity, 0, nil, api.OK)
	}
	parse(t, towns("é", "\xc3"), "root", "è", 0, api.ByCity, 1, []string{"d"}, api.OK)
	parse(t, towns("aaaaaaaaaaaa", "a"), "root", strings.Repeat("a", 1<<20), 0, api.ByCity, 12, []string{"e"}, api.OK)
}

// byHand tells what Parse must, by holding all words against the text, one by one.
func byHand(l []api.Zone, words []string, s string) (int, []string) {
	n := 0
	for _, word := range words {
		if strings.HasPrefix(s, word) {
			n = max(n, len(word))
		}
	}
	var zones []string
	for i, z := range l {
		if n > 0 && words[i] == s[:n] {
			zones = append(zones, z.Name)
		}
	}
	slices.Sort(zones)
	return n, zones
}

func TestOnlyRead(t *testing.T) { // P2: the world is as it was, the spare room too
	full := func() api.World {
		w := globe()
		w.Data.Zones = append(w.Data.Zones, api.Zone{Name: "spare"})
		w.Uses = append(w.Uses, api.Use{Zone: "spare"})
		w.Books = append(w.Books, api.Book{Locale: "spare"})
		return w
	}
	given := full()
	w := given
	w.Data.Zones, w.Uses, w.Books = w.Data.Zones[:2], w.Uses[:2], w.Books[:2]
	for pattern := api.ByOff; pattern <= api.ByCity; pattern++ {
		back.Words(w, "xx", march-1, pattern)
		back.Parse(w, "xx", "GMT-4", march-1, pattern)
	}
	parse(t, w, "xx", "GMT-4", march-1, api.ByName, 5, []string{"A/West", "E/Old_Town"}, api.OK)
	words(t, w, "spare", 0, api.ById, nil, api.ErrNone)
	if !reflect.DeepEqual(given, full()) {
		t.Errorf("the world has become %v", given)
	}
}

func TestNewMemory(t *testing.T) { // P2: no two answers share memory, and none is touched by what becomes of the world
	w := globe()
	a, _ := back.Words(w, "root", 0, api.ById)
	b, _ := back.Words(w, "root", 0, api.ById)
	_, c, _ := back.Parse(w, "xx", "GMT-4", march-1, api.ByName)
	_, d, _ := back.Parse(w, "xx", "GMT-4", march-1, api.ByName)
	a[0], c[0] = "x", "x"
	w.Data.Zones[0].Name, w.Data.Zones[1].Name = "y", "z"
	if !slices.Equal(b, []string{"E/Old_Town", "A/West"}) || !slices.Equal(d, []string{"A/West", "E/Old_Town"}) {
		t.Errorf("answers have become %q and %q", b, d)
	}
}

func TestAgain(t *testing.T) { // P3: calls tell the same whatever was asked ahead
	for range 3 {
		parse(t, globe(), "root", "MSTx", 600000000, api.ByName, 3, []string{"E/Old_Town"}, api.OK)
		parse(t, globe(), "xx", "MSTx", 600000000, api.ByName, 0, nil, api.OK)
		parse(t, towns("M", "MSTx"), "root", "MSTx", 600000000, api.ByCity, 4, []string{"d"}, api.OK)
		words(t, globe(), "no", 0, api.ById, nil, api.ErrNone)
		words(t, globe(), "root", 0, api.ById, []string{"E/Old_Town", "A/West"}, api.OK)
	}
}
