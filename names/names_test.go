package names_test

import (
	"math"
	"math/rand"
	"reflect"
	"strings"
	"testing"

	"gnomon/api"
	"gnomon/books"
	"gnomon/data"
	"gnomon/names"
	"gnomon/uses"
)

// march is when the rules of globe begin to save in 2020.
const march = 1585443600

func rule(month, save int, letter string) api.Rule {
	return api.Rule{From: 1980, To: 2029, Month: month, On: api.On{Kind: api.Last}, At: 7200, Save: save, Letter: letter}
}

// still is an era without rules, for all times.
func still(std, save int) []api.Era {
	return []api.Era{{Std: std, Set: -1, Save: save, Format: "XT", Until: api.EndTime}}
}

// globe is a world: a zone with rules, one that saves always, one that has no use, and links.
func globe() api.World {
	return api.World{
		Data: api.Data{
			Sets: []api.Set{{Name: "eu", Rules: []api.Rule{rule(3, 3600, "D"), rule(10, 0, "S")}}},
			Zones: []api.Zone{
				{Name: "E/Old_Town", Eras: []api.Era{
					{Std: 1800, Set: -1, Format: "LMT", Until: 500000000},
					{Std: 3600, Set: 0, Format: "CE%sT", Until: api.EndTime},
				}},
				{Name: "A/West", Eras: still(-18000, 3600)},
				{Name: "B", Eras: still(5400, 0)},
			},
			Links: []api.Link{{Name: "T", To: "Town"}, {Name: "Town", To: "E/Old_Town"}, {Name: "West", To: "A/West"}},
		},
		Uses: []api.Use{
			{Zone: "E/Old_Town", From: 500000000, To: api.EndTime, Meta: "mid"},
			{Zone: "A/West", From: 0, To: 1000, Meta: "mid"},
			{Zone: "A/West", From: 1000, To: api.EndTime, Meta: "pac"},
		},
		Books: []api.Book{
			{Locale: "root", Parent: -1, Pairs: []api.Pair{{Key: "A/West", Text: "West!"}, {Key: "Town", Text: "link"}, {Key: "mid/d", Text: "MDT"}, {Key: "mid/s", Text: "MST"}}},
			{Locale: "xx", Parent: 0, Pairs: []api.Pair{{Key: "A/West"}, {Key: "B", Text: "Bee"}, {Key: "mid/s", Text: "mst"}}},
			{Locale: "yy", Parent: 1, Pairs: []api.Pair{{Key: "mid/d"}}},
			{Locale: "bare", Parent: -1},
		},
	}
}

// lone is a world of one zone, which is called by a Meta at all times, if there is one, and of one book.
func lone(zone string, std, save int, meta string, l ...api.Pair) api.World {
	w := api.World{
		Data:  api.Data{Zones: []api.Zone{{Name: zone, Eras: still(std, save)}}},
		Books: []api.Book{{Locale: "root", Parent: -1, Pairs: l}},
	}
	if meta != "" {
		w.Uses = []api.Use{{Zone: zone, To: api.EndTime, Meta: meta}}
	}
	return w
}

func name(t *testing.T, w api.World, locale, zone string, at, pattern int, want string, err api.Errno) {
	t.Helper()
	if s, e := names.Name(w, locale, zone, at, pattern); s != want || e != err {
		t.Errorf("Name(%q, %q, %d, %d) = %q, %d, want %q, %d", locale, zone, at, pattern, s, e, want, err)
	}
}

// told asks both calls of a world that is wrong: Name tells what Check tells, ahead of what it has to say of the rest.
func told(t *testing.T, what string, w api.World, want api.Errno) {
	t.Helper()
	if e := names.Check(w); e != want {
		t.Errorf("%s: Check = %d, want %d", what, e, want)
	}
	if want == api.OK {
		return
	}
	name(t, w, "root", "T", 0, api.ById, "", want)
	for _, locale := range []string{"root", "no"} {
		for _, zone := range []string{"B", "no"} {
			name(t, w, locale, zone, -1, api.ByName, "", want)
			name(t, w, locale, zone, 0, 0, "", want)
		}
	}
}

func TestCheckRight(t *testing.T) { // L1: whatever uses.Check and books.Check let pass
	told(t, "as it is", globe(), api.OK)
	told(t, "nothing", api.World{}, api.OK)
	for what, do := range map[string]func(w *api.World){
		"no uses":              func(w *api.World) { w.Uses = nil },
		"no books":             func(w *api.World) { w.Books = nil },
		"no links":             func(w *api.World) { w.Data.Links = []api.Link{} },
		"texts of no zone":     func(w *api.World) { w.Books[0].Pairs = []api.Pair{{Key: "none/s", Text: "none"}} },
		"a Meta without texts": func(w *api.World) { w.Uses[0].Meta = "none" },
	} {
		w := globe()
		do(&w)
		told(t, what, w, api.OK)
	}
}

// wrongs are worlds that are wrong: those of uses.Check first, in the order of their errors, then those of books.Check.
func wrongs() []func(w *api.World) {
	return []func(w *api.World){
		func(w *api.World) { w.Data.Zones = make([]api.Zone, api.MaxZones+1) },
		func(w *api.World) { w.Data.Sets[0].Name = "1" },
		func(w *api.World) { w.Data.Links[2].Name = "B" },
		func(w *api.World) { w.Data.Sets[0].Rules[1].Month = 13 },
		func(w *api.World) { w.Data.Zones[2].Eras[0].Until = 5 },
		func(w *api.World) { w.Data.Zones[2].Eras[0].Format = "" },
		func(w *api.World) { w.Data.Links[2].To = "none" },
		func(w *api.World) { w.Data.Links[1].To = "T" },
		func(w *api.World) { w.Uses = append(w.Uses, make([]api.Use, api.MaxUses)...) },
		func(w *api.World) { w.Uses[0].Meta = "" },
		func(w *api.World) { w.Uses[0].Zone = "Town" },
		func(w *api.World) { w.Uses[1].From = -1 },
		func(w *api.World) { w.Uses[1].To = 1001 },
		func(w *api.World) { w.Books = append(w.Books, api.Book{Locale: "more", Parent: -1}) },
		func(w *api.World) { w.Books[0].Pairs[0].Key = "1" },
		func(w *api.World) { w.Books[3].Locale = "root" },
		func(w *api.World) { w.Books[1].Parent = 1 },
	}
}

func TestCheckWrong(t *testing.T) { // L1, L2, P1: uses.Check's errors, then books.Check's; of two the one that is named first
	firstOfBooks := 13
	for i, do := range wrongs() {
		w := globe()
		do(&w)
		want := uses.Check(w.Data, w.Uses)
		if i >= firstOfBooks {
			if want != api.OK {
				t.Fatalf("wrong world %d: uses.Check = %d", i, want)
			}
			want = books.Check(w.Books)
		}
		if want == api.OK {
			t.Fatalf("wrong world %d is right", i)
		}
		told(t, "one error", w, want)
		if i >= firstOfBooks {
			continue
		}
		for _, also := range wrongs()[firstOfBooks:] {
			w := globe()
			do(&w)
			also(&w)
			told(t, "two errors", w, want)
		}
	}
}

func TestCity(t *testing.T) { // L1: names with and without /, with _
	for s, want := range map[string]string{
		"A": "A", "a": "a", "A/b": "b", "A/b/c": "c", "A//b": "b", "A/b_c/d_e": "d e", "a_b": "a b", "a__b": "a  b",
		"E/Old_Town": "Old Town", "A_b/c": "c", "a_": "a ", "A/_": " ", "A/_b_": " b ", "A/1": "1", "A/+1": "+1", "A+b-c": "A+b-c",
		"A/b-c+1": "b-c+1", "abcdefghijkl": "abcdefghijkl", "A/_________z": "         z", "A/////////zz": "zz",
	} {
		if c, e := names.City(s); c != want || e != api.OK {
			t.Errorf("City(%q) = %q, %d, want %q, 0", s, c, e, want)
		}
	}
}

func TestCityOfNoName(t *testing.T) { // L1: ErrName
	for _, s := range []string{"", "/", "_", "A/", "a/b/", "1", "/a", "_a", "a b", "A/b c", "é", "a\n", "a\x00", "abcdefghijklm", strings.Repeat("a/b_", 1<<16) + "a"} {
		if c, e := names.City(s); c != "" || e != api.ErrName {
			t.Errorf("City(%q) = %q, %d, want none, %d", s, c, e, api.ErrName)
		}
	}
}

func TestCityOfAll(t *testing.T) { // L1: every text of few signs, held against what is seen byte by byte
	signs := "aZ0/_ "
	var each func(s string, more int)
	each = func(s string, more int) {
		city, want := "", api.ErrName
		if data.Name(s) {
			want = api.OK
			for i := len(s) - 1; i >= 0 && s[i] != '/'; i-- {
				c := s[i]
				if c == '_' {
					c = ' '
				}
				city = string(c) + city
			}
		}
		if c, e := names.City(s); c != city || e != want {
			t.Errorf("City(%q) = %q, %d, want %q, %d", s, c, e, city, want)
		}
		for i := 0; i < len(signs) && more > 0; i++ {
			each(s+signs[i:i+1], more-1)
		}
	}
	each("", 5)
}

func TestExample(t *testing.T) { // L2: saved it is MDT, else mst, and GMT+0:30 ahead of all that
	name(t, globe(), "xx", "E/Old_Town", march, api.ByName, "MDT", api.OK)
	name(t, globe(), "xx", "E/Old_Town", march-1, api.ByName, "mst", api.OK)
	name(t, globe(), "xx", "E/Old_Town", 499999999, api.ByName, "GMT+0:30", api.OK)
}

func TestNameErrors(t *testing.T) { // L2: ErrKind, then ErrNone, then ErrRange
	times := []int{math.MinInt, -1, api.EndTime, math.MaxInt}
	right := []int{0, march, api.EndTime - 1}
	none := []string{"", "no", "1", "roo", "Root", "e/Old_Town", "E/Old_Town/", "eu", "mid", strings.Repeat("x", 1<<16)}
	for _, pattern := range []int{math.MinInt, -1, 0, 5, 6, math.MaxInt} {
		for _, at := range append(times, right...) {
			name(t, globe(), "root", "B", at, pattern, "", api.ErrKind)
			name(t, globe(), "no", "B", at, pattern, "", api.ErrKind)
			name(t, globe(), "root", "no", at, pattern, "", api.ErrKind)
		}
	}
	for pattern := api.ByOff; pattern <= api.ByCity; pattern++ {
		for _, at := range append(times, right...) {
			for _, s := range none {
				name(t, globe(), s, "B", at, pattern, "", api.ErrNone)
				name(t, globe(), "root", s, at, pattern, "", api.ErrNone)
				name(t, globe(), s, s, at, pattern, "", api.ErrNone)
			}
			name(t, globe(), "B", "root", at, pattern, "", api.ErrNone)
			name(t, api.World{}, "root", "B", at, pattern, "", api.ErrNone)
			name(t, api.World{Data: globe().Data}, "root", "B", at, pattern, "", api.ErrNone)
			name(t, api.World{Books: globe().Books}, "root", "B", at, pattern, "", api.ErrNone)
		}
		for _, at := range times {
			for _, zone := range []string{"E/Old_Town", "A/West", "B", "T"} {
				name(t, globe(), "yy", zone, at, pattern, "", api.ErrRange)
			}
		}
	}
}

func TestById(t *testing.T) { // L2: the zone's own name, whenever, in whatever locale
	for zone, want := range map[string]string{"E/Old_Town": "E/Old_Town", "Town": "E/Old_Town", "T": "E/Old_Town", "A/West": "A/West", "West": "A/West", "B": "B"} {
		for _, locale := range []string{"root", "xx", "yy", "bare"} {
			for _, at := range []int{0, 499999999, 500000000, march, api.EndTime - 1} {
				name(t, globe(), locale, zone, at, api.ById, want, api.OK)
			}
		}
	}
}

func TestByOff(t *testing.T) { // L2: what holds then, saved or not; links; both ends of time
	for _, zone := range []string{"E/Old_Town", "Town", "T"} {
		for at, want := range map[int]string{0: "GMT+0:30", 499999999: "GMT+0:30", 500000000: "GMT+1", march - 1: "GMT+1", march: "GMT+2", api.EndTime - 1: "GMT+1"} {
			for _, locale := range []string{"root", "bare"} {
				name(t, globe(), locale, zone, at, api.ByOff, want, api.OK)
			}
		}
	}
	for _, at := range []int{0, 999, 1000, api.EndTime - 1} {
		name(t, globe(), "root", "A/West", at, api.ByOff, "GMT-4", api.OK)
		name(t, globe(), "root", "West", at, api.ByOff, "GMT-4", api.OK)
		name(t, globe(), "root", "B", at, api.ByOff, "GMT+1:30", api.OK)
	}
}

func TestByOffSeconds(t *testing.T) { // L2: without the seconds that are no whole minute, towards 0
	for _, x := range []struct {
		std, save int
		want      string
	}{
		{0, 0, "GMT"}, {1, 0, "GMT"}, {59, 0, "GMT"}, {60, 0, "GMT+0:01"}, {61, 0, "GMT+0:01"}, {119, 0, "GMT+0:01"}, {120, 0, "GMT+0:02"},
		{-1, 0, "GMT"}, {-59, 0, "GMT"}, {-60, 0, "GMT-0:01"}, {-61, 0, "GMT-0:01"}, {-119, 0, "GMT-0:01"}, {-120, 0, "GMT-0:02"},
		{3599, 0, "GMT+0:59"}, {3600, 0, "GMT+1"}, {3659, 0, "GMT+1"}, {-3599, 0, "GMT-0:59"}, {-3600, 0, "GMT-1"}, {-3659, 0, "GMT-1"},
		{30, 30, "GMT+0:01"}, {30, 29, "GMT"}, {-90, 31, "GMT"}, {-90, 30, "GMT-0:01"}, {-90, 90, "GMT"}, {-90, 149, "GMT"}, {-90, 150, "GMT+0:01"},
		{api.MaxStd, api.MaxSave, "GMT+16"}, {api.MaxStd, api.MaxSave - 1, "GMT+15:59"}, {-api.MaxStd, 0, "GMT-14"}, {-api.MaxStd, 1, "GMT-13:59"},
	} {
		w := lone("Z", x.std, x.save, "m")
		name(t, w, "root", "Z", 0, api.ByOff, x.want, api.OK)
		name(t, w, "root", "Z", api.EndTime-1, api.ByName, x.want, api.OK)
	}
}

func TestByName(t *testing.T) { // L2: /s and /d, texts of parents and texts that are empty, links, both ends of time
	type when map[int]string
	for locale, calls := range map[string]when{
		"root": {0: "GMT+0:30", 499999999: "GMT+0:30", 500000000: "MST", march - 1: "MST", march: "MDT", api.EndTime - 1: "MST"},
		"xx":   {0: "GMT+0:30", 499999999: "GMT+0:30", 500000000: "mst", march - 1: "mst", march: "MDT", api.EndTime - 1: "mst"},
		"yy":   {0: "GMT+0:30", 499999999: "GMT+0:30", 500000000: "mst", march - 1: "mst", march: "GMT+2", api.EndTime - 1: "mst"},
		"bare": {0: "GMT+0:30", 499999999: "GMT+0:30", 500000000: "GMT+1", march - 1: "GMT+1", march: "GMT+2", api.EndTime - 1: "GMT+1"},
	} {
		for at, want := range calls {
			for _, zone := range []string{"E/Old_Town", "Town", "T"} {
				name(t, globe(), locale, zone, at, api.ByName, want, api.OK)
			}
		}
	}
	for locale, calls := range map[string]when{
		"root": {0: "MDT", 999: "MDT", 1000: "GMT-4", api.EndTime - 1: "GMT-4"},
		"yy":   {0: "GMT-4", 999: "GMT-4", 1000: "GMT-4", api.EndTime - 1: "GMT-4"},
	} {
		for at, want := range calls {
			name(t, globe(), locale, "A/West", at, api.ByName, want, api.OK)
			name(t, globe(), locale, "West", at, api.ByName, want, api.OK)
		}
	}
}

func TestByNameKeys(t *testing.T) { // L2: no Meta, no such text, an empty one, a key that would be no name, keys at their bounds
	both := []api.Pair{{Key: "m/d", Text: "saved"}, {Key: "m/s", Text: "not saved"}}
	ten, eleven := "abcdefghij", "abcdefghijk"
	for _, x := range []struct {
		what string
		w    api.World
		want string
	}{
		{"nothing saved", lone("Z", 60, 0, "m", both...), "not saved"},
		{"a second saved", lone("Z", 60, 1, "m", both...), "saved"},
		{"much saved", lone("Z", 60, api.MaxSave, "m", both...), "saved"},
		{"no Meta", lone("Z", 60, 0, "", both...), "GMT+0:01"},
		{"no Meta, and the zone's own texts", lone("Z", 60, 0, "", api.Pair{Key: "Z/s", Text: "Z"}, api.Pair{Key: "s", Text: "s"}), "GMT+0:01"},
		{"no text", lone("Z", 60, 0, "m"), "GMT+0:01"},
		{"only the other text", lone("Z", 60, 0, "m", both[0]), "GMT+0:01"},
		{"only the other text, saved", lone("Z", 60, 60, "m", both[1]), "GMT+0:02"},
		{"an empty text", lone("Z", 60, 0, "m", both[0], api.Pair{Key: "m/s"}), "GMT+0:01"},
		{"an empty text, saved", lone("Z", 60, 60, "m", api.Pair{Key: "m/d"}, both[1]), "GMT+0:02"},
		{"a text of the Meta alone", lone("Z", 60, 0, "m", api.Pair{Key: "m", Text: "m"}), "GMT+0:01"},
		{"keys in other case", lone("Z", 60, 0, "M", both...), "GMT+0:01"},
		{"a long text", lone("Z", 60, 0, "m", api.Pair{Key: "m/s", Text: "\x00\xff /_+-%s\n12"}), "\x00\xff /_+-%s\n12"},
		{"a long key", lone("Z", 60, 0, ten, api.Pair{Key: ten + "/s", Text: "ten"}), "ten"},
		{"a long key, saved", lone("Z", 60, 1, ten, api.Pair{Key: ten + "/d", Text: "ten"}), "ten"},
		{"a key that would be too long", lone("Z", 60, 0, eleven, api.Pair{Key: eleven, Text: "no"}, api.Pair{Key: eleven + "s", Text: "no"}), "GMT+0:01"},
		{"a key that would be far too long", lone("Z", 60, 60, eleven+"l", api.Pair{Key: eleven + "l", Text: "no"}), "GMT+0:02"},
		{"a Meta with a season", lone("Z", 60, 0, "m/s", api.Pair{Key: "m/s", Text: "no"}, api.Pair{Key: "m/s/s", Text: "m/s"}), "m/s"},
		{"a zone's name as a Meta", lone("m", 60, 0, "m", both...), "not saved"},
	} {
		if s, e := names.Name(x.w, "root", x.w.Data.Zones[0].Name, 7, api.ByName); s != x.want || e != api.OK {
			t.Errorf("%s: Name = %q, %d, want %q, 0", x.what, s, e, x.want)
		}
	}
}

func TestByCity(t *testing.T) { // L2: the text of the zone's own name, of a parent too, else its city; links; both ends of time
	for locale, cities := range map[string]map[string]string{
		"root": {"E/Old_Town": "Old Town", "Town": "Old Town", "T": "Old Town", "A/West": "West!", "West": "West!", "B": "B"},
		"xx":   {"E/Old_Town": "Old Town", "Town": "Old Town", "T": "Old Town", "A/West": "West", "West": "West", "B": "Bee"},
		"yy":   {"E/Old_Town": "Old Town", "Town": "Old Town", "T": "Old Town", "A/West": "West", "West": "West", "B": "Bee"},
		"bare": {"E/Old_Town": "Old Town", "Town": "Old Town", "T": "Old Town", "A/West": "West", "West": "West", "B": "B"},
	} {
		for zone, want := range cities {
			for _, at := range []int{0, 499999999, march, api.EndTime - 1} {
				name(t, globe(), locale, zone, at, api.ByCity, want, api.OK)
			}
		}
	}
	long := "a_b/c_d//e_f"
	name(t, lone(long, 0, 0, ""), "root", long, 0, api.ByCity, "e f", api.OK)
	name(t, lone(long, 0, 0, "", api.Pair{Key: long, Text: "x_y/z"}), "root", long, 0, api.ByCity, "x_y/z", api.OK)
	name(t, lone(long, 0, 0, "m", api.Pair{Key: "e_f", Text: "no"}, api.Pair{Key: "m/s", Text: "no"}), "root", long, 0, api.ByCity, "e f", api.OK)
}

// clock shows an offset as it is shown Short, by counting hours and minutes.
func clock(n int) string {
	sign, digits := "+", "0123456789"
	if n < 0 {
		sign, n = "-", -n
	}
	hours, minutes := 0, 0
	for ; n >= 3600; n -= 3600 {
		hours++
	}
	for ; n >= 60; n -= 60 {
		minutes++
	}
	s := "GMT" + sign
	if hours > 9 {
		s += "1"
	}
	s += digits[hours%10 : hours%10+1]
	switch {
	case hours == 0 && minutes == 0:
		return "GMT"
	case minutes > 0:
		s += ":" + digits[minutes/10:minutes/10+1] + digits[minutes%10:minutes%10+1]
	}
	return s
}

// drawn makes a world of one zone by chance, with a book and its parent, and what each pattern calls the zone at 0.
func drawn(r *rand.Rand) (api.World, map[int]string) {
	zones := []string{"A", "A/b_c", "a_b/c", "Z/y/x_"}
	cities := []string{"A", "b c", "c", "x "}
	which := r.Intn(len(zones))
	std, save := r.Intn(2*api.MaxStd+1)-api.MaxStd, max(0, r.Intn(2*api.MaxSave)-api.MaxSave+1)
	meta := []string{"", "m", "mm/m", "abcdefghij", "abcdefghijk"}[r.Intn(5)]
	w := lone(zones[which], std, save, meta)
	w.Books = append(w.Books, api.Book{Locale: "child", Parent: 0})
	texts := map[string]string{}
	for i := range w.Books {
		for _, key := range []string{"A", "A/b_c", "Z/y/x_", "a_b/c", "abcdefghij/d", "abcdefghij/s", "m/d", "m/s", "mm/m/d", "mm/m/s"} {
			if r.Intn(3) == 0 && len(w.Books[i].Pairs) < api.MaxPairs {
				texts[key] = []string{"", "one", "two"}[r.Intn(3)]
				w.Books[i].Pairs = append(w.Books[i].Pairs, api.Pair{Key: key, Text: texts[key]})
			}
		}
	}
	called := map[int]string{api.ByOff: clock(std + save), api.ById: zones[which], api.ByName: texts[meta+"/s"], api.ByCity: texts[zones[which]]}
	if save > 0 {
		called[api.ByName] = texts[meta+"/d"]
	}
	if called[api.ByName] == "" {
		called[api.ByName] = clock(std + save)
	}
	if called[api.ByCity] == "" {
		called[api.ByCity] = cities[which]
	}
	return w, called
}

func TestDrawn(t *testing.T) { // L2: zones, uses and books by chance
	r := rand.New(rand.NewSource(1))
	for range 5000 {
		w, called := drawn(r)
		for pattern, want := range called {
			name(t, w, "child", w.Data.Zones[0].Name, 0, pattern, want, api.OK)
		}
	}
}

func TestOnlyRead(t *testing.T) { // P2: the world is as it was, the spare room too
	full := func() api.World {
		w := globe()
		w.Data.Zones = append(w.Data.Zones, api.Zone{Name: "spare"})
		w.Data.Links = append(w.Data.Links, api.Link{Name: "spare"})
		w.Uses = append(w.Uses, api.Use{Zone: "spare"})
		w.Books[0].Pairs = append(w.Books[0].Pairs, api.Pair{Key: "spare"})
		w.Books = append(w.Books, api.Book{Locale: "spare"})
		return w
	}
	given := full()
	w := given
	w.Data.Zones, w.Data.Links, w.Uses, w.Books = w.Data.Zones[:3], w.Data.Links[:3], w.Uses[:3], w.Books[:4]
	w.Books[0].Pairs = w.Books[0].Pairs[:4]
	told(t, "without what is spare", w, api.OK)
	for pattern := api.ByOff; pattern <= api.ByCity; pattern++ {
		for _, zone := range []string{"T", "West", "spare"} {
			names.Name(w, "yy", zone, march, pattern)
		}
	}
	given.Books[0].Pairs = given.Books[0].Pairs[:5]
	if !reflect.DeepEqual(given, full()) {
		t.Errorf("the world has become %v", given)
	}
}

func TestAgain(t *testing.T) { // P2, P3: calls tell the same whatever was asked ahead, and nothing is kept
	w := globe()
	for range 3 {
		name(t, w, "xx", "T", march-1, api.ByName, "mst", api.OK)
		name(t, api.World{}, "xx", "T", march-1, api.ByName, "", api.ErrNone)
		name(t, w, "root", "T", march-1, api.ByName, "MST", api.OK)
		name(t, w, "root", "A/West", march-1, api.ByCity, "West!", api.OK)
	}
	w.Books[1].Pairs[2].Text, w.Data.Zones[0].Eras[1].Std, w.Books[0].Pairs[0].Text = "new", 1800, "new"
	name(t, w, "xx", "T", march-1, api.ByName, "new", api.OK)
	name(t, w, "xx", "T", march-1, api.ByOff, "GMT+0:30", api.OK)
	name(t, w, "root", "A/West", march-1, api.ByCity, "new", api.OK)
}
