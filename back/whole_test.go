package back_test

import (
	"math/rand"
	"reflect"
	"slices"
	"strconv"
	"strings"
	"testing"

	"gnomon/api"
	"gnomon/back"
	"gnomon/books"
	"gnomon/data"
	"gnomon/days"
	"gnomon/names"
	"gnomon/off"
	"gnomon/offs"
	"gnomon/rules"
	"gnomon/source"
	"gnomon/table"
	"gnomon/trie"
)

// The tests of this file ask, of worlds made by chance, what the whole promises: each goes through several layers.

// world makes a right world by chance. Names and texts are of few signs, so that many are alike or begin each other.
func world(t *testing.T, r *rand.Rand) api.World {
	t.Helper()
	w := api.World{Data: api.Data{Sets: make([]api.Set, r.Intn(api.MaxSets+1))}}
	for i := range w.Data.Sets {
		w.Data.Sets[i] = api.Set{Name: "s" + strconv.Itoa(i), Rules: someRules(r)}
	}
	fresh := r.Perm(9)
	name := func() string {
		i := fresh[0]
		fresh = fresh[1:]
		return []string{"A", "A/b", "A/b_c", "B/b_c", "a", "a_b", "Z/y/b", "b", "GMT+1"}[i]
	}
	for range r.Intn(api.MaxZones + 1) {
		w.Data.Zones = append(w.Data.Zones, api.Zone{Name: name(), Eras: someEras(r, len(w.Data.Sets))})
	}
	for range r.Intn(api.MaxLinks+1) * min(1, len(w.Data.Zones)) {
		w.Data.Links = append(w.Data.Links, api.Link{Name: name(), To: someTarget(r, w.Data)})
	}
	r.Shuffle(len(w.Data.Links), reflect.Swapper(w.Data.Links))
	w.Uses = someUses(r, w.Data.Zones)
	w.Books = someBooks(r, w.Data.Zones)
	if e := names.Check(w); e != api.OK {
		t.Fatalf("%v is wrong: %d", w, e)
	}
	return w
}

func someRules(r *rand.Rand) []api.Rule {
	l := make([]api.Rule, 1+r.Intn(api.MaxRules))
	for i := range l {
		from := 1970 + r.Intn(60)
		on := []api.On{{Kind: api.Exact, Day: 1 + r.Intn(28)}, {Kind: api.Last, Week: r.Intn(7)}, {Kind: api.After, Week: r.Intn(7), Day: 1 + r.Intn(20)}}[r.Intn(3)]
		l[i] = api.Rule{From: from, To: from + r.Intn(2030-from), Month: 1 + r.Intn(12), On: on, At: r.Intn(api.DaySecs), Letter: []string{"", "S", "D"}[r.Intn(3)]}
		if r.Intn(2) == 0 {
			l[i].Save = r.Intn(api.MaxSave + 1)
		}
	}
	return l
}

func someEras(r *rand.Rand, sets int) []api.Era {
	untils := []int{api.EndTime}
	for range r.Intn(api.MaxEras) {
		if u := 1 + r.Intn(api.EndTime-1); !slices.Contains(untils, u) {
			untils = append(untils, u)
		}
	}
	slices.Sort(untils)
	var l []api.Era
	for _, until := range untils {
		era := api.Era{Std: 1800 * (r.Intn(57) - 28), Set: r.Intn(sets+1) - 1, Format: []string{"X", "C%sT", "%s"}[r.Intn(3)], Until: until}
		if r.Intn(2) == 0 {
			era.Std = r.Intn(2*api.MaxStd+1) - api.MaxStd
		}
		if era.Set < 0 {
			era.Save = r.Intn(2) * r.Intn(api.MaxSave+1)
		}
		l = append(l, era)
	}
	return l
}

// someTarget is a zone or a link that is there already, so that links do not go round.
func someTarget(r *rand.Rand, d api.Data) string {
	if i := r.Intn(len(d.Zones) + len(d.Links)); i >= len(d.Zones) {
		return d.Links[i-len(d.Zones)].Name
	}
	return d.Zones[r.Intn(len(d.Zones))].Name
}

func someUses(r *rand.Rand, zones []api.Zone) []api.Use {
	var l []api.Use
	for _, z := range zones {
		middle := 1 + r.Intn(api.EndTime-1)
		for _, span := range [][2]int{{0, middle}, {middle, api.EndTime}} {
			if r.Intn(4) > 0 {
				meta := []string{"m", "n", "abcdefghijk"}[r.Intn(3)]
				l = append(l, api.Use{Zone: z.Name, From: span[0], To: span[1], Meta: meta})
			}
		}
	}
	r.Shuffle(len(l), reflect.Swapper(l))
	return l
}

// someBooks are books with keys of Metas and of zones.
func someBooks(r *rand.Rand, zones []api.Zone) []api.Book {
	keys := []string{"m/d", "m/s", "n/d", "n/s"}
	for _, z := range zones {
		keys = append(keys, z.Name)
	}
	slices.Sort(keys)
	l := make([]api.Book, 1+r.Intn(api.MaxBooks))
	for i := range l {
		l[i] = api.Book{Locale: "l" + strconv.Itoa(i), Parent: r.Intn(i+1) - 1}
		for _, key := range keys {
			if r.Intn(2) == 0 && len(l[i].Pairs) < api.MaxPairs {
				l[i].Pairs = append(l[i].Pairs, api.Pair{Key: key, Text: someText(r)})
			}
		}
	}
	return l
}

func someText(r *rand.Rand) string {
	return []string{"", "a", "ab", "aba", "b", "b c", "GMT", "GMT+1", "GMT+1:30", "\x00", "\xff\x00", "aaaaaaaaaaaa"}[r.Intn(12)]
}

// times are some at which something may turn, and some between.
func times(r *rand.Rand, w api.World) []int {
	l := []int{0, api.EndTime - 1, r.Intn(api.EndTime), r.Intn(api.EndTime)}
	for _, z := range w.Data.Zones {
		for _, era := range z.Eras[:len(z.Eras)-1] {
			l = append(l, era.Until-1, era.Until)
		}
	}
	for _, u := range w.Uses {
		l = append(l, u.From)
	}
	return l
}

// worlds hands so many worlds to a test.
func worlds(t *testing.T, n int, ask func(r *rand.Rand, w api.World)) {
	t.Helper()
	r := rand.New(rand.NewSource(1))
	for range n {
		ask(r, world(t, r))
	}
}

func TestDateOfDays(t *testing.T) { // Date of Days is the date, Days of Date the day
	for day := range api.LastDay {
		year, month, date, e := days.Date(day)
		again, f := days.Days(year, month, date)
		if again != day || e != api.OK || f != api.OK {
			t.Fatalf("day %d is %d-%d-%d, which is day %d; %d, %d", day, year, month, date, again, e, f)
		}
	}
}

func TestBegunLast(t *testing.T) { // what has begun last is not behind the time, and no rule begins between
	worlds(t, 100, func(r *rand.Rand, w api.World) {
		for _, set := range w.Data.Sets {
			std, at := r.Intn(2*api.MaxStd+1)-api.MaxStd, r.Intn(api.EndTime)
			_, last, e := rules.Last(set.Rules, std, at)
			if e == api.ErrNone {
				last = -api.EndTime
			}
			if last > at {
				t.Errorf("%d has begun at %d", last, at)
			}
			for _, x := range set.Rules {
				for year := x.From; year <= x.To; year++ {
					if when, e := rules.At(x, year, std); e != api.OK || when > last && when <= at {
						t.Errorf("%v begins at %d (%d), between %d and %d", x, when, e, last, at)
					}
				}
			}
		}
	})
}

func TestLinks(t *testing.T) { // a link leads where what it leads to leads, and is called as that is
	worlds(t, 300, func(r *rand.Rand, w api.World) {
		for _, l := range w.Data.Links {
			a, e := data.Zone(w.Data, l.Name)
			b, f := data.Zone(w.Data, l.To)
			if a != b || e != api.OK || f != api.OK {
				t.Errorf("%v: %d (%d), %d (%d)", l, a, e, b, f)
			}
			at := r.Intn(api.EndTime)
			for pattern := api.ByOff; pattern <= api.ByCity; pattern++ {
				x, _ := names.Name(w, "l0", l.Name, at, pattern)
				y, _ := names.Name(w, "l0", l.To, at, pattern)
				if x != y || x == "" {
					t.Errorf("%v is called %q and %q", l, x, y)
				}
			}
		}
	})
}

func TestLookOfCompile(t *testing.T) { // Look of Compile tells what holds, whenever it is asked
	worlds(t, 50, func(r *rand.Rand, w api.World) {
		for _, z := range w.Data.Zones {
			turns, e := table.Compile(w.Data, z.Name)
			if e != api.OK {
				t.Fatalf("%v: %d", z, e)
			}
			for _, at := range times(r, w) {
				a, e := table.Look(turns, at)
				b, f := off.At(w.Data, z.Name, at)
				if a != b || e != api.OK || f != api.OK {
					t.Errorf("at %d: %v (%d), %v (%d)", at, a, e, b, f)
				}
			}
		}
	})
}

func TestShownIsRead(t *testing.T) { // what is shown is read as it was, and nothing else is
	worlds(t, 300, func(r *rand.Rand, w api.World) {
		text, e := source.Show(w.Data)
		d, f := source.Read(text)
		if again, _ := source.Show(d); again != text || e != api.OK || f != api.OK {
			t.Errorf("%q was read as %q; %d, %d", text, again, e, f)
		}
		if _, e := source.Read(text + "\n"); e == api.OK {
			t.Errorf("%q was read, with a line behind", text)
		}
		for style := api.Basic; style <= api.Long; style++ {
			n := 60 * (r.Intn(2*16*60+1) - 16*60)
			s, _ := offs.Show(style, n)
			if m, e := offs.Read(style, s); m != n || e != api.OK {
				t.Errorf("%d was read as %d (%d)", n, m, e)
			}
			if m, e := offs.Read(style, s+"0"); e == api.OK {
				if again, _ := offs.Show(style, m); again != s+"0" {
					t.Errorf("%q was read, and is shown as %q", s+"0", again)
				}
			}
		}
	})
}

func TestBuiltIsFound(t *testing.T) { // what was built in is found, and nothing else; the longest one is found
	worlds(t, 300, func(r *rand.Rand, w api.World) {
		l, _ := back.Words(w, "l0", 0, api.ByCity)
		nodes, e := trie.Build(l)
		if e != api.OK {
			t.Fatalf("%q: %d", l, e)
		}
		for range 10 {
			s := someText(r) + someText(r)
			if at, _ := trie.Find(nodes, s); at != slices.Index(l, s) {
				t.Errorf("%q is word %d of %q", s, at, l)
			}
			n, _ := byHand(w.Data.Zones, l, s)
			at, m, _ := trie.Longest(nodes, s)
			if m != n || n > 0 && l[at] != s[:n] {
				t.Errorf("of %q the longest of %q is word %d, of %d bytes", s, l, at, m)
			}
		}
	})
}

func TestBooksTell(t *testing.T) { // what a book has it tells, whatever its parents have
	worlds(t, 300, func(r *rand.Rand, w api.World) {
		for _, b := range w.Books {
			for _, p := range b.Pairs {
				if s, is, e := books.Text(w.Books, b.Locale, p.Key); s != p.Text || is != (s != "") || e != api.OK {
					t.Errorf("%v tells %q, %v, %d of %v", b, s, is, e, p)
				}
			}
		}
	})
}

// ends are what may stand behind a name.
func ends(words []string) []string {
	return append([]string{" ", ":30", "0", "\x00", "\xff", "b", "é", strings.Repeat("a", 100)}, words...)
}

func TestNameIsFound(t *testing.T) { // M1, M2: of what Name tells, with whatever behind, Parse takes as much at least, and finds the zone
	several, longer := 0, 0
	ask := func(w api.World, locale string, at, pattern int) {
		l, _ := back.Words(w, locale, at, pattern)
		if len(l) != len(w.Data.Zones) {
			t.Fatalf("%d words of %d zones", len(l), len(w.Data.Zones))
		}
		for i, z := range w.Data.Zones {
			word, e := names.Name(w, locale, z.Name, at, pattern)
			if word != l[i] || e != api.OK {
				t.Errorf("%q is %q, and among words %q (%d)", z.Name, word, l[i], e)
			}
			n, zones, e := back.Parse(w, locale, word, at, pattern)
			if n != len(word) || !slices.Contains(zones, z.Name) || e != api.OK {
				t.Errorf("of %q Parse takes %d: %q (%d), not %q", word, n, zones, e, z.Name)
			}
			several += min(1, len(zones)-1)
			for _, end := range ends(l) {
				want, called := byHand(w.Data.Zones, l, word+end)
				n, zones, e := back.Parse(w, locale, word+end, at, pattern)
				if n < len(word) || n != want || !slices.Equal(zones, called) || e != api.OK {
					t.Errorf("of %q and %q Parse takes %d: %q (%d), not %d: %q", word, end, n, zones, e, want, called)
				}
				longer += min(1, n-len(word))
			}
		}
	}
	worlds(t, 200, func(r *rand.Rand, w api.World) {
		for pattern := api.ByOff; pattern <= api.ByCity; pattern++ {
			ats := times(r, w)
			ask(w, w.Books[r.Intn(len(w.Books))].Locale, ats[r.Intn(len(ats))], pattern)
		}
	})
	if several < 100 || longer < 20 {
		t.Errorf("only %d names are of several zones, of only %d more is taken", several, longer)
	}
}

func TestParseByHand(t *testing.T) { // M1: texts that need not begin with any word
	none := 0
	worlds(t, 200, func(r *rand.Rand, w api.World) {
		for pattern := api.ByOff; pattern <= api.ByCity; pattern++ {
			locale, at := w.Books[r.Intn(len(w.Books))].Locale, r.Intn(api.EndTime)
			l, _ := back.Words(w, locale, at, pattern)
			for range 5 {
				s := someText(r) + someText(r)
				n, zones := byHand(w.Data.Zones, l, s)
				parse(t, w, locale, s, at, pattern, n, zones, api.OK)
				if n == 0 {
					none++
				}
			}
		}
	})
	if none < 100 {
		t.Errorf("only of %d texts no beginning is a word", none)
	}
}
