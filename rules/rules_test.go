package rules_test

import (
	"math"
	"slices"
	"strings"
	"testing"
	"time"

	"gnomon/api"
	"gnomon/days"
	"gnomon/pick"
	"gnomon/rules"
)

// march is the rule of the document's example.
func march() api.Rule {
	return api.Rule{From: 1980, To: api.LastYear, Month: 3, On: api.On{Kind: api.Last}, At: 7200, Save: 3600, Letter: "S"}
}

func october() api.Rule {
	return api.Rule{From: 1996, To: api.LastYear, Month: 10, On: api.On{Kind: api.After, Week: 0, Day: 25}, At: 7200}
}

// exact begins at midnight of one day in each of its years.
func exact(from, to, m, d int) api.Rule {
	return api.Rule{From: from, To: to, Month: m, On: api.On{Kind: api.Exact, Day: d}}
}

// changed is march, but for what f does to it.
func changed(f func(r *api.Rule)) api.Rule {
	r := march()
	f(&r)
	return r
}

func TestCheckRight(t *testing.T) { // C1: the bounds themselves are right
	for i, r := range []api.Rule{
		march(),
		october(),
		changed(func(r *api.Rule) { r.From, r.To = api.FirstYear, api.LastYear }),
		changed(func(r *api.Rule) { r.From, r.To = api.FirstYear, api.FirstYear }),
		changed(func(r *api.Rule) { r.From, r.To = api.LastYear, api.LastYear }),
		changed(func(r *api.Rule) { r.Month = 1 }),
		changed(func(r *api.Rule) { r.Month = 12 }),
		changed(func(r *api.Rule) { r.At = 0 }),
		changed(func(r *api.Rule) { r.At = api.DaySecs }),
		changed(func(r *api.Rule) { r.Save = 0 }),
		changed(func(r *api.Rule) { r.Save = api.MaxSave }),
		changed(func(r *api.Rule) { r.Letter = "" }),
		changed(func(r *api.Rule) { r.Letter = "AZaz" }),
		changed(func(r *api.Rule) { r.Letter = strings.Repeat("Q", api.MaxName) }),
		exact(2020, 2020, 2, 29),
		exact(api.FirstYear, api.LastYear, 2, 28),
	} {
		if e := rules.Check(r); e != api.OK {
			t.Errorf("%d: Check(%v) = %d, want 0", i, r, e)
		}
	}
}

// outOfBounds are rules that are wrong in one number of their own, not of On.
func outOfBounds() []api.Rule {
	return []api.Rule{
		{},
		changed(func(r *api.Rule) { r.From = api.FirstYear - 1 }),
		changed(func(r *api.Rule) { r.From, r.To = 2001, 2000 }),
		changed(func(r *api.Rule) { r.To = api.LastYear + 1 }),
		changed(func(r *api.Rule) { r.From, r.To = api.LastYear+1, api.LastYear+1 }),
		changed(func(r *api.Rule) { r.Month = 0 }),
		changed(func(r *api.Rule) { r.Month = 13 }),
		changed(func(r *api.Rule) { r.At = -1 }),
		changed(func(r *api.Rule) { r.At = api.DaySecs + 1 }),
		changed(func(r *api.Rule) { r.Save = -1 }),
		changed(func(r *api.Rule) { r.Save = api.MaxSave + 1 }),
		changed(func(r *api.Rule) { r.From, r.To = math.MinInt, math.MaxInt }),
		changed(func(r *api.Rule) { r.To = math.MaxInt }),
		changed(func(r *api.Rule) { r.Month = math.MinInt }),
		changed(func(r *api.Rule) { r.At = math.MaxInt }),
		changed(func(r *api.Rule) { r.Save = math.MinInt }),
	}
}

func TestCheckBounds(t *testing.T) { // C1, P1: ErrRange, ahead of On's errors and that of Letter
	for i, r := range outOfBounds() {
		if e := rules.Check(r); e != api.ErrRange {
			t.Errorf("%d: Check(%v) = %d, want %d", i, r, e, api.ErrRange)
		}
		r.On.Kind, r.Letter = 0, "1"
		if e := rules.Check(r); e != api.ErrRange {
			t.Errorf("%d: Check(%v) = %d, want %d", i, r, e, api.ErrRange)
		}
	}
}

func TestCheckOn(t *testing.T) { // C1: On's own errors
	for i, c := range []struct {
		o    api.On
		want api.Errno
	}{
		{api.On{}, api.ErrKind},
		{api.On{Kind: 4, Day: 1}, api.ErrKind},
		{api.On{Kind: api.Last, Week: 7}, api.ErrRange},
		{api.On{Kind: api.Last, Day: 1}, api.ErrRange},
		{api.On{Kind: api.Exact, Day: 32}, api.ErrRange},
		{api.On{Kind: api.After, Week: -1, Day: 1}, api.ErrRange},
	} {
		r := changed(func(r *api.Rule) { r.On = c.o })
		if e := rules.Check(r); e != c.want {
			t.Errorf("%d: Check(%v) = %d, want %d", i, r, e, c.want)
		}
	}
}

func TestCheckLetter(t *testing.T) { // C1: ErrName, whichever byte it is
	for c := range 256 {
		r := changed(func(r *api.Rule) { r.Letter = "A" + string([]byte{byte(c)}) })
		want := api.ErrName
		if c >= 'A' && c <= 'Z' || c >= 'a' && c <= 'z' {
			want = api.OK
		}
		if e := rules.Check(r); e != want {
			t.Errorf("letter %d: Check = %d, want %d", c, e, want)
		}
	}
	long := changed(func(r *api.Rule) { r.Letter = strings.Repeat("Q", api.MaxName+1) })
	if e := rules.Check(long); e != api.ErrName {
		t.Errorf("Check of a letter of %d bytes = %d, want %d", len(long.Letter), e, api.ErrName)
	}
}

func TestCheckNoSuchDay(t *testing.T) { // C1: ErrNone, if only one year has none
	after := exact(2020, 2025, 2, 28)
	after.On = api.On{Kind: api.After, Week: 6, Day: 25}
	for i, r := range []api.Rule{
		exact(2020, 2020, 4, 31),
		exact(2020, 2020, 2, 30),
		exact(2019, 2020, 2, 29),
		exact(2020, 2021, 2, 29),
		exact(api.FirstYear, api.LastYear, 2, 29),
		after,
	} {
		if e := rules.Check(r); e != api.ErrNone {
			t.Errorf("%d: Check(%v) = %d, want %d", i, r, e, api.ErrNone)
		}
	}
}

func TestCheckFirstError(t *testing.T) { // C1, P1: the error that is named first
	for i, c := range []struct {
		r    api.Rule
		want api.Errno
	}{
		{changed(func(r *api.Rule) { r.Save, r.On.Kind, r.Letter = -1, 0, "1" }), api.ErrRange},
		{changed(func(r *api.Rule) { r.At, r.Letter = -1, "1" }), api.ErrRange},
		{changed(func(r *api.Rule) { r.On, r.Letter = api.On{Kind: 4, Week: 9}, "1" }), api.ErrKind},
		{changed(func(r *api.Rule) { r.On.Week, r.Letter = -1, "1" }), api.ErrRange},
		{changed(func(r *api.Rule) { r.On, r.Month, r.Letter = api.On{Kind: api.Exact, Day: 31}, 2, "1" }), api.ErrName},
		{changed(func(r *api.Rule) { r.On, r.Month = api.On{Kind: api.Exact, Day: 31}, 2 }), api.ErrNone},
		{changed(func(r *api.Rule) { r.On, r.Month, r.Save = api.On{Kind: api.Exact, Day: 31}, 2, -1 }), api.ErrRange},
	} {
		if e := rules.Check(c.r); e != c.want {
			t.Errorf("%d: Check(%v) = %d, want %d", i, c.r, e, c.want)
		}
	}
}

func TestAt(t *testing.T) { // C2
	dayEnd := exact(2029, 2029, 12, 31)
	dayEnd.At = api.DaySecs
	for i, c := range []struct {
		r            api.Rule
		y, std, want int
	}{
		{march(), 2020, 3600, 1585443600},
		{march(), 2020, 0, 1585447200},
		{march(), 2020, -3600, 1585450800},
		{march(), 1980, 3600, 323226000},
		{march(), 2029, 3600, 1869094800},
		{october(), 2020, 3600, 1603587600},
		{exact(1970, 1970, 1, 1), 1970, 0, 0},
		{exact(1970, 1970, 1, 1), 1970, api.MaxStd, -api.MaxStd},
		{exact(1970, 1970, 1, 1), 1970, -api.MaxStd, api.MaxStd},
		{dayEnd, 2029, 0, api.EndTime},
		{dayEnd, 2029, -api.MaxStd, api.EndTime + api.MaxStd},
		{exact(2020, 2020, 2, 29), 2020, 0, 1582934400},
	} {
		if n, e := rules.At(c.r, c.y, c.std); n != c.want || e != api.OK {
			t.Errorf("%d: At(%v, %d, %d) = %d %d, want %d 0", i, c.r, c.y, c.std, n, e, c.want)
		}
	}
}

func TestAtAllYears(t *testing.T) { // C2, held against the library's calendar
	r := march()
	for y := r.From; y <= r.To; y++ {
		sunday := time.Date(y, 3, 31, 0, 0, 0, 0, time.UTC)
		sunday = sunday.AddDate(0, 0, -int(sunday.Weekday()))
		want := int(sunday.Unix()) + r.At - 3600
		if n, e := rules.At(r, y, 3600); n != want || e != api.OK {
			t.Errorf("At(march, %d, 3600) = %d %d, want %d 0", y, n, e, want)
		}
	}
}

func TestAtErrors(t *testing.T) { // C2, P1
	for i, c := range []struct {
		r      api.Rule
		y, std int
		want   api.Errno
	}{
		{march(), 1979, 0, api.ErrRange},
		{march(), 2030, 0, api.ErrRange},
		{exact(2000, 2010, 2, 28), 2011, 0, api.ErrRange},
		{exact(2000, 2010, 2, 28), 1999, 0, api.ErrRange},
		{march(), math.MinInt, 0, api.ErrRange},
		{march(), math.MaxInt, 0, api.ErrRange},
		{march(), 2000, api.MaxStd + 1, api.ErrRange},
		{march(), 2000, -api.MaxStd - 1, api.ErrRange},
		{march(), 2000, math.MinInt, api.ErrRange},
		{march(), 2000, math.MaxInt, api.ErrRange},
		{changed(func(r *api.Rule) { r.Save = -1 }), 2000, 0, api.ErrRange},
		{changed(func(r *api.Rule) { r.On.Kind = 0 }), 1979, 99999, api.ErrKind},
		{changed(func(r *api.Rule) { r.Letter = "%" }), 1979, 99999, api.ErrName},
		{exact(2020, 2021, 2, 29), 1979, 99999, api.ErrNone},
		{exact(2020, 2021, 2, 29), 2020, 0, api.ErrNone},
	} {
		if n, e := rules.At(c.r, c.y, c.std); n != 0 || e != c.want {
			t.Errorf("%d: At(%v, %d, %d) = %d %d, want 0 %d", i, c.r, c.y, c.std, n, e, c.want)
		}
	}
}

func TestLast(t *testing.T) { // C3
	both := []api.Rule{march(), october()}
	summer, winter := 1585443600, 1603587600
	early := exact(1970, 1970, 1, 1)
	for i, c := range []struct {
		l                  []api.Rule
		std, t, rule, when int
	}{
		{both, 3600, summer, 0, summer},
		{both, 3600, summer + 1, 0, summer},
		{both, 3600, summer - 1, 1, 1572138000},
		{both, 3600, winter - 1, 0, summer},
		{both, 3600, winter, 1, winter},
		{both, 3600, api.EndTime - 1, 1, 1887843600},
		{[]api.Rule{october(), march()}, 3600, winter, 0, winter},
		{both, 3600, 323226000, 0, 323226000},
		{both, 3600, 820454400, 0, 796179600},
		{[]api.Rule{exact(2000, 2010, 2, 28)}, 0, 1500000000, 0, 1267315200},
		{[]api.Rule{early}, 0, 0, 0, 0},
		{[]api.Rule{early}, 3600, 0, 0, -3600},
		{[]api.Rule{early, exact(1970, 1970, 1, 1)}, api.MaxStd, api.EndTime - 1, 1, -api.MaxStd},
	} {
		k, when, e := rules.Last(c.l, c.std, c.t)
		if k != c.rule || when != c.when || e != api.OK {
			t.Errorf("%d: Last(%v, %d, %d) = %d %d %d, want %d %d 0", i, c.l, c.std, c.t, k, when, e, c.rule, c.when)
		}
	}
}

func TestLastAtOneTime(t *testing.T) { // C3: of several at one time the one that stands last
	a, b, c := exact(2000, 2010, 2, 28), exact(2005, 2005, 2, 28), exact(1990, 2020, 1, 1)
	b.Letter = "T"
	evening := exact(2000, 2010, 2, 27)
	evening.At = api.DaySecs
	for i, x := range []struct {
		l       []api.Rule
		y, rule int
	}{
		{[]api.Rule{a, a}, 2005, 1},
		{[]api.Rule{a, b}, 2005, 1},
		{[]api.Rule{b, a}, 2005, 1},
		{[]api.Rule{a, b, c}, 2005, 1},
		{[]api.Rule{a, c, b, c}, 2005, 2},
		{[]api.Rule{a, a, a, a}, 2010, 3},
		{[]api.Rule{a, b}, 2006, 0},
		{[]api.Rule{evening, a}, 2006, 1},
		{[]api.Rule{a, evening}, 2006, 1},
	} {
		want, _ := rules.At(a, x.y, 0)
		if k, when, e := rules.Last(x.l, 0, want+5); k != x.rule || when != want || e != api.OK {
			t.Errorf("%d: Last = %d %d %d, want %d %d 0", i, k, when, e, x.rule, want)
		}
	}
}

func TestLastNoneHasBegun(t *testing.T) { // C3, P1: ErrNone
	for i, c := range []struct {
		l      []api.Rule
		std, t int
	}{
		{nil, 0, 0},
		{[]api.Rule{}, 0, api.EndTime - 1},
		{[]api.Rule{march(), october()}, 3600, 0},
		{[]api.Rule{march(), october()}, 3600, 323225999},
		{[]api.Rule{exact(1970, 1970, 1, 1)}, -1, 0},
		{[]api.Rule{exact(2029, 2029, 12, 31)}, -api.MaxStd, api.EndTime - api.DaySecs},
	} {
		if k, when, e := rules.Last(c.l, c.std, c.t); k != 0 || when != 0 || e != api.ErrNone {
			t.Errorf("%d: Last(%v, %d, %d) = %d %d %d, want 0 0 %d", i, c.l, c.std, c.t, k, when, e, api.ErrNone)
		}
	}
}

func TestLastErrors(t *testing.T) { // C3, P1: the error that is named first, of the first rule that has one
	kind := changed(func(r *api.Rule) { r.On.Kind = 0 })
	name := changed(func(r *api.Rule) { r.Letter = "-" })
	none := exact(2020, 2021, 2, 29)
	for i, c := range []struct {
		l      []api.Rule
		std, t int
		want   api.Errno
	}{
		{[]api.Rule{march(), march(), march(), march(), march()}, 0, api.EndTime - 1, api.ErrMany},
		{make([]api.Rule, api.MaxRules+1), 99999, -1, api.ErrMany},
		{make([]api.Rule, api.MaxRules), 0, 0, api.ErrRange},
		{[]api.Rule{march(), kind, name}, 99999, -1, api.ErrKind},
		{[]api.Rule{march(), name, kind}, 99999, -1, api.ErrName},
		{[]api.Rule{none, name, kind}, 0, 0, api.ErrNone},
		{[]api.Rule{none, march()}, 0, -1, api.ErrNone},
		{[]api.Rule{march()}, api.MaxStd + 1, 0, api.ErrRange},
		{[]api.Rule{march()}, -api.MaxStd - 1, 0, api.ErrRange},
		{[]api.Rule{march()}, math.MinInt, 0, api.ErrRange},
		{[]api.Rule{march()}, math.MaxInt, 0, api.ErrRange},
		{[]api.Rule{march()}, 0, -1, api.ErrRange},
		{[]api.Rule{march()}, 0, api.EndTime, api.ErrRange},
		{[]api.Rule{march()}, 0, math.MinInt, api.ErrRange},
		{[]api.Rule{march()}, 0, math.MaxInt, api.ErrRange},
		{nil, api.MaxStd + 1, 0, api.ErrRange},
		{nil, 0, api.EndTime, api.ErrRange},
	} {
		if k, when, e := rules.Last(c.l, c.std, c.t); k != 0 || when != 0 || e != c.want {
			t.Errorf("%d: Last(%v, %d, %d) = %d %d %d, want 0 0 %d", i, c.l, c.std, c.t, k, when, e, c.want)
		}
	}
}

// begun is a rule, and when it begins in one of its years.
type begun struct{ rule, when int }

// allBegun lists all beginnings in the order in which they hold.
func allBegun(t *testing.T, l []api.Rule, std int) []begun {
	var all []begun
	for i, r := range l {
		for y := r.From; y <= r.To; y++ {
			d, e := pick.Find(y, r.Month, r.On)
			day, f := days.Days(y, r.Month, d)
			if e != api.OK || f != api.OK {
				t.Fatalf("rule %v has no day in %d", r, y)
			}
			all = append(all, begun{i, day*api.DaySecs + r.At - std})
		}
	}
	slices.SortStableFunc(all, func(a, b begun) int { return a.when - b.when })
	return all
}

func TestLastIsNotBehind(t *testing.T) { // C2, C3: no rule begins between what has begun last and the time
	late := exact(1970, 2029, 12, 31)
	late.At = api.DaySecs
	sets := [][]api.Rule{
		{march(), october()},
		{october(), exact(1975, 2020, 10, 25), march()},
		{late, exact(1971, 2029, 1, 1)},
		{exact(1971, 2029, 1, 1), late, march(), october()},
	}
	for _, l := range sets {
		for _, std := range []int{-api.MaxStd, -3600, 0, 1, 3600, api.MaxStd} {
			all := allBegun(t, l, std)
			for i, b := range all {
				if b.when < 0 || b.when >= api.EndTime || i+1 < len(all) && all[i+1].when == b.when {
					continue
				}
				until := api.EndTime - 1
				if i+1 < len(all) {
					until = min(until, all[i+1].when-1)
				}
				for _, at := range []int{b.when, until} {
					if k, when, e := rules.Last(l, std, at); k != b.rule || when != b.when || e != api.OK {
						t.Fatalf("Last(%v, %d, %d) = %d %d %d, want %d %d 0", l, std, at, k, when, e, b.rule, b.when)
					}
				}
			}
		}
	}
}

func TestOnlyRead(t *testing.T) { // P2, P3: the list and the room behind it stay, and so does the answer
	room := []api.Rule{march(), october(), exact(2000, 2010, 2, 28), exact(2019, 2020, 2, 29), {Letter: "?"}}
	kept := slices.Clone(room)
	for n := range len(room) + 1 {
		l := room[:n]
		k, when, e := rules.Last(l, 3600, 1600000000)
		rules.Last([]api.Rule{exact(1970, 2029, 6, 1)}, 0, 1700000000)
		if k2, when2, e2 := rules.Last(slices.Clone(l), 3600, 1600000000); k != k2 || when != when2 || e != e2 {
			t.Errorf("Last of %d rules = %d %d %d, and then %d %d %d", n, k, when, e, k2, when2, e2)
		}
		if !slices.Equal(room, kept) {
			t.Fatalf("Last of %d rules changed what it was handed: %v", n, room)
		}
	}
}
