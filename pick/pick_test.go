package pick_test

import (
	"math"
	"testing"
	"time"

	"gnomon/api"
	"gnomon/pick"
)

// wantCheck says in the chapter's words what Check must answer.
func wantCheck(o api.On) api.Errno {
	weekOK := o.Week >= 0 && o.Week <= 6
	if o.Kind == api.Exact {
		weekOK = o.Week == 0
	}
	dayOK := o.Day >= 1 && o.Day <= 31
	if o.Kind == api.Last {
		dayOK = o.Day == 0
	}
	switch {
	case o.Kind != api.Exact && o.Kind != api.Last && o.Kind != api.After:
		return api.ErrKind
	case !weekOK || !dayOK:
		return api.ErrRange
	}
	return api.OK
}

// wantFind lists all days of a month by the library's calendar and takes the right one; 0 is none.
func wantFind(y, m int, o api.On) int {
	found := 0
	for day := time.Date(y, time.Month(m), 1, 0, 0, 0, 0, time.UTC); int(day.Month()) == m; day = day.AddDate(0, 0, 1) {
		d, right := day.Day(), int(day.Weekday()) == o.Week
		switch {
		case o.Kind == api.Exact && d == o.Day:
			found = d
		case o.Kind == api.Last && right:
			found = d
		case o.Kind == api.After && right && d >= o.Day && found == 0:
			found = d
		}
	}
	return found
}

func TestCheck(t *testing.T) { // B1
	for kind := -1; kind <= 5; kind++ {
		for week := -2; week <= 8; week++ {
			for day := -2; day <= 34; day++ {
				o := api.On{Kind: kind, Week: week, Day: day}
				if got, want := pick.Check(o), wantCheck(o); got != want {
					t.Errorf("Check(%v) = %d, want %d", o, got, want)
				}
			}
		}
	}
}

func TestCheckFarOut(t *testing.T) { // B1, P1
	for _, n := range []int{math.MinInt, math.MaxInt} {
		for _, c := range []struct {
			o    api.On
			want api.Errno
		}{
			{api.On{Kind: n, Week: n, Day: n}, api.ErrKind},
			{api.On{Kind: api.Exact, Week: n, Day: 1}, api.ErrRange},
			{api.On{Kind: api.Exact, Day: n}, api.ErrRange},
			{api.On{Kind: api.Last, Week: n}, api.ErrRange},
			{api.On{Kind: api.Last, Day: n}, api.ErrRange},
			{api.On{Kind: api.After, Week: n, Day: 1}, api.ErrRange},
			{api.On{Kind: api.After, Day: n}, api.ErrRange},
		} {
			if got := pick.Check(c.o); got != c.want {
				t.Errorf("Check(%v) = %d, want %d", c.o, got, c.want)
			}
			if d, e := pick.Find(2000, 1, c.o); d != 0 || e != c.want {
				t.Errorf("Find(2000, 1, %v) = %d %d, want 0 %d", c.o, d, e, c.want)
			}
		}
	}
}

// allRight are all that Check finds right.
func allRight() []api.On {
	var l []api.On
	for kind := api.Exact; kind <= api.After; kind++ {
		for week := 0; week <= 6; week++ {
			for day := 0; day <= 31; day++ {
				if o := (api.On{Kind: kind, Week: week, Day: day}); wantCheck(o) == api.OK {
					l = append(l, o)
				}
			}
		}
	}
	return l
}

func TestFindAll(t *testing.T) { // B1: all months, all that may be asked; ErrNone, if a month has none
	for y := api.FirstYear; y <= api.LastYear; y++ {
		for m := 1; m <= 12; m++ {
			for _, o := range allRight() {
				want, wantErr := wantFind(y, m, o), api.OK
				if want == 0 {
					wantErr = api.ErrNone
				}
				if d, e := pick.Find(y, m, o); d != want || e != wantErr {
					t.Fatalf("Find(%d, %d, %v) = %d %d, want %d %d", y, m, o, d, e, want, wantErr)
				}
			}
		}
	}
}

func TestFindNamed(t *testing.T) { // B1: the document's example, leap days, months that have no such day
	for _, c := range []struct {
		y, m int
		o    api.On
		d    int
		e    api.Errno
	}{
		{2020, 3, api.On{Kind: api.Last, Week: 0}, 29, api.OK},
		{2020, 2, api.On{Kind: api.Last, Week: 6}, 29, api.OK},
		{2020, 2, api.On{Kind: api.Exact, Day: 29}, 29, api.OK},
		{2021, 2, api.On{Kind: api.Exact, Day: 29}, 0, api.ErrNone},
		{2021, 4, api.On{Kind: api.Exact, Day: 31}, 0, api.ErrNone},
		{2021, 3, api.On{Kind: api.After, Week: 0, Day: 8}, 14, api.OK},
		{2021, 3, api.On{Kind: api.After, Week: 1, Day: 1}, 1, api.OK},
		{2021, 3, api.On{Kind: api.After, Week: 1, Day: 2}, 8, api.OK},
		{2021, 3, api.On{Kind: api.After, Week: 1, Day: 30}, 0, api.ErrNone},
		{2021, 2, api.On{Kind: api.After, Week: 0, Day: 31}, 0, api.ErrNone},
		{1970, 1, api.On{Kind: api.After, Week: 4, Day: 1}, 1, api.OK},
		{2029, 12, api.On{Kind: api.Last, Week: 1}, 31, api.OK},
		{2029, 12, api.On{Kind: api.After, Week: 2, Day: 31}, 0, api.ErrNone},
	} {
		if d, e := pick.Find(c.y, c.m, c.o); d != c.d || e != c.e {
			t.Errorf("Find(%d, %d, %v) = %d %d, want %d %d", c.y, c.m, c.o, d, e, c.d, c.e)
		}
	}
}

func TestFindFirstError(t *testing.T) { // B1, P1: On's own errors ahead of that of the year and the month, that one ahead of ErrNone
	none := api.On{Kind: api.Exact, Day: 31}
	for _, c := range []struct {
		y, m int
		o    api.On
		e    api.Errno
	}{
		{1969, 0, api.On{}, api.ErrKind},
		{2000, 1, api.On{Kind: 4, Week: 9, Day: 99}, api.ErrKind},
		{1969, 13, api.On{Kind: api.Exact, Day: 32}, api.ErrRange},
		{2000, 1, api.On{Kind: api.Exact, Week: 1, Day: 1}, api.ErrRange},
		{2000, 1, api.On{Kind: api.Last, Day: 1}, api.ErrRange},
		{2000, 1, api.On{Kind: api.After}, api.ErrRange},
		{1969, 2, none, api.ErrRange},
		{2030, 2, none, api.ErrRange},
		{2000, 0, none, api.ErrRange},
		{2000, 13, none, api.ErrRange},
		{math.MinInt, 2, none, api.ErrRange},
		{math.MaxInt, 2, none, api.ErrRange},
		{2000, math.MinInt, none, api.ErrRange},
		{2000, math.MaxInt, none, api.ErrRange},
		{2000, 2, none, api.ErrNone},
	} {
		if d, e := pick.Find(c.y, c.m, c.o); d != 0 || e != c.e {
			t.Errorf("Find(%d, %d, %v) = %d %d, want 0 %d", c.y, c.m, c.o, d, e, c.e)
		}
	}
}
