package days_test

import (
	"math"
	"testing"
	"time"

	"gnomon/api"
	"gnomon/days"
)

// calendar tells the date of a day by the library's calendar, which shares nothing with package days.
func calendar(day int) time.Time {
	return time.Date(api.FirstYear, 1, 1+day, 0, 0, 0, 0, time.UTC)
}

func TestLeap(t *testing.T) { // A1
	for y := api.FirstYear; y <= api.LastYear; y++ {
		want := time.Date(y, 12, 31, 0, 0, 0, 0, time.UTC).YearDay() == 366
		if got, e := days.Leap(y); got != want || e != api.OK {
			t.Errorf("Leap(%d) = %v %d, want %v 0", y, got, e, want)
		}
	}
}

func TestLeapOfNoYear(t *testing.T) { // A1, P1
	for _, y := range []int{math.MinInt, -4, 0, 4, 1968, 1969, 2030, 2032, math.MaxInt} {
		if got, e := days.Leap(y); got || e != api.ErrRange {
			t.Errorf("Leap(%d) = %v %d, want false %d", y, got, e, api.ErrRange)
		}
	}
}

func TestAllDays(t *testing.T) { // A1, A2: Date of Days is the date, Days of Date the day
	for day := range api.LastDay {
		want := calendar(day)
		y, m, d, e := days.Date(day)
		if y != want.Year() || m != int(want.Month()) || d != want.Day() || e != api.OK {
			t.Fatalf("Date(%d) = %d %d %d %d, want %v", day, y, m, d, e, want)
		}
		if n, e := days.Days(y, m, d); n != day || e != api.OK {
			t.Fatalf("Days(%d, %d, %d) = %d %d, want %d 0", y, m, d, n, e, day)
		}
		if w, e := days.Week(day); w != int(want.Weekday()) || e != api.OK {
			t.Fatalf("Week(%d) = %d %d, want %d 0", day, w, e, want.Weekday())
		}
	}
}

func TestNamedDays(t *testing.T) { // A2: the first one, the last one, leap days, the document's example
	for _, c := range []struct{ y, m, d, day, week int }{
		{1970, 1, 1, 0, 4},
		{1970, 12, 31, 364, 4},
		{1971, 1, 1, 365, 5},
		{1972, 2, 29, 789, 2},
		{1972, 3, 1, 790, 3},
		{2000, 2, 29, 11016, 2},
		{2000, 3, 1, 11017, 3},
		{2029, 12, 31, api.LastDay - 1, 1},
	} {
		if n, e := days.Days(c.y, c.m, c.d); n != c.day || e != api.OK {
			t.Errorf("Days(%d, %d, %d) = %d %d, want %d 0", c.y, c.m, c.d, n, e, c.day)
		}
		if y, m, d, e := days.Date(c.day); y != c.y || m != c.m || d != c.d || e != api.OK {
			t.Errorf("Date(%d) = %d %d %d %d, want %d %d %d 0", c.day, y, m, d, e, c.y, c.m, c.d)
		}
		if w, e := days.Week(c.day); w != c.week || e != api.OK {
			t.Errorf("Week(%d) = %d %d, want %d 0", c.day, w, e, c.week)
		}
	}
}

func TestMonthsEnd(t *testing.T) { // A1, A2: a month has no day ahead of its first or behind its last one
	for y := api.FirstYear; y <= api.LastYear; y++ {
		for m := 1; m <= 12; m++ {
			last := time.Date(y, time.Month(m)+1, 0, 0, 0, 0, 0, time.UTC).Day()
			for d := -1; d <= 33; d++ {
				want := api.OK
				if d < 1 || d > last {
					want = api.ErrRange
				}
				if n, e := days.Days(y, m, d); e != want || e != api.OK && n != 0 {
					t.Errorf("Days(%d, %d, %d) = %d %d, want error %d", y, m, d, n, e, want)
				}
			}
		}
	}
}

func TestNoDate(t *testing.T) { // A2, P1
	for _, c := range [][3]int{
		{1969, 12, 31}, {2030, 1, 1}, {2000, 0, 1}, {2000, 13, 1}, {2000, -1, 1}, {2000, 1, 0},
		{1971, 2, 29}, {2000, 2, 30}, {2000, 4, 31}, {2000, 1, 32},
		{math.MinInt, 1, 1}, {math.MaxInt, 1, 1}, {2000, math.MinInt, 1}, {2000, math.MaxInt, 1},
		{2000, 1, math.MinInt}, {2000, 1, math.MaxInt}, {math.MinInt, math.MinInt, math.MinInt},
	} {
		if n, e := days.Days(c[0], c[1], c[2]); n != 0 || e != api.ErrRange {
			t.Errorf("Days(%v) = %d %d, want 0 %d", c, n, e, api.ErrRange)
		}
	}
}

func TestNoDay(t *testing.T) { // A2, P1
	for _, day := range []int{math.MinInt, -365, -1, api.LastDay, api.LastDay + 1, math.MaxInt} {
		if y, m, d, e := days.Date(day); y != 0 || m != 0 || d != 0 || e != api.ErrRange {
			t.Errorf("Date(%d) = %d %d %d %d, want 0 0 0 %d", day, y, m, d, e, api.ErrRange)
		}
		if w, e := days.Week(day); w != 0 || e != api.ErrRange {
			t.Errorf("Week(%d) = %d %d, want 0 %d", day, w, e, api.ErrRange)
		}
	}
}
