// Package pick: days of months: see doc/02-pick.md.
package pick

import (
	"gnomon/api"
	"gnomon/days"
)

const (
	lastWeekday  = 6
	longestMonth = 31
)

// Check: see the chapter.
func Check(o api.On) api.Errno {
	var right bool
	switch o.Kind {
	case api.Exact:
		right = o.Week == 0 && isDay(o.Day)
	case api.Last:
		right = isWeekday(o.Week) && o.Day == 0
	case api.After:
		right = isWeekday(o.Week) && isDay(o.Day)
	default:
		return api.ErrKind
	}
	if !right {
		return api.ErrRange
	}
	return api.OK
}

// Find: see the chapter.
func Find(y, m int, o api.On) (int, api.Errno) {
	if e := Check(o); e != api.OK {
		return 0, e
	}
	first, e := days.Days(y, m, 1)
	if e != api.OK {
		return 0, e
	}
	weekday := func(d int) int {
		w, _ := days.Week(first + d - 1)
		return w
	}
	d := choose(o, lastDay(y, m), weekday)
	if d == 0 {
		return 0, api.ErrNone
	}
	return d, api.OK
}

func isWeekday(w int) bool { return w >= 0 && w <= lastWeekday }

func isDay(d int) bool { return d >= 1 && d <= longestMonth }

// lastDay asks package days, which alone knows how long months are.
func lastDay(y, m int) int {
	d := longestMonth
	for d > 1 {
		if _, e := days.Days(y, m, d); e == api.OK {
			break
		}
		d--
	}
	return d
}

// choose tells the day of a month that ends with the day last, or 0 if it has none.
func choose(o api.On, last int, weekday func(d int) int) int {
	switch o.Kind {
	case api.Exact:
		if o.Day <= last {
			return o.Day
		}
	case api.Last:
		for d := last; d >= 1; d-- {
			if weekday(d) == o.Week {
				return d
			}
		}
	case api.After:
		for d := o.Day; d <= last; d++ {
			if weekday(d) == o.Week {
				return d
			}
		}
	}
	return 0
}
