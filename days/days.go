// Package days: days: see doc/01-days.md.
package days

import "gnomon/api"

const (
	daysOfYear = 365
	daysOfWeek = 7
	thursday   = 4 // the weekday of day 0
	february   = 2
)

// monthDays: how many days each month has in a year that is no leap year.
var monthDays = [12]int{31, 28, 31, 30, 31, 30, 31, 31, 30, 31, 30, 31}

// Leap: see the chapter.
func Leap(y int) (bool, api.Errno) {
	if !isYear(y) {
		return false, api.ErrRange
	}
	return isLeap(y), api.OK
}

// Days: see the chapter.
func Days(y, m, d int) (int, api.Errno) {
	if !isYear(y) || !isMonth(m) || d < 1 || d > monthLength(y, m) {
		return 0, api.ErrRange
	}
	n := daysAhead(y) + d - 1
	for k := 1; k < m; k++ {
		n += monthLength(y, k)
	}
	return n, api.OK
}

// Date: see the chapter.
func Date(day int) (int, int, int, api.Errno) {
	if !isDay(day) {
		return 0, 0, 0, api.ErrRange
	}
	// All leap days together are less than a year, so this is at most one year too late.
	y := api.FirstYear + day/daysOfYear
	if daysAhead(y) > day {
		y--
	}
	rest, m := day-daysAhead(y), 1
	for rest >= monthLength(y, m) {
		rest -= monthLength(y, m)
		m++
	}
	return y, m, rest + 1, api.OK
}

// Week: see the chapter.
func Week(day int) (int, api.Errno) {
	if !isDay(day) {
		return 0, api.ErrRange
	}
	return (day + thursday) % daysOfWeek, api.OK
}

func isYear(y int) bool { return y >= api.FirstYear && y <= api.LastYear }

func isMonth(m int) bool { return m >= 1 && m <= len(monthDays) }

func isDay(day int) bool { return day >= 0 && day < api.LastDay }

// isLeap needs no rule for centuries: 2000, the only one of these years, is a leap year.
func isLeap(y int) bool { return y%4 == 0 }

func monthLength(y, m int) int {
	if m == february && isLeap(y) {
		return monthDays[m-1] + 1
	}
	return monthDays[m-1]
}

// daysAhead tells how many days lie ahead of a year.
func daysAhead(y int) int {
	leaps := (y-1)/4 - (api.FirstYear-1)/4
	return (y-api.FirstYear)*daysOfYear + leaps
}
