// Package rules: rules: see doc/03-rules.md.
package rules

import (
	"gnomon/api"
	"gnomon/days"
	"gnomon/pick"
)

const lastMonth = 12

// Check: see the chapter.
func Check(r api.Rule) api.Errno {
	if !inBounds(r) {
		return api.ErrRange
	}
	if e := pick.Check(r.On); e != api.OK {
		return e
	}
	if !isLetters(r.Letter) {
		return api.ErrName
	}
	for y := r.From; y <= r.To; y++ {
		if _, e := pick.Find(y, r.Month, r.On); e != api.OK {
			return e
		}
	}
	return api.OK
}

// At: see the chapter.
func At(r api.Rule, y, std int) (int, api.Errno) {
	if e := Check(r); e != api.OK {
		return 0, e
	}
	if y < r.From || y > r.To || !isStd(std) {
		return 0, api.ErrRange
	}
	return begin(r, y, std), api.OK
}

// Last: see the chapter.
func Last(l []api.Rule, std, t int) (int, int, api.Errno) {
	if len(l) > api.MaxRules {
		return 0, 0, api.ErrMany
	}
	for _, r := range l {
		if e := Check(r); e != api.OK {
			return 0, 0, e
		}
	}
	if !isStd(std) || t < 0 || t >= api.EndTime {
		return 0, 0, api.ErrRange
	}
	which, when := latest(l, std, t)
	if which < 0 {
		return 0, 0, api.ErrNone
	}
	return which, when, api.OK
}

func inBounds(r api.Rule) bool {
	return r.From >= api.FirstYear && r.From <= r.To && r.To <= api.LastYear &&
		r.Month >= 1 && r.Month <= lastMonth &&
		r.At >= 0 && r.At <= api.DaySecs &&
		r.Save >= 0 && r.Save <= api.MaxSave
}

func isStd(std int) bool { return std >= -api.MaxStd && std <= api.MaxStd }

func isLetters(s string) bool {
	if len(s) > api.MaxName {
		return false
	}
	for i := 0; i < len(s); i++ {
		if !isLetter(s[i]) {
			return false
		}
	}
	return true
}

func isLetter(c byte) bool { return c >= 'A' && c <= 'Z' || c >= 'a' && c <= 'z' }

// begin asks for no errors: the rule is right and has that year.
func begin(r api.Rule, y, std int) int {
	d, _ := pick.Find(y, r.Month, r.On)
	day, _ := days.Days(y, r.Month, d)
	return day*api.DaySecs + r.At - std
}

// latest tells -1 if none has begun: 0 is a rule's number, and any time may be when one begins.
func latest(l []api.Rule, std, t int) (int, int) {
	which, when := -1, 0
	for i, r := range l {
		for y := r.From; y <= r.To; y++ {
			at := begin(r, y, std)
			// Not only later but as late: of several at one time the one that stands last holds.
			if at <= t && (which < 0 || at >= when) {
				which, when = i, at
			}
		}
	}
	return which, when
}
