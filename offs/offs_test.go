package offs_test

import (
	"fmt"
	"math"
	"strings"
	"testing"

	"gnomon/api"
	"gnomon/offs"
)

const most = 16 * 3600

var styles = []int{api.Basic, api.Wide, api.Short, api.Long}

func show(t *testing.T, style, n int, want string, err api.Errno) {
	t.Helper()
	if s, e := offs.Show(style, n); s != want || e != err {
		t.Errorf("Show(%d, %d) = %q, %d, want %q, %d", style, n, s, e, want, err)
	}
}

func read(t *testing.T, style int, s string, want int, err api.Errno) {
	t.Helper()
	if n, e := offs.Read(style, s); n != want || e != err {
		t.Errorf("Read(%d, %q) = %d, %d, want %d, %d", style, s, n, e, want, err)
	}
}

// shown tells what the chapter asks for, from an offset's parts.
func shown(style, n int) string {
	sign, m := '+', n/60
	if n < 0 {
		sign, m = '-', -m
	}
	switch {
	case style == api.Basic:
		return fmt.Sprintf("%c%02d%02d", sign, m/60, m%60)
	case style == api.Wide && n == 0:
		return "Z"
	case style == api.Wide:
		return fmt.Sprintf("%c%02d:%02d", sign, m/60, m%60)
	case n == 0:
		return "GMT"
	case style == api.Long:
		return fmt.Sprintf("GMT%c%02d:%02d", sign, m/60, m%60)
	case m%60 == 0:
		return fmt.Sprintf("GMT%c%d", sign, m/60)
	}
	return fmt.Sprintf("GMT%c%d:%02d", sign, m/60, m%60)
}

// allShown tells each text of a style, and its offset.
func allShown(style int) map[string]int {
	told := map[string]int{}
	for n := -most; n <= most; n += 60 {
		told[shown(style, n)] = n
	}
	return told
}

func TestExample(t *testing.T) { // K1: -5400 is -0130, 7200 is GMT+2
	show(t, api.Basic, -5400, "-0130", api.OK)
	show(t, api.Short, 7200, "GMT+2", api.OK)
}

func TestShow(t *testing.T) { // K1: 0, both ends, with and without minutes, hours of one digit and of two
	for n, want := range map[int][4]string{
		0:      {"+0000", "Z", "GMT", "GMT"},
		60:     {"+0001", "+00:01", "GMT+0:01", "GMT+00:01"},
		-60:    {"-0001", "-00:01", "GMT-0:01", "GMT-00:01"},
		600:    {"+0010", "+00:10", "GMT+0:10", "GMT+00:10"},
		-1800:  {"-0030", "-00:30", "GMT-0:30", "GMT-00:30"},
		3540:   {"+0059", "+00:59", "GMT+0:59", "GMT+00:59"},
		3600:   {"+0100", "+01:00", "GMT+1", "GMT+01:00"},
		-3600:  {"-0100", "-01:00", "GMT-1", "GMT-01:00"},
		3660:   {"+0101", "+01:01", "GMT+1:01", "GMT+01:01"},
		-5400:  {"-0130", "-01:30", "GMT-1:30", "GMT-01:30"},
		35940:  {"+0959", "+09:59", "GMT+9:59", "GMT+09:59"},
		36000:  {"+1000", "+10:00", "GMT+10", "GMT+10:00"},
		-36060: {"-1001", "-10:01", "GMT-10:01", "GMT-10:01"},
		57540:  {"+1559", "+15:59", "GMT+15:59", "GMT+15:59"},
		57600:  {"+1600", "+16:00", "GMT+16", "GMT+16:00"},
		-57600: {"-1600", "-16:00", "GMT-16", "GMT-16:00"},
	} {
		for i, style := range styles {
			show(t, style, n, want[i], api.OK)
			read(t, style, want[i], n, api.OK)
		}
	}
}

func TestAll(t *testing.T) { // K1, K2: every offset in every style, and every second between
	for _, style := range styles {
		seen := map[string]int{}
		for n := -most; n <= most; n++ {
			if n%60 != 0 {
				show(t, style, n, "", api.ErrRange)
				continue
			}
			show(t, style, n, shown(style, n), api.OK)
			read(t, style, shown(style, n), n, api.OK)
			seen[shown(style, n)]++
		}
		if len(seen) != 2*16*60+1 {
			t.Errorf("style %d has %d texts", style, len(seen))
		}
	}
}

func TestShowErrors(t *testing.T) { // K1: ErrKind, then ErrRange
	for _, n := range []int{-most - 60, most + 60, -most - 1, most + 1, -most - 3600, most + 3600, -1, 1, 59, 61, -59, -61, most - 1, 1 - most, math.MinInt, math.MaxInt, math.MinInt / 60 * 60, math.MaxInt / 60 * 60} {
		for _, style := range styles {
			show(t, style, n, "", api.ErrRange)
		}
	}
	for _, style := range []int{math.MinInt, -1, 0, 5, 6, math.MaxInt} {
		for _, n := range []int{0, 3600, 1, most + 60, math.MinInt} {
			show(t, style, n, "", api.ErrKind)
		}
		for _, s := range []string{"", "Z", "GMT", "+0000", "+01:00", "no"} {
			read(t, style, s, 0, api.ErrKind)
		}
	}
}

func TestReadErrors(t *testing.T) { // K1: texts that no style shows
	for _, s := range []string{
		"", "+", "-", "0", "00", "z", "ZZ", "Z ", " Z", "-Z", "+Z", "UTC", "gmt", "GM", "GMTZ", "GMT ", " GMT", "GMTGMT", "GMT+", "GMT-", "GMT:", "GMT+:",
		"0000", "-0000", "-00:00", "+00:00", "GMT+0", "GMT-0", "GMT+00", "GMT+0:00", "GMT-0:00", "GMT+00:00", "GMT-00:00", "GMT0",
		"0130", "01:30", "GMT1", "GMT 1", "GMT1:30", "gmt+1", "Gmt+1", "UTC+1", "G+1", "1", "+1", "+130", "+1:30", "+013", "+01", "+01:3", "+01:300", "+001:30",
		"GMT+01", "GMT+1:", "GMT+1:0", "GMT+1:3", "GMT+1:00", "GMT+1:300", "GMT+001", "GMT+01:3", "GMT+001:30", "GMT+:30", "GMT+130", "GMT+0130", "GMTGMT+1",
		"+0060", "+00:60", "GMT+0:60", "GMT+00:60", "+0199", "+01:99", "GMT+1:60", "GMT+1:99", "GMT+01:60",
		"+1601", "+16:01", "GMT+16:01", "-1601", "-16:01", "GMT-16:01", "+1700", "+17:00", "GMT+17", "GMT-17", "GMT+17:00", "+9999", "+99:99", "GMT+99", "GMT+100",
		"+01300", "+0130 ", " +0130", "+0130\n", "+0130\x00", "++130", "+-130", "--130", "+ 130", "+0x10", "+1e10", "+1_00", "+01::30", "+0:130", "+013:0", ":+0130", "+0130:", "+:0130",
		"+01.30", "+01-30", "+01+30", "GMT+1:+3", "GMT+1:-3", "+01:+3", "GMT+1.5", "GMT++1", "GMT+-1", "GMT+1:30:00", "+01:30:00", "−0130", "+٠١٣٠",
		"+9223372036854775807", "-9223372036854775808", "+9223372036854775808", "GMT+9223372036854775807", "+5124095576030432", "+18446744073709551616", "+18446744073709551746", "GMT+18446744073709551617",
	} {
		for _, style := range styles {
			read(t, style, s, 0, api.ErrForm)
		}
	}
}

func TestOtherStyle(t *testing.T) { // K1: what another style shows is read only if this one shows it too
	for _, style := range styles {
		right := allShown(style)
		for _, other := range styles {
			for s := range allShown(other) {
				readAs(t, style, s, right)
			}
		}
	}
}

// readAs wants the offset that has this text, or ErrForm.
func readAs(t *testing.T, style int, s string, right map[string]int) {
	t.Helper()
	if n, there := right[s]; there {
		read(t, style, s, n, api.OK)
	} else {
		read(t, style, s, 0, api.ErrForm)
	}
}

func TestNear(t *testing.T) { // K2: texts that differ from one that is shown in one byte, or have one more or less
	const signs = "0169+-:ZGT _\x00\xff"
	for _, style := range styles {
		right := allShown(style)
		for s := range right {
			for i := range len(s) + 1 {
				for _, c := range []byte(signs) {
					readAs(t, style, s[:i]+string([]byte{c})+s[i:], right)
					if i < len(s) {
						readAs(t, style, s[:i]+string([]byte{c})+s[i+1:], right)
					}
				}
				if i < len(s) {
					readAs(t, style, s[:i]+s[i+1:], right)
				}
			}
		}
	}
}

func TestShortTexts(t *testing.T) { // K2: all texts of few signs, behind what a style has ahead of the sign
	for _, style := range styles {
		right := allShown(style)
		for _, ahead := range []string{"", "GMT"} {
			rest := []string{""}
			for range 5 {
				var longer []string
				for _, s := range rest {
					readAs(t, style, ahead+s, right)
					for _, c := range []string{"0", "1", "6", "+", "-", ":"} {
						longer = append(longer, s+c)
					}
				}
				rest = longer
			}
			for _, s := range rest {
				readAs(t, style, ahead+s, right)
			}
		}
	}
}

func TestLongTexts(t *testing.T) { // P1: texts may be far longer than any that is shown
	for _, s := range []string{"0", "+0", "Z", "GMT", "GMT+1", ":", "+01:30", "1", "-", "\x00"} {
		for _, style := range styles {
			read(t, style, strings.Repeat(s, 1<<18), 0, api.ErrForm)
			read(t, style, "+"+strings.Repeat(s, 1<<18), 0, api.ErrForm)
			read(t, style, "GMT+"+strings.Repeat(s, 1<<18), 0, api.ErrForm)
		}
	}
}

func TestAgain(t *testing.T) { // P3: calls tell the same whatever was asked ahead
	for range 3 {
		show(t, api.Wide, 5400, "+01:30", api.OK)
		show(t, 9, 5400, "", api.ErrKind)
		show(t, api.Wide, 1, "", api.ErrRange)
		read(t, api.Long, "GMT+01:30", 5400, api.OK)
		read(t, api.Short, "GMT+01:30", 0, api.ErrForm)
		read(t, 9, "GMT+01:30", 0, api.ErrKind)
	}
}
