package books_test

import (
	"math"
	"math/rand"
	"slices"
	"strconv"
	"strings"
	"testing"

	"gnomon/api"
	"gnomon/books"
)

func pair(key, text string) api.Pair { return api.Pair{Key: key, Text: text} }

func book(locale string, parent int, l ...api.Pair) api.Book {
	return api.Book{Locale: locale, Parent: parent, Pairs: l}
}

// base has a book without a parent, one with, one whose parent has one and which has no pairs, and one that stands alone.
func base() []api.Book {
	return []api.Book{
		book("root", -1, pair("A/West", "West"), pair("mid/d", "MDT"), pair("mid/s", "MST")),
		book("xx", 0, pair("A/West", ""), pair("B", "Bee"), pair("mid/s", "mst")),
		book("yy", 1),
		book("alone", -1, pair("mid/d", "")),
	}
}

// ofMany is so many pairs, whose keys rise.
func ofMany(n int) []api.Pair {
	var l []api.Pair
	for i := range n {
		l = append(l, pair("k"+strconv.Itoa(100+i), "t"))
	}
	return l
}

// change is something done to books, and what Check must say of them then.
type change struct {
	what string
	do   func(l []api.Book) []api.Book
	want api.Errno
}

func check(t *testing.T, l []change) {
	t.Helper()
	for _, c := range l {
		told(t, c.what, c.do(base()), c.want)
	}
}

// told asks both calls: Text tells what Check tells, ahead of what it has to say of the rest.
func told(t *testing.T, what string, l []api.Book, want api.Errno) {
	t.Helper()
	if e := books.Check(l); e != want {
		t.Errorf("%s: Check = %d, want %d", what, e, want)
	}
	if want == api.OK {
		return
	}
	for _, locale := range []string{"root", "yy", "no", ""} {
		for _, key := range []string{"mid/s", "no", ""} {
			text(t, l, locale, key, "", want)
		}
	}
}

// text asks for a text; an empty one is wanted where there is none.
func text(t *testing.T, l []api.Book, locale, key, want string, err api.Errno) {
	t.Helper()
	if s, is, e := books.Text(l, locale, key); s != want || is != (want != "") || e != err {
		t.Errorf("Text(%v, %q, %q) = %q, %v, %d, want %q, %d", l, locale, key, s, is, e, want, err)
	}
}

func TestCheckRight(t *testing.T) { // J1: the bounds themselves are right
	long := strings.Repeat("a", api.MaxName)
	check(t, []change{
		{"as they are", func(l []api.Book) []api.Book { return l }, api.OK},
		{"nothing", func(l []api.Book) []api.Book { return nil }, api.OK},
		{"an empty list", func(l []api.Book) []api.Book { return []api.Book{} }, api.OK},
		{"a book without pairs", func(l []api.Book) []api.Book { return []api.Book{book("a", -1)} }, api.OK},
		{"a book with an empty list", func(l []api.Book) []api.Book { l[0].Pairs = []api.Pair{}; return l }, api.OK},
		{"as many pairs as there may be", func(l []api.Book) []api.Book { l[3].Pairs = ofMany(api.MaxPairs); return l }, api.OK},
		{"as many in each", func(l []api.Book) []api.Book {
			for i := range l {
				l[i].Pairs = ofMany(api.MaxPairs)
			}
			return l
		}, api.OK},
		{"a long Locale", func(l []api.Book) []api.Book { l[0].Locale = long; return l }, api.OK},
		{"a long Key", func(l []api.Book) []api.Book { l[3].Pairs[0].Key = long; return l }, api.OK},
		{"a long Text", func(l []api.Book) []api.Book { l[3].Pairs[0].Text = long; return l }, api.OK},
		{"an empty Text", func(l []api.Book) []api.Book { l[0].Pairs[0].Text = ""; return l }, api.OK},
		{"a Text of any bytes", func(l []api.Book) []api.Book { l[0].Pairs[0].Text = "\x00\xff é/\n"; return l }, api.OK},
		{"Texts that are the same", func(l []api.Book) []api.Book { l[0].Pairs[0].Text = "MDT"; return l }, api.OK},
		{"Locales that differ in case", func(l []api.Book) []api.Book { l[1].Locale = "Root"; return l }, api.OK},
		{"a Locale that another one begins with", func(l []api.Book) []api.Book { l[1].Locale = "roo"; return l }, api.OK},
		{"a Locale that is a Key", func(l []api.Book) []api.Book { l[0].Locale = "mid/s"; return l }, api.OK},
		{"Locales that fall", func(l []api.Book) []api.Book { l[0].Locale = "zz"; return l }, api.OK},
		{"Keys that rise by case", func(l []api.Book) []api.Book { l[0].Pairs = []api.Pair{pair("Z", ""), pair("a", "")}; return l }, api.OK},
		{"a Key that the next one begins with", func(l []api.Book) []api.Book { l[0].Pairs = []api.Pair{pair("a", ""), pair("a+", "")}; return l }, api.OK},
		{"Keys that rise by signs", func(l []api.Book) []api.Book {
			l[0].Pairs = []api.Pair{pair("a+", ""), pair("a-", ""), pair("a/b", ""), pair("a0", ""), pair("aA", ""), pair("a_", ""), pair("aa", "")}
			return l
		}, api.OK},
		{"one parent of all", func(l []api.Book) []api.Book { l[2].Parent, l[3].Parent = 0, 0; return l }, api.OK},
		{"each one the parent of the next", func(l []api.Book) []api.Book { l[3].Parent = 2; return l }, api.OK},
		{"no parents", func(l []api.Book) []api.Book { l[1].Parent, l[2].Parent = -1, -1; return l }, api.OK},
	})
}

func TestCheckWrong(t *testing.T) { // J1: each error, at its bounds
	long := strings.Repeat("a", api.MaxName+1)
	check(t, []change{
		{"one book too many", func(l []api.Book) []api.Book { return append(l, book("more", -1)) }, api.ErrMany},
		{"far too many books", func(l []api.Book) []api.Book { return make([]api.Book, 1<<16) }, api.ErrMany},
		{"one pair too many", func(l []api.Book) []api.Book { l[0].Pairs = ofMany(api.MaxPairs + 1); return l }, api.ErrMany},
		{"one pair too many, at last", func(l []api.Book) []api.Book { l[3].Pairs = ofMany(api.MaxPairs + 1); return l }, api.ErrMany},
		{"an empty Locale", func(l []api.Book) []api.Book { l[0].Locale = ""; return l }, api.ErrName},
		{"a Locale that is no name", func(l []api.Book) []api.Book { l[3].Locale = "a/"; return l }, api.ErrName},
		{"a Locale that is too long", func(l []api.Book) []api.Book { l[2].Locale = long; return l }, api.ErrName},
		{"an empty Key", func(l []api.Book) []api.Book { l[0].Pairs[0].Key = ""; return l }, api.ErrName},
		{"a Key that is no name", func(l []api.Book) []api.Book { l[1].Pairs[2].Key = "mid/"; return l }, api.ErrName},
		{"a Key that is too long", func(l []api.Book) []api.Book { l[3].Pairs[0].Key = long; return l }, api.ErrName},
		{"a Text that is too long", func(l []api.Book) []api.Book { l[0].Pairs[2].Text = long; return l }, api.ErrName},
		{"a Text that is too long, at last", func(l []api.Book) []api.Book { l[3].Pairs[0].Text = long; return l }, api.ErrName},
		{"a Text of as many letters, and more bytes", func(l []api.Book) []api.Book { l[0].Pairs[0].Text = strings.Repeat("é", 7); return l }, api.ErrName},
		{"a Text that is far too long", func(l []api.Book) []api.Book { l[0].Pairs[0].Text = strings.Repeat("a", 1<<20); return l }, api.ErrName},
		{"two Locales", func(l []api.Book) []api.Book { l[1].Locale = "root"; return l }, api.ErrThere},
		{"the first and the last Locale", func(l []api.Book) []api.Book { l[3].Locale = "root"; return l }, api.ErrThere},
		{"two Locales behind", func(l []api.Book) []api.Book { l[3].Locale = "yy"; return l }, api.ErrThere},
		{"a Key twice", func(l []api.Book) []api.Book { l[0].Pairs[1].Key = "A/West"; return l }, api.ErrThere},
		{"a Key twice, at last", func(l []api.Book) []api.Book { l[0].Pairs[2].Key = "mid/d"; return l }, api.ErrThere},
		{"Keys that fall", func(l []api.Book) []api.Book { l[0].Pairs[0].Key = "z"; return l }, api.ErrThere},
		{"Keys that fall at last", func(l []api.Book) []api.Book { l[0].Pairs[2].Key = "A"; return l }, api.ErrThere},
		{"Keys that fall by case", func(l []api.Book) []api.Book { l[3].Pairs = []api.Pair{pair("a", ""), pair("Z", "")}; return l }, api.ErrThere},
		{"a Key that the one ahead begins with", func(l []api.Book) []api.Book { l[3].Pairs = []api.Pair{pair("a+", ""), pair("a", "")}; return l }, api.ErrThere},
		{"the first one its own parent", func(l []api.Book) []api.Book { l[0].Parent = 0; return l }, api.ErrRange},
		{"one its own parent", func(l []api.Book) []api.Book { l[2].Parent = 2; return l }, api.ErrRange},
		{"a parent behind", func(l []api.Book) []api.Book { l[1].Parent = 2; return l }, api.ErrRange},
		{"parents of each other", func(l []api.Book) []api.Book { l[0].Parent = 1; return l }, api.ErrRange},
		{"a parent that is none", func(l []api.Book) []api.Book { l[3].Parent = 4; return l }, api.ErrRange},
		{"a parent below -1", func(l []api.Book) []api.Book { l[3].Parent = -2; return l }, api.ErrRange},
		{"a parent far below", func(l []api.Book) []api.Book { l[0].Parent = math.MinInt; return l }, api.ErrRange},
		{"a parent far above", func(l []api.Book) []api.Book { l[3].Parent = math.MaxInt; return l }, api.ErrRange},
	})
}

func TestCheckOrder(t *testing.T) { // J1: of two errors the one that is named first, wherever it stands
	wrong := []struct {
		e  api.Errno
		do func(l []api.Book, i int) []api.Book
	}{
		{api.ErrMany, func(l []api.Book, i int) []api.Book { return append(l, book("more", -1)) }},
		{api.ErrMany, func(l []api.Book, i int) []api.Book { l[i].Pairs = ofMany(api.MaxPairs + 1); return l }},
		{api.ErrName, func(l []api.Book, i int) []api.Book { l[i].Locale = "1"; return l }},
		{api.ErrName, func(l []api.Book, i int) []api.Book { l[i].Pairs = append(l[i].Pairs, pair("z z", "")); return l }},
		{api.ErrName, func(l []api.Book, i int) []api.Book { l[i].Pairs[0].Text = "abcdefghijklm"; return l }},
		{api.ErrThere, func(l []api.Book, i int) []api.Book { l[2].Locale = l[3].Locale; return l }},
		{api.ErrThere, func(l []api.Book, i int) []api.Book { l[i].Pairs = append(l[i].Pairs, pair("A", "")); return l }},
		{api.ErrRange, func(l []api.Book, i int) []api.Book { l[i].Parent = i; return l }},
	}
	for i, a := range wrong {
		for _, b := range wrong[i+1:] {
			for _, at := range [][2]int{{0, 1}, {1, 0}} {
				told(t, "two errors", b.do(a.do(base(), at[0]), at[1]), a.e)
			}
		}
	}
}

func TestExample(t *testing.T) { // J1: an empty text of the second book says that there is none
	text(t, base(), "xx", "A/West", "", api.OK)
	text(t, base(), "root", "A/West", "West", api.OK)
}

func TestText(t *testing.T) { // J1: a book's own texts, those of its parents, and none
	for locale, texts := range map[string]map[string]string{
		"root":  {"A/West": "West", "B": "", "mid/d": "MDT", "mid/s": "MST"},
		"xx":    {"A/West": "", "B": "Bee", "mid/d": "MDT", "mid/s": "mst"},
		"yy":    {"A/West": "", "B": "Bee", "mid/d": "MDT", "mid/s": "mst"},
		"alone": {"A/West": "", "B": "", "mid/d": "", "mid/s": ""},
	} {
		for key, want := range texts {
			text(t, base(), locale, key, want, api.OK)
		}
		for _, key := range []string{"", "none", "1", "mid", "mid/", "mid/ss", "MID/S", locale, strings.Repeat("k", 1<<16)} {
			text(t, base(), locale, key, "", api.OK)
		}
	}
}

func TestTextNearest(t *testing.T) { // J1: where a key stands first, whether its text is empty there or not
	chain := func(a, b, c, d []api.Pair) []api.Book {
		return []api.Book{book("a", -1, a...), book("b", 0, b...), book("c", 1, c...), book("d", 2, d...)}
	}
	one, two, empty := []api.Pair{pair("k", "one")}, []api.Pair{pair("k", "two")}, []api.Pair{pair("k", "")}
	for _, x := range []struct {
		l    []api.Book
		want string
	}{
		{chain(one, nil, nil, nil), "one"},
		{chain(one, two, nil, nil), "two"},
		{chain(one, nil, two, nil), "two"},
		{chain(one, nil, nil, two), "two"},
		{chain(one, two, nil, empty), ""},
		{chain(one, two, empty, nil), ""},
		{chain(one, empty, two, nil), "two"},
		{chain(empty, one, nil, nil), "one"},
		{chain(empty, nil, nil, nil), ""},
		{chain(nil, nil, nil, nil), ""},
		{chain(nil, nil, nil, one), "one"},
	} {
		text(t, x.l, "d", "k", x.want, api.OK)
	}
}

func TestTextParents(t *testing.T) { // J1: only parents are asked, not whatever stands ahead
	l := []api.Book{book("a", -1, pair("k", "a")), book("b", -1, pair("k", "b")), book("c", 0), book("d", -1)}
	text(t, l, "c", "k", "a", api.OK)
	text(t, l, "d", "k", "", api.OK)
	l[3].Parent = 1
	text(t, l, "d", "k", "b", api.OK)
	l[1].Parent, l[1].Pairs = 0, nil
	text(t, l, "d", "k", "a", api.OK)
	text(t, l, "a", "k", "a", api.OK)
}

func TestTextBounds(t *testing.T) { // J1: texts and names at their bounds, and every pair of a full book
	long := strings.Repeat("z", api.MaxName)
	l := []api.Book{book(long, -1, append(ofMany(api.MaxPairs-1), pair(long, long))...)}
	text(t, l, long, long, long, api.OK)
	text(t, l, long, long+"z", "", api.OK)
	text(t, l, long, long[1:], "", api.OK)
	for i := range l[0].Pairs {
		l[0].Pairs[i].Text = "\x00\xff" + strconv.Itoa(i)
		text(t, l, long, l[0].Pairs[i].Key, "\x00\xff"+strconv.Itoa(i), api.OK)
	}
}

func TestTextNoLocale(t *testing.T) { // J1: ErrNone, whatever the key is
	for _, locale := range []string{"", "zz", "1", "Root", "roo", "roott", "mid/s", strings.Repeat("r", 1<<16)} {
		for _, key := range []string{"mid/s", "none", ""} {
			text(t, base(), locale, key, "", api.ErrNone)
			text(t, nil, locale, key, "", api.ErrNone)
			text(t, []api.Book{}, locale, key, "", api.ErrNone)
		}
	}
}

// drawn makes right books by chance, and what each of them tells of each key.
func drawn(r *rand.Rand, keys []string) ([]api.Book, []map[string]string) {
	l := make([]api.Book, r.Intn(api.MaxBooks+1))
	tells := make([]map[string]string, len(l))
	for i := range l {
		l[i] = book("l"+strconv.Itoa(i), r.Intn(i+1)-1)
		tells[i] = map[string]string{}
		if l[i].Parent >= 0 {
			for key, s := range tells[l[i].Parent] {
				tells[i][key] = s
			}
		}
		for _, key := range keys {
			if r.Intn(2) == 0 && len(l[i].Pairs) < api.MaxPairs {
				p := pair(key, strings.Repeat(strconv.Itoa(i), r.Intn(4)))
				l[i].Pairs, tells[i][key] = append(l[i].Pairs, p), p.Text
			}
		}
	}
	return l, tells
}

func TestDrawn(t *testing.T) { // J1: what a book has it tells, whatever its parents have
	r := rand.New(rand.NewSource(1))
	keys := []string{"A", "A/B", "A0", "AB", "B", "a", "a-", "a/b", "ab", "b"}
	for range 2000 {
		l, tells := drawn(r, keys)
		told(t, "drawn books", l, api.OK)
		for i, b := range l {
			for _, key := range keys {
				text(t, l, b.Locale, key, tells[i][key], api.OK)
			}
		}
	}
}

func TestOnlyRead(t *testing.T) { // P2: books are as they were, the spare room too
	full := func() []api.Book {
		l := append(base(), book("spare", 9, pair("spare", "spare")))
		l[0].Pairs = append(l[0].Pairs, pair("spare", "spare"))
		return l
	}
	given := full()
	given[0].Pairs = given[0].Pairs[:3]
	l := given[:4]
	books.Check(l)
	text(t, l, "yy", "mid/d", "MDT", api.OK)
	text(t, l, "root", "spare", "", api.OK)
	text(t, l, "spare", "spare", "", api.ErrNone)
	given[0].Pairs = given[0].Pairs[:4]
	same := slices.EqualFunc(given, full(), func(a, b api.Book) bool {
		return a.Locale == b.Locale && a.Parent == b.Parent && slices.Equal(a.Pairs, b.Pairs)
	})
	if !same {
		t.Errorf("books have become %v", given)
	}
}

func TestAgain(t *testing.T) { // P2, P3: calls tell the same whatever was asked ahead, and nothing is kept
	l := base()
	for range 3 {
		text(t, l, "yy", "mid/s", "mst", api.OK)
		text(t, nil, "yy", "mid/s", "", api.ErrNone)
		text(t, l, "root", "mid/s", "MST", api.OK)
	}
	l[1].Pairs[2].Text = "new"
	text(t, l, "yy", "mid/s", "new", api.OK)
}
