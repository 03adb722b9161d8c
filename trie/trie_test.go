package trie_test

import (
	"math"
	"math/rand"
	"reflect"
	"slices"
	"strings"
	"testing"

	"gnomon/api"
	"gnomon/trie"
)

// node has edges by these bytes, to these nodes.
func node(word int, by string, to ...int) api.Node {
	x := api.Node{Word: word}
	for i, k := range to {
		x.Edges = append(x.Edges, api.Edge{C: by[i], To: k})
	}
	return x
}

// same asks whether tries are the same: an empty list may be nil or not.
func same(a, b []api.Node) bool {
	return slices.EqualFunc(a, b, func(x, y api.Node) bool { return x.Word == y.Word && slices.Equal(x.Edges, y.Edges) })
}

func find(t *testing.T, l []api.Node, s string, want int) {
	t.Helper()
	if word, e := trie.Find(l, s); word != want || e != api.OK {
		t.Errorf("Find(%v, %q) = %d, %d, want %d, 0", l, s, word, e, want)
	}
}

func longest(t *testing.T, l []api.Node, s string, want, bytes int) {
	t.Helper()
	if word, n, e := trie.Longest(l, s); word != want || n != bytes || e != api.OK {
		t.Errorf("Longest(%v, %q) = %d, %d, %d, want %d, %d, 0", l, s, word, n, e, want, bytes)
	}
}

func TestExample(t *testing.T) { // H1, H2: ab, abc, b are five nodes; of abd the longest one is ab
	l, e := trie.Build([]string{"ab", "abc", "b"})
	want := []api.Node{node(-1, "ab", 1, 4), node(-1, "b", 2), node(0, "c", 3), node(1, ""), node(2, "")}
	if !same(l, want) || e != api.OK {
		t.Fatalf("Build = %v, %d, want %v, 0", l, e, want)
	}
	longest(t, l, "abd", 0, 2)
	longest(t, l, "abcd", 1, 3)
	longest(t, l, "ba", 2, 1)
	longest(t, l, "a", -1, 0)
	longest(t, l, "", -1, 0)
	longest(t, l, "x", -1, 0)
	find(t, l, "ab", 0)
	find(t, l, "abc", 1)
	find(t, l, "b", 2)
	for _, s := range []string{"", "a", "abd", "abcd", "ba", "c", "x"} {
		find(t, l, s, -1)
	}
}

func TestBuild(t *testing.T) { // H1: nodes stand in the order in which they come, edges rise by their bytes
	for _, x := range []struct {
		l    []string
		want []api.Node
	}{
		{nil, []api.Node{node(-1, "")}},
		{[]string{}, []api.Node{node(-1, "")}},
		{[]string{"a"}, []api.Node{node(-1, "a", 1), node(0, "")}},
		{[]string{"b", "a"}, []api.Node{node(-1, "ab", 2, 1), node(0, ""), node(1, "")}},
		{[]string{"b", "c", "a"}, []api.Node{node(-1, "abc", 3, 1, 2), node(0, ""), node(1, ""), node(2, "")}},
		{[]string{"a", "a"}, []api.Node{node(-1, "a", 1), node(0, "")}},
		{[]string{"b", "a", "b", "a"}, []api.Node{node(-1, "ab", 2, 1), node(0, ""), node(1, "")}},
		{[]string{"ab", "a", "ab"}, []api.Node{node(-1, "a", 1), node(1, "b", 2), node(0, "")}},
		{[]string{"a", "ab", "ac", "aab"}, []api.Node{node(-1, "a", 1), node(0, "abc", 4, 2, 3), node(1, ""), node(2, ""), node(-1, "b", 5), node(3, "")}},
		{[]string{"\xff", "\x00", "\x80"}, []api.Node{node(-1, "\x00\x80\xff", 2, 3, 1), node(0, ""), node(1, ""), node(2, "")}},
		{[]string{"é"}, []api.Node{node(-1, "\xc3", 1), node(-1, "\xa9", 2), node(0, "")}},
	} {
		if l, e := trie.Build(x.l); !same(l, x.want) || e != api.OK {
			t.Errorf("Build(%q) =\n%v, %d, want\n%v, 0", x.l, l, e, x.want)
		}
	}
}

func TestBuildErrors(t *testing.T) { // H1: too many words, and words that are none, at their bounds
	long := strings.Repeat("a", api.MaxName)
	for _, x := range []struct {
		what string
		l    []string
		want api.Errno
	}{
		{"as many as there may be", slices.Repeat([]string{"a"}, api.MaxWords), api.OK},
		{"one more", slices.Repeat([]string{"a"}, api.MaxWords+1), api.ErrMany},
		{"one more, and no words", make([]string, api.MaxWords+1), api.ErrMany},
		{"many more", make([]string, 1<<16), api.ErrMany},
		{"as long as may be", []string{long}, api.OK},
		{"a byte more", []string{long + "a"}, api.ErrName},
		{"a byte more behind others", []string{"a", "b", long + "a"}, api.ErrName},
		{"far too long", []string{strings.Repeat("a", 1<<20)}, api.ErrName},
		{"empty", []string{""}, api.ErrName},
		{"empty ahead", []string{"", "a"}, api.ErrName},
		{"empty behind", []string{"a", ""}, api.ErrName},
		{"as many as there may be, one of them empty", append(slices.Repeat([]string{"a"}, api.MaxWords-1), ""), api.ErrName},
	} {
		l, e := trie.Build(x.l)
		if e != x.want || (e != api.OK) != (len(l) == 0) {
			t.Errorf("%s: Build = %d nodes, %d, want %d", x.what, len(l), e, x.want)
		}
	}
}

func TestCheck(t *testing.T) { // H1: tries that were not built
	leaf := node(-1, "")
	for _, x := range []struct {
		what string
		l    []api.Node
		want api.Errno
	}{
		{"nothing", nil, api.ErrForm},
		{"an empty list", []api.Node{}, api.ErrForm},
		{"a node", []api.Node{leaf}, api.OK},
		{"a node of no word's number", []api.Node{{}}, api.OK},
		{"a word of a great number", []api.Node{node(math.MaxInt, "")}, api.OK},
		{"a word below", []api.Node{node(-2, "")}, api.ErrForm},
		{"a word far below", []api.Node{node(math.MinInt, "")}, api.ErrForm},
		{"a word below, behind", []api.Node{leaf, node(-2, "")}, api.ErrForm},
		{"an edge", []api.Node{node(-1, "a", 1), leaf}, api.OK},
		{"an edge to itself", []api.Node{node(-1, "a", 0), leaf}, api.ErrForm},
		{"an edge to none", []api.Node{node(-1, "a", 1)}, api.ErrForm},
		{"an edge to none, behind", []api.Node{leaf, node(-1, "a", 2)}, api.ErrForm},
		{"an edge far behind", []api.Node{node(-1, "a", math.MaxInt), leaf}, api.ErrForm},
		{"an edge far ahead", []api.Node{node(-1, "a", math.MinInt), leaf}, api.ErrForm},
		{"an edge below 0", []api.Node{node(-1, "a", -1), leaf}, api.ErrForm},
		{"an edge back", []api.Node{node(-1, "a", 1), node(-1, "a", 0), leaf}, api.ErrForm},
		{"an edge to itself, behind", []api.Node{leaf, node(-1, "a", 1), leaf}, api.ErrForm},
		{"the last edge back", []api.Node{leaf, node(-1, "ab", 2, 0), leaf}, api.ErrForm},
		{"the first edge back", []api.Node{leaf, node(-1, "ab", 0, 2), leaf}, api.ErrForm},
		{"edges to one node", []api.Node{node(-1, "ab", 1, 1), leaf}, api.OK},
		{"edges that cross", []api.Node{node(-1, "ab", 2, 1), leaf, leaf}, api.OK},
		{"nodes to which nothing leads", []api.Node{leaf, leaf, leaf}, api.OK},
		{"edges that fall", []api.Node{node(-1, "ba", 1, 1), leaf}, api.ErrForm},
		{"edges of one byte", []api.Node{node(-1, "aa", 1, 2), leaf, leaf}, api.ErrForm},
		{"edges that fall at last", []api.Node{node(-1, "abdc", 1, 1, 1, 1), leaf}, api.ErrForm},
		{"edges that fall behind", []api.Node{leaf, node(-1, "ba", 2, 2), leaf}, api.ErrForm},
		{"edges of the least and the greatest byte", []api.Node{node(-1, "\x00\xff", 1, 1), leaf}, api.OK},
		{"a word at the first node", []api.Node{node(3, "a", 1), leaf}, api.OK},
		{"one word's number twice", []api.Node{node(3, "a", 1), node(3, "")}, api.OK},
	} {
		if e := trie.Check(x.l); e != x.want {
			t.Errorf("%s: Check = %d, want %d", x.what, e, x.want)
		}
		word, e := trie.Find(x.l, "ab")
		if e != x.want || e != api.OK && word != 0 {
			t.Errorf("%s: Find = %d, %d, want error %d", x.what, word, e, x.want)
		}
		word, n, e := trie.Longest(x.l, "ab")
		if e != x.want || e != api.OK && (word != 0 || n != 0) {
			t.Errorf("%s: Longest = %d, %d, %d, want error %d", x.what, word, n, e, x.want)
		}
	}
}

func TestCheckEdges(t *testing.T) { // H1: a node may have an edge for each byte
	all := node(-1, "")
	for c := range 256 {
		all.Edges = append(all.Edges, api.Edge{C: byte(c), To: 1 + c})
	}
	l := []api.Node{all}
	for c := range 256 {
		l = append(l, node(c, ""))
	}
	if e := trie.Check(l); e != api.OK {
		t.Fatalf("Check = %d, want 0", e)
	}
	for c := range 256 {
		find(t, l, string([]byte{byte(c)}), c)
		longest(t, l, string([]byte{byte(c), 'x'}), c, 1)
	}
}

func TestNotBuilt(t *testing.T) { // H2: in tries that no words were built into
	word := []api.Node{node(5, "ab", 1, 2), node(-1, "b", 2), node(7, "c", 3), node(-1, "")}
	find(t, word, "", 5)
	find(t, word, "a", -1)
	find(t, word, "b", 7)
	find(t, word, "ab", 7)
	find(t, word, "abc", -1)
	find(t, word, "bb", -1)
	longest(t, word, "", 5, 0)
	longest(t, word, "x", 5, 0)
	longest(t, word, "a", 5, 0)
	longest(t, word, "bx", 7, 1)
	longest(t, word, "abc", 7, 2)
	longest(t, word, "abcx", 7, 2)
	find(t, []api.Node{{}}, "", 0)
	longest(t, []api.Node{{}}, "a", 0, 0)
	find(t, []api.Node{node(-1, ""), node(4, "")}, "", -1)
	great := []api.Node{node(-1, "a", 1), node(math.MaxInt, "")}
	find(t, great, "a", math.MaxInt)
	longest(t, great, "a", math.MaxInt, 1)
}

func TestLongText(t *testing.T) { // P1: a text may be far longer than all words
	l, _ := trie.Build([]string{strings.Repeat("a", api.MaxName)})
	find(t, l, strings.Repeat("a", 1<<20), -1)
	longest(t, l, strings.Repeat("a", 1<<20), 0, api.MaxName)
	chain := make([]api.Node, 1<<16)
	for i := range chain {
		chain[i] = node(i, "a", i+1)
	}
	chain[len(chain)-1].Edges = nil
	longest(t, chain, strings.Repeat("a", 1<<20), len(chain)-1, len(chain)-1)
}

// drawn makes words of few bytes by chance, so that many begin alike.
func drawn(r *rand.Rand) []string {
	l := make([]string, r.Intn(api.MaxWords+1))
	for i := range l {
		for range 1 + r.Intn(1+r.Intn(api.MaxName)) {
			l[i] += string("abc"[r.Intn(3)])
		}
	}
	return l
}

// beginnings tells the beginnings of all words, in the order in which they come: one for each node.
func beginnings(l []string) []string {
	all := []string{""}
	for _, word := range l {
		for n := 1; n <= len(word); n++ {
			if !slices.Contains(all, word[:n]) {
				all = append(all, word[:n])
			}
		}
	}
	return all
}

func TestDrawn(t *testing.T) { // H1, H2: what was built in is found, and nothing else; the longest one is found
	r := rand.New(rand.NewSource(1))
	for range 300 {
		words := drawn(r)
		l, e := trie.Build(words)
		if e != api.OK || trie.Check(l) != api.OK {
			t.Fatalf("Build(%q) = %d, Check = %d", words, e, trie.Check(l))
		}
		all := beginnings(words)
		if len(l) != len(all) {
			t.Fatalf("Build(%q) has %d nodes, want %d", words, len(l), len(all))
		}
		for i, x := range l {
			if x.Word != slices.Index(words, all[i]) {
				t.Fatalf("Build(%q): node %d has %d, want the number of %q", words, i, x.Word, all[i])
			}
			for _, edge := range x.Edges {
				if all[edge.To] != all[i]+string([]byte{edge.C}) {
					t.Fatalf("Build(%q): node %d has %v", words, i, edge)
				}
			}
		}
		for _, s := range append(drawn(r), all...) {
			find(t, l, s, slices.Index(words, s))
			n := len(s)
			for n > 0 && !slices.Contains(words, s[:n]) {
				n--
			}
			longest(t, l, s, slices.Index(words, s[:n]), n)
			longest(t, l, s+"d", slices.Index(words, s[:n]), n)
		}
	}
}

func TestOnlyRead(t *testing.T) { // P2: what is handed in is as it was, the spare room too
	words := append([]string{"b", "a"}, "spare")[:2]
	l, _ := trie.Build(words)
	if !slices.Equal(words[:3], []string{"b", "a", "spare"}) {
		t.Errorf("words have become %q", words[:3])
	}
	words[0] = "c"
	find(t, l, "b", 0)

	given := append([]api.Node{node(-1, "ab", 1, 1), node(2, "")}, node(9, ""))[:2]
	given[0].Edges = append(given[0].Edges, api.Edge{C: 'z', To: 7})[:2]
	find(t, given, "b", 2)
	longest(t, given, "bz", 2, 1)
	if e := trie.Check(given); e != api.OK {
		t.Errorf("Check = %d, want 0", e)
	}
	if !same(given[:3], []api.Node{node(-1, "ab", 1, 1), node(2, ""), node(9, "")}) || given[0].Edges[:3][2].C != 'z' {
		t.Errorf("a trie has become %v", given[:3])
	}
}

func TestNewMemory(t *testing.T) { // P2: no two answers, and no two lists of one, share memory
	words := []string{"ba", "bb", "a", "ca", "cb", "cc"}
	a, _ := trie.Build(words)
	b, _ := trie.Build(words)
	for i := range a {
		_ = append(a[i].Edges, api.Edge{C: 'x', To: 99})
	}
	if !same(a, b) {
		t.Errorf("lists share memory: %v", a)
	}
	for i := range a {
		clear(a[i].Edges)
		a[i].Word = 9
	}
	if c, _ := trie.Build(words); !same(b, c) {
		t.Errorf("answers share memory: %v", b)
	}
}

func TestAgain(t *testing.T) { // P3: calls tell the same whatever was asked ahead
	words := []string{"ab", "abc", "b"}
	first, _ := trie.Build(words)
	for range 3 {
		trie.Build([]string{""})
		trie.Build([]string{"abd", "ab"})
		trie.Check(nil)
		l, e := trie.Build(words)
		if !reflect.DeepEqual(l, first) || e != api.OK {
			t.Errorf("Build = %v, %d, was %v", l, e, first)
		}
		longest(t, l, "abd", 0, 2)
		find(t, l, "abd", -1)
	}
}
