package rulesyntax

import (
	"math/rand"
	"regexp"
	"slices"
	"strings"
	"testing"

	"timetable/api"
)

// grammar is the one of the chapter: for each symbol its alternatives, in which other words are themselves.
var grammar = map[string][]string{
	"rule":   {"NAME : weight body END"},
	"weight": {"hard", "WEIGHT"},
	"body":   {"pairs sel", "before sel , sel", "counts NUMBER sel", "listed sel , LIST"},
	"pairs":  {"apart", "sameday", "otherday", "sameroom", "samestart", "travel"},
	"counts": {"most", "gap", "span"},
	"listed": {"avoid", "rooms"},
	"sel":    {"conj conjs"},
	"conjs":  {"", "or sel"},
	"conj":   {"atom atoms"},
	"atoms":  {"", "and conj"},
	"atom":   {"all", "not atom", "( sel )", "named NAME"},
	"named":  {"class", "course", "part", "curriculum", "staff", "feature"},
}

// patterns are those of the symbols in capitals.
var patterns = map[string]*regexp.Regexp{
	"NAME":   regexp.MustCompile(`^[A-Za-z0-9][A-Za-z0-9_-]{0,15}$`),
	"NUMBER": regexp.MustCompile(`^(0|[1-9][0-9]{0,3})$`),
	"WEIGHT": regexp.MustCompile(`^[1-9][0-9]{0,3}$`),
	"LIST":   regexp.MustCompile(`^\[[^\]]*\]$`),
	"END":    regexp.MustCompile(`^$`),
}

// isToken reports whether a word, a sign or the end of a line is what a symbol stands for.
func isToken(symbol, token string) bool {
	if pattern := patterns[symbol]; pattern != nil {
		return pattern.MatchString(token)
	}
	return token == symbol
}

// follow returns what can stand behind a token, for each of what can stand from this token on.
func follow(expected []string, token string) []string {
	var after []string
	for len(expected) > 0 {
		symbol, rest, _ := strings.Cut(expected[0], " ")
		expected = expected[1:]
		for _, alternative := range grammar[symbol] {
			expected = append(expected, strings.TrimSpace(alternative+" "+rest))
		}
		if grammar[symbol] == nil && isToken(symbol, token) && !slices.Contains(after, rest) {
			after = append(after, rest)
		}
	}
	return after
}

// faultOf returns which token is the first one that the grammar does not allow; the number of all, with the end, if there is none.
func faultOf(tokens []string) int {
	expected := []string{"rule"}
	for i, token := range append(slices.Clone(tokens), "") {
		if expected = follow(expected, token); len(expected) == 0 {
			return i
		}
	}
	return len(tokens) + 1
}

// divided divides tokens at a word outside of parentheses.
func divided(tokens []string, word string) [][]string {
	parts, depth := [][]string{nil}, 0
	for i, token := range tokens {
		isName := i > 0 && slices.Contains(grammar["named"], tokens[i-1]) && !isNameAt(tokens, i-1)
		switch {
		case token == "(":
			depth++
		case token == ")":
			depth--
		case token == word && depth == 0 && !isName:
			parts = append(parts, nil)
			continue
		}
		parts[len(parts)-1] = append(parts[len(parts)-1], token)
	}
	return parts
}

// isNameAt reports whether a token is the name behind a word.
func isNameAt(tokens []string, i int) bool {
	return i > 0 && slices.Contains(grammar["named"], tokens[i-1]) && !isNameAt(tokens, i-1)
}

// selectionOf returns the selection that tokens are, which follow the grammar.
func selectionOf(tokens []string) api.Select {
	for _, x := range []struct {
		word string
		kind int
	}{{"or", api.SelectOr}, {"and", api.SelectAnd}} {
		if parts := divided(tokens, x.word); len(parts) > 1 {
			var kids []api.Select
			for _, part := range parts {
				kids = append(kids, selectionOf(part))
			}
			return api.Select{Kind: x.kind, Kids: kids}
		}
	}
	switch tokens[0] {
	case "not":
		return not(selectionOf(tokens[1:]))
	case "(":
		return selectionOf(tokens[1 : len(tokens)-1])
	case "all":
		return everything()
	}
	return pick(api.SelectClass+slices.Index(grammar["named"], tokens[0]), tokens[1])
}

// checkTokens compares what is read from tokens with the grammar.
func checkTokens(t *testing.T, blank string, tokens ...string) {
	t.Helper()
	line := strings.Join(tokens, blank)
	l, p := Parse(line, grid(), tenWeeks)
	at := faultOf(tokens)
	switch {
	case at <= len(tokens):
		column := len(line) + 1
		if at < len(tokens) {
			column = len(strings.Join(append(slices.Clone(tokens[:at]), ""), blank)) + 1
		}
		if len(l) > 0 || !slices.Equal(p, []api.Problem{problem(1, column, api.ErrSyntax)}) {
			t.Errorf("%q: %v, %v, want a problem in the column %d", line, l, p, column)
		}
	case tokens[3] != "apart":
		if len(l) > 0 == (len(p) > 0) || len(p) > 0 && p[0].Column > 0 {
			t.Errorf("%q: %v, %v", line, l, p)
		}
	default:
		want := selectionOf(tokens[4:])
		if depth, parts := sizeOf(want); depth > 8 || parts > 64 {
			if len(l) > 0 || !slices.Equal(p, []api.Problem{problem(1, 0, api.ErrForm)}) {
				t.Errorf("%q: %v, %v, want a problem of the whole line", line, l, p)
			}
		} else if len(p) > 0 || !equalSelects(l[0].First, want) {
			t.Errorf("%q: %v, %v, want %v", line, l, p, want)
		}
	}
}

// sizeOf returns how deep a selection is nested, and how many parts it has.
func sizeOf(s api.Select) (depth, parts int) {
	for _, kid := range s.Kids {
		d, n := sizeOf(kid)
		depth, parts = max(depth, d), parts+n
	}
	return depth + 1, parts + 1
}

// allOf calls a function with all lists of n words.
func allOf(words []string, n int, use func(l []string)) {
	l := make([]string, n)
	var fill func(i int)
	fill = func(i int) {
		if i == n {
			use(l)
			return
		}
		for _, word := range words {
			l[i] = word
			fill(i + 1)
		}
	}
	fill(0)
}

// P14.2: all short selections, right and wrong.
func TestGrammarSelections(t *testing.T) {
	words := []string{"all", "class", "and", "or", "not", "(", ")", ","}
	for n := range 6 {
		allOf(words, n, func(l []string) {
			checkTokens(t, " ", append([]string{"a", ":", "1", "apart"}, l...)...)
		})
	}
	allOf([]string{"all", "class", "or", ","}, 5, func(l []string) {
		checkTokens(t, "\t", append([]string{"a", ":", "1", "before"}, l...)...)
	})
}

// P14.2: all short lines, right and wrong.
func TestGrammarLines(t *testing.T) {
	words := []string{"a", ":", ",", "hard", "7", "0", "apart", "before", "most", "avoid", "all", "staff", "[]", "]", "_"}
	for n := 1; n < 5; n++ {
		allOf(words, n, func(l []string) { checkTokens(t, "  ", l...) })
	}
	for _, word := range []string{"before", "most", "avoid", "rooms", "gap"} {
		for n := range 5 {
			allOf([]string{":", ",", "7", "0", "most", "all", "[x]", "]", "(", ")"}, n, func(l []string) {
				checkTokens(t, " ", append([]string{"all", ":", "hard", word}, l...)...)
			})
		}
	}
}

// P14.2: long lines, right ones and such with a change.
func TestGrammarLong(t *testing.T) {
	words := slices.Concat(grammarWords(), strings.Fields("x 0 7 1000 01 10000 -x aaaaaaaaaaaaaaaaa : , ( ) ] [Mo] [R1;R2]"))
	random := rand.New(rand.NewSource(14))
	for range 5000 {
		tokens := derived(random, "rule", 0)
		checkTokens(t, " ", tokens...)
		i := random.Intn(len(tokens))
		word := words[random.Intn(len(words))]
		checkTokens(t, "\t ", slices.Insert(slices.Clone(tokens), i, word)...)
		checkTokens(t, "  ", slices.Delete(slices.Clone(tokens), i, i+1)...)
		tokens[i] = word
		checkTokens(t, " ", tokens...)
	}
}

// derived returns tokens that a symbol of the grammar can stand for; not too many, since where it is nested deep, the first alternative ends a selection.
func derived(random *rand.Rand, symbol string, depth int) []string {
	samples := map[string][]string{"NAME": {"x", "or", "9-_"}, "NUMBER": {"0", "24"}, "WEIGHT": {"1", "1000"}, "LIST": {"[Mo]", "[]"}, "END": {""}}
	if l := samples[symbol]; l != nil {
		return strings.Fields(l[random.Intn(len(l))])
	}
	alternatives := grammar[symbol]
	switch {
	case alternatives == nil:
		return []string{symbol}
	case depth > 14:
		alternatives = alternatives[:1]
	}
	var l []string
	for part := range strings.FieldsSeq(alternatives[random.Intn(len(alternatives))]) {
		l = append(l, derived(random, part, depth+1)...)
	}
	return l
}
