// Package read makes a policy's text into its tree.
package read

import (
	"weft/api"
	"weft/scan"
	"weft/tree"
)

// nowhere is behind every place of a text.
const nowhere = api.MaxText + 1

// reader is where the reading of a text stands.
type reader struct {
	tokens []scan.Token
	next   int // the token that comes now
	atoms  int // how many fields came
	deep   int // in how many brackets and negations we are
	noTest int // the place of the first negation of what is no test
	errno  api.Errno
	place  int
}

// Policy tells the tree of a text, or else the error of the text and its place.
func Policy(text string) (tree.Node, api.Errno, int) {
	if len(text) > api.MaxText {
		return nil, api.ErrLong, 0
	}
	r := reader{tokens: scan.Tokens(text), noTest: nowhere}
	n, ok := r.sum()
	if ok && r.now().Kind != scan.End {
		n, ok = r.fail(api.ErrSyntax)
	}
	if !ok {
		return nil, r.errno, r.place
	}
	if r.noTest != nowhere {
		return nil, api.ErrTest, r.noTest
	}
	return n, api.OK, 0
}

func (r *reader) now() scan.Token { return r.tokens[r.next] }

// fail notes an error at the token that comes now.
func (r *reader) fail(e api.Errno) (tree.Node, bool) {
	r.errno, r.place = e, r.now().At
	return nil, false
}

// skip goes past the token that comes now, if it is of this kind.
func (r *reader) skip(kind scan.Kind) bool {
	if r.now().Kind != kind {
		return false
	}
	r.next++
	return true
}

func (r *reader) sum() (tree.Node, bool) {
	return r.list(r.seq, scan.Plus, tree.Sum)
}

func (r *reader) seq() (tree.Node, bool) {
	return r.list(r.part, scan.Then, tree.Seq)
}

// list reads parts with a sign between them, and joins them.
func (r *reader) list(part func() (tree.Node, bool), between scan.Kind, join func(...tree.Node) tree.Node) (tree.Node, bool) {
	var parts []tree.Node
	for {
		n, ok := part()
		if !ok {
			return nil, false
		}
		parts = append(parts, n)
		if !r.skip(between) {
			return join(parts...), true
		}
	}
}

func (r *reader) part() (tree.Node, bool) {
	n, ok := r.atom()
	for ok && r.skip(scan.Star) {
		n = tree.Star(n)
	}
	return n, ok
}

func (r *reader) atom() (tree.Node, bool) {
	switch r.now().Kind {
	case scan.Word:
		return r.word()
	case scan.Not:
		return r.deeper(r.negation)
	case scan.Open:
		return r.deeper(r.brackets)
	}
	return r.fail(api.ErrSyntax)
}

// deeper reads what begins with a bracket or a negation, unless too many are around it.
func (r *reader) deeper(read func() (tree.Node, bool)) (tree.Node, bool) {
	if r.deep > api.MaxDeep-1 {
		return r.fail(api.ErrMany)
	}
	r.deep++
	n, ok := read()
	r.deep--
	return n, ok
}

func (r *reader) negation() (tree.Node, bool) {
	at := r.now().At
	r.next++
	n, ok := r.atom()
	if !ok {
		return nil, false
	}
	// A negation within this one was noted ahead of it, but stands behind it.
	if !tree.IsTest(n) {
		r.noTest = min(r.noTest, at)
	}
	return tree.Not(n), true
}

func (r *reader) brackets() (tree.Node, bool) {
	r.next++
	n, ok := r.sum()
	if ok && !r.skip(scan.Close) {
		return r.fail(api.ErrSyntax)
	}
	return n, ok
}

func (r *reader) word() (tree.Node, bool) {
	word := r.now().Text
	switch word {
	case "id":
		r.next++
		return tree.ID(), true
	case "drop":
		r.next++
		return tree.Drop(), true
	}
	field, ok := tree.Field(word)
	if !ok {
		return r.fail(api.ErrSyntax)
	}
	return r.pair(field)
}

// pair reads a test or a setting of a field.
func (r *reader) pair(field int) (tree.Node, bool) {
	if field == api.Sw && r.tokens[r.next+1].Kind == scan.Becomes {
		return r.fail(api.ErrField)
	}
	if r.atoms == api.MaxAtoms {
		return r.fail(api.ErrMany)
	}
	r.atoms++
	r.next++
	sign := r.now().Kind
	if sign != scan.Equals && sign != scan.Becomes {
		return r.fail(api.ErrSyntax)
	}
	r.next++
	if r.now().Kind != scan.Number {
		return r.fail(api.ErrSyntax)
	}
	n := value(r.now().Text)
	if n > api.MaxValue {
		return r.fail(api.ErrNumber)
	}
	r.next++
	pair := tree.Pair{Field: field, Value: n}
	if sign == scan.Becomes {
		return tree.Setting{Pair: pair}, true
	}
	return tree.Test{Pair: pair}, true
}

// value tells the value of digits, but of those above MaxValue only that they are: there may be more of them than an int has room for.
func value(digits string) int {
	n := 0
	for i := range len(digits) {
		n = min(10*n+int(digits[i]-'0'), api.MaxValue+1)
	}
	return n
}
