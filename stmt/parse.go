package stmt

import (
	"strings"

	"mortmain/api"
	"mortmain/value"
)

// source is the words of a text that were not taken yet. The last one may be
// empty, so the rest alone does not tell whether there are more.
type source struct {
	rest string
	more bool
	bad  bool
}

// Parse returns the valid statement whose textual form, with checks, is text;
// ErrForm if there is none.
func Parse(text string) (api.Stmt, api.Errno) {
	src := &source{rest: text, more: true}
	s := api.Stmt{Kind: kindOf(src.word())}
	if s.Kind == api.Create {
		s.Def = src.table()
	} else {
		s.Table = src.word()
		src.fields(&s)
	}
	if src.bad || src.more || !Good(s) {
		return api.Stmt{}, api.ErrForm
	}
	return s, api.OK
}

// kindOf returns the kind with a word; 0, which is none, if there is none.
func kindOf(word string) int {
	for kind, w := range kindWords {
		if w == word {
			return kind
		}
	}
	return 0
}

// fields takes what follows the name of the table.
func (src *source) fields(s *api.Stmt) {
	switch s.Kind {
	case api.Insert:
		s.Vals = src.values()
	case api.Delete, api.Get:
		s.Key = src.value()
	case api.Update:
		s.Key, s.Col, s.Val = src.value(), src.word(), src.value()
	case api.Range:
		s.Key, s.Hi = src.value(), src.value()
	case api.GrantTo, api.Revoke:
		s.Role, s.Bits = src.number(), src.number()
	}
}

// word takes the next word; it is bad if there is none.
func (src *source) word() string {
	if !src.more {
		src.bad = true
		return ""
	}
	var word string
	word, src.rest, src.more = strings.Cut(src.rest, blank)
	return word
}

func (src *source) value() api.Value {
	v, err := value.Word(src.word())
	if err != api.OK {
		src.bad = true
	}
	return v
}

// values takes as many values as there may be: if more words are left then,
// there is no statement.
func (src *source) values() []api.Value {
	var list []api.Value
	for src.more && !src.bad && len(list) < api.MaxCols {
		list = append(list, src.value())
	}
	return list
}

func (src *source) number() int {
	v := src.value()
	if v.Kind != api.Int {
		src.bad = true
	}
	return v.Num
}

// table takes the name of a table, its columns, and its checks. Names of
// columns may look almost like checks, so a word is a column only if it is no
// check.
func (src *source) table() api.Table {
	t := api.Table{Name: src.word()}
	for src.more && !src.bad {
		word := src.word()
		if e, ok := check(word); ok {
			t.Checks = append(t.Checks, e)
			continue
		}
		c, ok := column(word)
		if !ok || len(t.Checks) > 0 {
			src.bad = true
		}
		t.Cols = append(t.Cols, c)
	}
	return t
}

// check returns the check that a word is; false if it is none.
func check(word string) (api.Expr, bool) {
	if len(word) < 3 || word[0] != '?' || word[1] < '0' || word[1] > '9' {
		return api.Expr{}, false
	}
	v, err := value.Word(word[3:])
	if err != api.OK {
		return api.Expr{}, false
	}
	col := api.Expr{Op: api.Col, Col: int(word[1] - '0')}
	pair := []api.Expr{col, {Op: api.Lit, Val: v}}
	switch word[2] {
	case '<':
		return api.Expr{Op: api.Less, Args: pair}, true
	case '=':
		return api.Expr{Op: api.Equal, Args: pair}, true
	case '!':
		return api.Expr{Op: api.Not, Args: []api.Expr{{Op: api.Less, Args: pair}}}, true
	}
	return api.Expr{}, false
}

// column returns the column that a word is; false if it is none.
func column(word string) (api.Column, bool) {
	name, rest, _ := strings.Cut(word, colon)
	// Without a colon there is no letter of a kind, which fails below.
	form, to, refers := strings.Cut(rest, arrow)
	c := api.Column{Name: name}
	form, c.Unique = strings.CutSuffix(form, unique)
	form, c.NotNull = strings.CutSuffix(form, notNull)
	kind := place(kindLetters, form)
	if kind < 0 {
		return api.Column{}, false
	}
	c.Kind = api.Int + kind
	if !refers {
		return c, true
	}
	ref, del, _ := strings.Cut(to, colon)
	c.Ref, c.Del = ref, place(delLetters, del)
	return c, c.Ref != "" && c.Del >= 0
}

// place returns the index of a letter; -1 if s is none of the letters.
func place(letters, s string) int {
	if len(s) != 1 {
		return -1
	}
	return strings.Index(letters, s)
}
