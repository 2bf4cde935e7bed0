package schema

import (
	"mortmain/api"
	"mortmain/pack"
	"mortmain/value"
)

const maxArgs = 2

// Bytes returns the encoding of a schema, valid or not.
func Bytes(s api.Schema) string {
	w := &pack.Writer{}
	w.Int(s.Version)
	putList(w, s.Tables, putTable)
	putList(w, s.Grants, putGrant)
	return w.Bytes()
}

// Read returns the schema whose encoding is b; ErrForm if there is none, or
// one beyond the bounds. It doesn't ask whether the tables are valid.
func Read(b string) (api.Schema, api.Errno) {
	r := pack.Open(b)
	s := api.Schema{
		Version: r.Int(),
		Tables:  takeList(r, api.MaxTables, takeTable),
		Grants:  takeList(r, api.MaxGrants, takeGrant),
	}
	if r.End() != api.OK {
		return api.Schema{}, api.ErrForm
	}
	return s, api.OK
}

func putList[T any](w *pack.Writer, list []T, put func(*pack.Writer, T)) {
	w.Int(len(list))
	for _, item := range list {
		put(w, item)
	}
}

func takeList[T any](r *pack.Reader, bound int, take func(*pack.Reader) T) []T {
	var list []T
	for range r.Many(bound) {
		list = append(list, take(r))
	}
	return list
}

func putTable(w *pack.Writer, t api.Table) {
	w.Str(t.Name)
	w.Int(t.Owner)
	putList(w, t.Cols, putColumn)
	putList(w, t.Checks, putExpr)
}

func takeTable(r *pack.Reader) api.Table {
	return api.Table{
		Name:   r.Str(),
		Owner:  r.Int(),
		Cols:   takeList(r, api.MaxCols, takeColumn),
		Checks: takeList(r, maxChecks, takeCheck),
	}
}

func putColumn(w *pack.Writer, c api.Column) {
	w.Str(c.Name, c.Ref)
	w.Int(c.Kind, c.Del)
	w.Bool(c.NotNull, c.Unique)
}

// takeColumn names the fields in the order of their bytes, which is the order
// in which the reader is asked.
func takeColumn(r *pack.Reader) api.Column {
	return api.Column{
		Name:    r.Str(),
		Ref:     r.Str(),
		Kind:    r.Int(),
		Del:     r.Int(),
		NotNull: r.Bool(),
		Unique:  r.Bool(),
	}
}

func putExpr(w *pack.Writer, e api.Expr) {
	w.Int(e.Op, e.Col)
	value.Put(w, e.Val)
	putList(w, e.Args, putExpr)
}

func takeCheck(r *pack.Reader) api.Expr {
	return takeExpr(r, api.MaxDeep)
}

// takeExpr decodes an expression with at most so many levels of others in it.
func takeExpr(r *pack.Reader, levels int) api.Expr {
	e := api.Expr{Op: r.Int(), Col: r.Int(), Val: value.Take(r)}
	bound := maxArgs
	if levels == 0 {
		bound = 0
	}
	e.Args = takeList(r, bound, func(r *pack.Reader) api.Expr { return takeExpr(r, levels-1) })
	return e
}

func putGrant(w *pack.Writer, g api.Grant) {
	w.Int(g.Role, g.Bits)
	w.Str(g.Table)
}

func takeGrant(r *pack.Reader) api.Grant {
	return api.Grant{Role: r.Int(), Bits: r.Int(), Table: r.Str()}
}
