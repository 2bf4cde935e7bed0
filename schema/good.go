package schema

import (
	"mortmain/api"
	"mortmain/expr"
	"mortmain/value"
)

const maxChecks = 4

// Good returns OK if t is valid with respect to a schema; ErrForm, ErrLong,
// ErrTable, ErrType, or an error of a check.
func Good(t api.Table, s api.Schema) api.Errno {
	if !Name(t.Name) || !isRole(t.Owner) || len(t.Cols) == 0 {
		return api.ErrForm
	}
	if len(t.Cols) > api.MaxCols || len(t.Checks) > maxChecks {
		return api.ErrLong
	}
	for i := range t.Cols {
		if err := goodColumn(t, i, s); err != api.OK {
			return err
		}
	}
	for _, check := range t.Checks {
		if err := goodCheck(check, t.Cols); err != api.OK {
			return err
		}
	}
	return api.OK
}

// Row returns OK if a row is valid for t; ErrForm, ErrType, ErrNull, ErrCheck.
func Row(t api.Table, row []api.Value) api.Errno {
	if len(row) != len(t.Cols) {
		return api.ErrForm
	}
	for i, v := range row {
		if err := goodValue(v, t.Cols[i]); err != api.OK {
			return err
		}
	}
	for _, check := range t.Checks {
		if !expr.Holds(check, row) {
			return api.ErrCheck
		}
	}
	return api.OK
}

func isRole(role int) bool {
	return 0 <= role && role < api.MaxRoles
}

func goodColumn(t api.Table, i int, s api.Schema) api.Errno {
	c := t.Cols[i]
	repeated := Place(t, c.Name) < i
	if repeated || !hasForm(c) || i == 0 && !canBeKey(c) {
		return api.ErrForm
	}
	if c.Ref == "" {
		return api.OK
	}
	return goodRef(c, t, s)
}

// hasForm reports whether a column can be in some table, behind its key.
func hasForm(c api.Column) bool {
	if !Name(c.Name) || c.Kind < api.Int || c.Kind > api.Text {
		return false
	}
	switch c.Del {
	case api.Restrict:
		return true
	case api.Cascade:
		return c.Ref != ""
	case api.SetNull:
		return c.Ref != "" && !c.NotNull
	}
	return false
}

func canBeKey(c api.Column) bool {
	return c.NotNull && !c.Unique && c.Ref == ""
}

// goodRef checks what a column of t refers to. The own name means t itself,
// even if the schema has a table with that name.
func goodRef(c api.Column, t api.Table, s api.Schema) api.Errno {
	target := t
	if c.Ref != t.Name {
		i := place(s, c.Ref)
		if i < 0 {
			return api.ErrTable
		}
		target = s.Tables[i]
	}
	if len(target.Cols) == 0 {
		return api.ErrTable
	}
	if target.Cols[0].Kind != c.Kind {
		return api.ErrType
	}
	return api.OK
}

func goodCheck(check api.Expr, cols []api.Column) api.Errno {
	kind, err := expr.Kind(check, cols)
	if err != api.OK {
		return err
	}
	if kind != api.Int && kind != api.Null {
		return api.ErrType
	}
	return api.OK
}

func goodValue(v api.Value, c api.Column) api.Errno {
	isNull := v.Kind == api.Null
	if !value.Good(v) || !isNull && v.Kind != c.Kind {
		return api.ErrType
	}
	if isNull && c.NotNull {
		return api.ErrNull
	}
	return api.OK
}
