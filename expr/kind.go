package expr

import (
	"mortmain/api"
	"mortmain/value"
)

// kindOf checks a node's form ahead of its operands, and their kinds after
// them: this decides which of several errors is found first.
func kindOf(e api.Expr, cols []api.Column) int {
	require(hasOperands(e) && unusedFieldsAreZero(e), api.ErrForm)
	switch e.Op {
	case api.Lit:
		require(value.Good(e.Val), api.ErrForm)
		return e.Val.Kind
	case api.Col:
		require(0 <= e.Col && e.Col < len(cols), api.ErrForm)
		return cols[e.Col].Kind
	case api.Not:
		requireTruthKind(kindOf(e.Args[0], cols))
		return api.Int
	case api.IsNull:
		kindOf(e.Args[0], cols)
		return api.Int
	}
	return kindOfPair(e.Op, kindOf(e.Args[0], cols), kindOf(e.Args[1], cols))
}

func unusedFieldsAreZero(e api.Expr) bool {
	return (e.Op == api.Col || e.Col == 0) && (e.Op == api.Lit || e.Val == api.Value{})
}

// kindOfPair returns the kind of an operation with operands of kinds a and b.
func kindOfPair(op, a, b int) int {
	switch op {
	case api.And, api.Or:
		requireTruthKind(a)
		requireTruthKind(b)
		return api.Int
	case api.Less, api.Equal:
		commonKind(a, b)
		return api.Int
	}
	k := commonKind(a, b)
	require(k != api.Text, api.ErrType)
	return k
}

func requireTruthKind(k int) {
	require(k == api.Int || k == api.Null, api.ErrType)
}

// commonKind returns the kind that matches both a and b: Null matches all.
func commonKind(a, b int) int {
	if a == api.Null {
		return b
	}
	require(a == b || b == api.Null, api.ErrType)
	return a
}
