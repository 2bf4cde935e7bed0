package expr

import (
	"mortmain/api"
	"mortmain/real"
	"mortmain/value"
)

// valueOf checks a node's form ahead of its operands, and their kinds after
// all of them: this decides which of several errors is found first.
func valueOf(e api.Expr, row []api.Value) api.Value {
	require(hasOperands(e), api.ErrForm)
	switch e.Op {
	case api.Lit:
		return e.Val
	case api.Col:
		require(0 <= e.Col && e.Col < len(row), api.ErrForm)
		return row[e.Col]
	case api.Not:
		return not(valueOf(e.Args[0], row))
	case api.IsNull:
		return truth(isNull(valueOf(e.Args[0], row)))
	}
	return valueOfPair(e.Op, valueOf(e.Args[0], row), valueOf(e.Args[1], row))
}

// valueOfPair returns the value of an operation with the operands a and b.
func valueOfPair(op int, a, b api.Value) api.Value {
	switch op {
	case api.And:
		return decide(a, b, false)
	case api.Or:
		return decide(a, b, true)
	}
	if isNull(a) || isNull(b) {
		return api.Value{}
	}
	require(a.Kind == b.Kind, api.ErrType)
	switch op {
	case api.Less:
		return truth(value.Compare(a, b) < 0)
	case api.Equal:
		return truth(value.Compare(a, b) == 0)
	}
	require(a.Kind != api.Text, api.ErrType)
	if a.Kind == api.Float {
		return api.Value{Kind: api.Float, Num: floats(op, a.Num, b.Num)}
	}
	return value.Int(numbers(op, a.Num, b.Num))
}

// decide returns the truth that one operand suffices for, false for And and
// true for Or; the other one if no operand has it, and null if that is unknown.
func decide(a, b api.Value, suffices bool) api.Value {
	requireTruth(a)
	requireTruth(b)
	if is(a, suffices) || is(b, suffices) {
		return truth(suffices)
	}
	if isNull(a) || isNull(b) {
		return api.Value{}
	}
	return truth(!suffices)
}

func not(v api.Value) api.Value {
	requireTruth(v)
	if isNull(v) {
		return api.Value{}
	}
	return truth(is(v, false))
}

func requireTruth(v api.Value) {
	require(isNull(v) || v.Kind == api.Int, api.ErrType)
}

// is reports whether a truth value is known, and is the given one.
func is(v api.Value, wanted bool) bool {
	return !isNull(v) && (v.Num != 0) == wanted
}

func truth(yes bool) api.Value {
	if yes {
		return value.Int(1)
	}
	return value.Int(0)
}

// isNull asks for the kind alone, as the other fields aren't checked.
func isNull(v api.Value) bool {
	return v.Kind == api.Null
}

func floats(op, a, b int) int {
	if op == api.Plus {
		return real.Add(a, b)
	}
	return real.Mul(a, b)
}

func numbers(op, a, b int) int {
	if op == api.Plus {
		return a + b
	}
	return a * b
}
