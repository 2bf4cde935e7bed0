package expr_test

import (
	"fmt"
	"math"
	"math/rand"
	"reflect"
	"slices"
	"strings"
	"testing"

	"mortmain/api"
	"mortmain/expr"
	"mortmain/value"
)

var (
	null    = api.Value{}
	no, yes = value.Int(0), value.Int(1)
	nan     = value.Float(math.NaN())
	inf     = value.Float(math.Inf(1))
	minus   = value.Float(math.Inf(-1))
	half    = value.Float(0.5)
	longest = strings.Repeat("a", 24)
	tooLong = strings.Repeat("a", 25)
)

// oddValues are invalid values, each by one field alone.
var oddValues = []api.Value{
	{Num: 5}, {Text: "a"}, {Kind: api.Int, Text: "a"}, {Kind: api.Int, Num: 7, Text: "a"}, {Kind: api.Float, Num: math.MinInt},
	{Kind: api.Float, Num: nanBits + 1}, {Kind: api.Float, Num: -1}, {Kind: api.Float, Text: "a"}, {Kind: api.Text, Num: 1, Text: "a"},
	value.Text(tooLong), {Kind: 4}, {Kind: 4, Num: 3, Text: "a"}, {Kind: 4, Num: 5, Text: "b"}, {Kind: 5, Num: 3}, {Kind: -1, Num: 3, Text: "a"},
	{Kind: math.MaxInt}, {Kind: math.MinInt, Num: 1},
}

var goodValues = []api.Value{
	null, no, yes, value.Int(2), value.Int(-1), value.Int(math.MaxInt), value.Int(math.MinInt),
	value.Float(0), half, value.Float(-0.5), value.Float(math.MaxFloat64), value.Float(math.SmallestNonzeroFloat64), inf, minus, nan,
	value.Text(""), value.Text("a"), value.Text("b"), value.Text("\x00"), value.Text("\xff"), value.Text(longest),
}

func lit(v api.Value) api.Expr { return api.Expr{Op: api.Lit, Val: v} }

func col(i int) api.Expr { return api.Expr{Op: api.Col, Col: i} }

func node(op int, args ...api.Expr) api.Expr { return api.Expr{Op: op, Args: args} }

// of is an operation of values.
func of(op int, list ...api.Value) api.Expr {
	e := api.Expr{Op: op}
	for _, v := range list {
		e.Args = append(e.Args, lit(v))
	}
	return e
}

// chain is an expression of that many levels, with a leaf at the end.
func chain(levels int, leaf api.Expr) api.Expr {
	for range levels - 1 {
		leaf = node(api.Not, leaf)
	}
	return leaf
}

// comb is an expression of that many nodes, of an odd number, with few levels.
func comb(nodes int) api.Expr {
	if nodes == 1 {
		return lit(yes)
	}
	left := (nodes - 1) / 2
	if left%2 == 0 {
		left--
	}
	return node(api.And, comb(left), comb(nodes-1-left))
}

func checkEval(t *testing.T, e api.Expr, row []api.Value, want api.Value, wantErr api.Errno) {
	t.Helper()
	if v, err := expr.Eval(e, row); v != want || err != wantErr {
		t.Errorf("Eval of %#v for %#v: %#v, %d, want %#v, %d", e, row, v, err, want, wantErr)
	}
	holds := wantErr == api.OK && want != api.Value{Kind: api.Int}
	if got := expr.Holds(e, row); got != holds {
		t.Errorf("Holds of %#v for %#v: %v", e, row, got)
	}
}

func checkKind(t *testing.T, e api.Expr, cols []api.Column, want int, wantErr api.Errno) {
	t.Helper()
	if k, err := expr.Kind(e, cols); k != want || err != wantErr {
		t.Errorf("Kind of %#v over %#v: %d, %d, want %d, %d", e, cols, k, err, want, wantErr)
	}
}

// P8.1: every call returns the specified results.

func TestOperations(t *testing.T) {
	for _, c := range []struct {
		e    api.Expr
		want api.Value
	}{
		{lit(null), null},
		{lit(value.Text("a")), value.Text("a")},
		{lit(half), half},

		{of(api.Less, value.Int(1), value.Int(2)), yes},
		{of(api.Less, value.Int(2), value.Int(2)), no},
		{of(api.Less, value.Int(3), value.Int(2)), no},
		{of(api.Less, value.Int(math.MinInt), value.Int(math.MaxInt)), yes},
		{of(api.Less, value.Float(-1), half), yes},
		{of(api.Less, nan, nan), no},
		{of(api.Less, inf, nan), yes},
		{of(api.Less, nan, inf), no},
		{of(api.Less, minus, value.Float(-math.MaxFloat64)), yes},
		{of(api.Less, value.Text("a"), value.Text("aa")), yes},
		{of(api.Less, value.Text("\xff"), value.Text("a")), no},
		{of(api.Less, null, yes), null},
		{of(api.Less, yes, null), null},
		{of(api.Less, null, null), null},
		{of(api.Less, value.Text("a"), null), null},

		{of(api.Equal, nan, nan), yes},
		{of(api.Equal, value.Float(0), value.Float(math.Copysign(0, -1))), yes},
		{of(api.Equal, value.Int(3), value.Int(3)), yes},
		{of(api.Equal, value.Int(3), value.Int(4)), no},
		{of(api.Equal, value.Int(4), value.Int(3)), no},
		{of(api.Equal, value.Text("a"), value.Text("a")), yes},
		{of(api.Equal, value.Text("a"), value.Text("A")), no},
		{of(api.Equal, null, null), null},
		{of(api.Equal, null, half), null},
		{of(api.Equal, half, null), null},

		{of(api.IsNull, null), yes},
		{of(api.IsNull, no), no},
		{of(api.IsNull, value.Text("")), no},
		{of(api.IsNull, nan), no},

		{of(api.Plus, value.Int(2), value.Int(3)), value.Int(5)},
		{of(api.Plus, value.Int(math.MaxInt), value.Int(1)), value.Int(math.MinInt)},
		{of(api.Plus, value.Int(math.MinInt), value.Int(-1)), value.Int(math.MaxInt)},
		{of(api.Plus, half, half), value.Float(1)},
		{of(api.Plus, inf, minus), nan},
		{of(api.Plus, half, value.Float(-0.5)), value.Float(0)},
		{of(api.Plus, value.Float(math.MaxFloat64), value.Float(math.MaxFloat64)), inf},
		{of(api.Plus, nan, half), nan},
		{of(api.Plus, null, yes), null},
		{of(api.Plus, half, null), null},
		{of(api.Plus, null, null), null},
		{of(api.Plus, null, value.Text("a")), null},
		{of(api.Plus, value.Text("a"), null), null},

		{of(api.Times, value.Int(2), value.Int(3)), value.Int(6)},
		{of(api.Times, value.Int(-2), value.Int(3)), value.Int(-6)},
		{of(api.Times, value.Int(1<<62), value.Int(4)), no},
		{of(api.Times, value.Int(math.MinInt), value.Int(-1)), value.Int(math.MinInt)},
		{of(api.Times, value.Int(math.MaxInt), value.Int(math.MaxInt)), yes},
		{of(api.Times, half, value.Float(3)), value.Float(1.5)},
		{of(api.Times, value.Float(-1), value.Float(0)), value.Float(0)},
		{of(api.Times, value.Float(0), inf), nan},
		{of(api.Times, null, no), null},
		{of(api.Times, value.Float(0), null), null},
		{of(api.Times, null, value.Text("a")), null},
	} {
		checkEval(t, c.e, nil, c.want, api.OK)
	}
}

func TestLogicWithUnknown(t *testing.T) {
	two := value.Int(-2)
	for _, c := range []struct{ a, b, and, or api.Value }{
		{no, no, no, no}, {no, null, no, null}, {no, yes, no, yes}, {no, two, no, yes},
		{null, no, no, null}, {null, null, null, null}, {null, yes, null, yes}, {null, two, null, yes},
		{yes, no, no, yes}, {yes, null, null, yes}, {yes, yes, yes, yes}, {yes, two, yes, yes},
		{two, no, no, yes}, {two, null, null, yes}, {two, yes, yes, yes}, {two, two, yes, yes},
	} {
		checkEval(t, of(api.And, c.a, c.b), nil, c.and, api.OK)
		checkEval(t, of(api.Or, c.a, c.b), nil, c.or, api.OK)
	}
	checkEval(t, of(api.Not, no), nil, yes, api.OK)
	checkEval(t, of(api.Not, null), nil, null, api.OK)
	checkEval(t, of(api.Not, yes), nil, no, api.OK)
	checkEval(t, of(api.Not, two), nil, no, api.OK)
	checkEval(t, of(api.Not, value.Int(math.MinInt)), nil, no, api.OK)
}

func TestColumns(t *testing.T) {
	row := []api.Value{value.Int(7), null, value.Text("a"), oddValues[0], {Kind: 9, Num: 8, Text: "b"}}
	for i, v := range row {
		checkEval(t, col(i), row, v, api.OK)
	}
	for _, i := range []int{-1, 5, 6, math.MaxInt, math.MinInt} {
		checkEval(t, col(i), row, null, api.ErrForm)
	}
	checkEval(t, col(0), nil, null, api.ErrForm)
	checkEval(t, col(0), []api.Value{}, null, api.ErrForm)
	checkEval(t, node(api.Plus, col(0), col(0)), row, value.Int(14), api.OK)

	cols := []api.Column{{Kind: api.Text}, {Kind: api.Int}, {Kind: api.Float}}
	for i, c := range cols {
		checkKind(t, col(i), cols, c.Kind, api.OK)
	}
	for _, i := range []int{-1, 3, 4, math.MaxInt, math.MinInt} {
		checkKind(t, col(i), cols, 0, api.ErrForm)
	}
	checkKind(t, col(0), nil, 0, api.ErrForm)
}

func TestEvalOfWrongKinds(t *testing.T) {
	text := value.Text("a")
	for _, op := range []int{api.Less, api.Equal, api.Plus, api.Times} {
		for _, c := range [][2]api.Value{{yes, half}, {half, text}, {text, yes}} {
			checkEval(t, of(op, c[0], c[1]), nil, null, api.ErrType)
			checkEval(t, of(op, c[1], c[0]), nil, null, api.ErrType)
		}
	}
	checkEval(t, of(api.Plus, text, text), nil, null, api.ErrType)
	checkEval(t, of(api.Times, text, text), nil, null, api.ErrType)
	// The other operand would suffice, but all are evaluated and checked.
	for _, op := range []int{api.And, api.Or} {
		for _, other := range []api.Value{null, no, yes} {
			for _, v := range []api.Value{half, nan, value.Float(0), text, value.Text(""), {Kind: 4}, {Kind: -1, Num: 1}} {
				checkEval(t, of(op, other, v), nil, null, api.ErrType)
				checkEval(t, of(op, v, other), nil, null, api.ErrType)
			}
		}
	}
	for _, v := range []api.Value{half, text, {Kind: 4, Num: 1}} {
		checkEval(t, of(api.Not, v), nil, null, api.ErrType)
	}
}

func TestAllOperandsAreEvaluated(t *testing.T) {
	bad := of(api.Less, yes, half)
	for _, op := range []int{api.Less, api.Equal, api.And, api.Or, api.Plus, api.Times} {
		for _, v := range []api.Value{null, no, yes} {
			checkEval(t, node(op, lit(v), bad), nil, null, api.ErrType)
			checkEval(t, node(op, bad, lit(v)), nil, null, api.ErrType)
			checkEval(t, node(op, lit(v), col(0)), nil, null, api.ErrForm)
			checkEval(t, node(op, col(0), lit(v)), nil, null, api.ErrForm)
		}
	}
	checkEval(t, node(api.IsNull, bad), nil, null, api.ErrType)
	checkEval(t, node(api.Not, col(0)), nil, null, api.ErrForm)
}

func TestFormsThatAreNone(t *testing.T) {
	for op := -1; op <= 12; op++ {
		for n := range 4 {
			e := api.Expr{Op: op, Args: slices.Repeat([]api.Expr{lit(yes)}, n)}
			if want, known := arity[op]; known && want == n {
				continue
			}
			checkEval(t, e, []api.Value{yes}, null, api.ErrForm)
			checkKind(t, e, []api.Column{{Kind: api.Int}}, 0, api.ErrForm)
			checkEval(t, node(api.IsNull, e), []api.Value{yes}, null, api.ErrForm)
			checkKind(t, node(api.IsNull, e), []api.Column{{Kind: api.Int}}, 0, api.ErrForm)
		}
	}
	for _, op := range []int{0, 11, math.MaxInt, math.MinInt, 1 + 1<<32} {
		checkEval(t, api.Expr{Op: op}, nil, null, api.ErrForm)
		checkKind(t, api.Expr{Op: op}, nil, 0, api.ErrForm)
	}
}

// wellFormed are expressions of each operation, over a column of numbers.
func wellFormed() []api.Expr {
	var list []api.Expr
	for op := api.Lit; op <= api.Times; op++ {
		list = append(list, api.Expr{Op: op, Args: slices.Repeat([]api.Expr{lit(yes)}, arity[op])})
	}
	return list
}

func TestUnusedFields(t *testing.T) {
	row, cols := []api.Value{yes, yes}, []api.Column{{Kind: api.Int}, {Kind: api.Int}}
	for _, e := range wellFormed() {
		want, _ := expr.Eval(e, row)
		kind, err := expr.Kind(e, cols)
		if err != api.OK {
			t.Errorf("%#v: %d", e, err)
		}
		for _, n := range []int{1, -1, 2, math.MinInt} {
			changed := e
			changed.Col = n
			if e.Op == api.Col {
				continue
			}
			checkEval(t, changed, row, want, api.OK)
			checkKind(t, changed, cols, 0, api.ErrForm)
		}
		for _, v := range append(slices.Clone(oddValues), goodValues...) {
			changed := e
			changed.Val = v
			if e.Op == api.Lit {
				continue
			}
			checkEval(t, changed, row, want, api.OK)
			if v == null {
				checkKind(t, changed, cols, kind, api.OK)
			} else {
				checkKind(t, changed, cols, 0, api.ErrForm)
			}
		}
	}
}

func TestKindOfValues(t *testing.T) {
	for _, v := range goodValues {
		checkKind(t, lit(v), nil, v.Kind, api.OK)
	}
	for _, v := range oddValues {
		checkKind(t, lit(v), nil, 0, api.ErrForm)
		checkEval(t, lit(v), nil, v, api.OK)
	}
}

func TestKinds(t *testing.T) {
	cols := []api.Column{{Kind: api.Int}, {Kind: api.Float}, {Kind: api.Text}}
	operands := []api.Expr{lit(null), col(0), col(1), col(2)}
	const bad = -1
	for _, c := range []struct {
		ops  []int
		want [4][4]int
	}{
		{[]int{api.Plus, api.Times}, [4][4]int{
			{api.Null, api.Int, api.Float, bad},
			{api.Int, api.Int, bad, bad},
			{api.Float, bad, api.Float, bad},
			{bad, bad, bad, bad},
		}},
		{[]int{api.Less, api.Equal}, [4][4]int{
			{api.Int, api.Int, api.Int, api.Int},
			{api.Int, api.Int, bad, bad},
			{api.Int, bad, api.Int, bad},
			{api.Int, bad, bad, api.Int},
		}},
		{[]int{api.And, api.Or}, [4][4]int{
			{api.Int, api.Int, bad, bad},
			{api.Int, api.Int, bad, bad},
			{bad, bad, bad, bad},
			{bad, bad, bad, bad},
		}},
	} {
		for i, a := range operands {
			for j, b := range operands {
				for _, op := range c.ops {
					if k := c.want[i][j]; k == bad {
						checkKind(t, node(op, a, b), cols, 0, api.ErrType)
					} else {
						checkKind(t, node(op, a, b), cols, k, api.OK)
					}
				}
			}
		}
	}
	for i, a := range operands {
		checkKind(t, node(api.IsNull, a), cols, api.Int, api.OK)
		if i < 2 {
			checkKind(t, node(api.Not, a), cols, api.Int, api.OK)
		} else {
			checkKind(t, node(api.Not, a), cols, 0, api.ErrType)
		}
	}
	checkKind(t, node(api.Not, of(api.Less, half, half)), cols, api.Int, api.OK)
	checkKind(t, node(api.Plus, of(api.Plus, null, null), lit(half)), cols, api.Float, api.OK)
	checkKind(t, node(api.Less, of(api.Plus, null, null), lit(value.Text("a"))), cols, api.Int, api.OK)
}

func TestColumnsOfUnknownKindsEnd(t *testing.T) {
	for _, k := range []int{0, 4, -1, math.MaxInt, math.MinInt} {
		cols := []api.Column{{Kind: k}, {Kind: api.Int}}
		for op := api.Lit; op <= api.Times; op++ {
			expr.Kind(api.Expr{Op: op, Args: []api.Expr{col(0), col(1)}[:arity[op]]}, cols)
		}
	}
}

func TestFirstErrorIsReturned(t *testing.T) {
	form := func() api.Expr { return node(api.Not) }
	typed := func() api.Expr { return of(api.Not, half) }
	missing := func() api.Expr { return col(9) }
	invalid := func() api.Expr { return lit(api.Value{Kind: 4}) }
	for _, op := range []int{api.Less, api.And, api.Plus} {
		for _, fault := range []api.Expr{form(), missing()} {
			// The operands come from left to right, each as a whole.
			checkEval(t, node(op, fault, typed()), nil, null, api.ErrForm)
			checkEval(t, node(op, typed(), fault), nil, null, api.ErrType)
			checkKind(t, node(op, fault, typed()), nil, 0, api.ErrForm)
			checkKind(t, node(op, typed(), fault), nil, 0, api.ErrType)
			checkEval(t, node(op, node(api.Not, fault), typed()), nil, null, api.ErrForm)
			checkEval(t, node(op, node(api.Not, typed()), fault), nil, null, api.ErrType)
			checkKind(t, node(op, node(api.Not, fault), typed()), nil, 0, api.ErrForm)
			checkKind(t, node(op, node(api.Not, typed()), fault), nil, 0, api.ErrType)
			// The kinds of operands come after the operands.
			checkEval(t, node(op, lit(value.Text("a")), fault), nil, null, api.ErrForm)
			checkKind(t, node(op, lit(value.Text("a")), fault), nil, 0, api.ErrForm)
		}
		checkKind(t, node(op, invalid(), typed()), nil, 0, api.ErrForm)
		checkKind(t, node(op, typed(), invalid()), nil, 0, api.ErrType)
		checkKind(t, node(op, lit(half), invalid()), nil, 0, api.ErrForm)
		// A node's own form comes ahead of its operands.
		checkEval(t, node(op, typed()), nil, null, api.ErrForm)
		checkKind(t, node(op, typed(), typed(), typed()), nil, 0, api.ErrForm)
		checkKind(t, api.Expr{Op: op, Col: 1, Args: []api.Expr{typed(), typed()}}, nil, 0, api.ErrForm)
		checkKind(t, api.Expr{Op: op, Val: api.Value{Num: 1}, Args: []api.Expr{typed(), typed()}}, nil, 0, api.ErrForm)
		checkKind(t, api.Expr{Op: op, Val: yes, Args: []api.Expr{typed(), typed()}}, nil, 0, api.ErrForm)
		checkEval(t, api.Expr{Op: op, Col: 1, Val: yes, Args: []api.Expr{typed(), typed()}}, nil, null, api.ErrType)
	}
	checkEval(t, node(11, typed()), nil, null, api.ErrForm)
	checkEval(t, node(api.Lit, typed()), nil, null, api.ErrForm)
	checkKind(t, node(api.Col, typed()), []api.Column{{Kind: api.Int}}, 0, api.ErrForm)
}

func TestLimits(t *testing.T) {
	// The last one has an even number of nodes.
	for _, e := range []api.Expr{lit(yes), chain(8, lit(null)), comb(23), node(api.Not, comb(23))} {
		if _, err := expr.Eval(e, nil); err != api.OK {
			t.Errorf("Eval of %d nodes, %d levels: %d", countNodes(e), countLevels(e), err)
		}
		if _, err := expr.Kind(e, nil); err != api.OK {
			t.Errorf("Kind of %d nodes, %d levels: %d", countNodes(e), countLevels(e), err)
		}
	}
	for _, e := range []api.Expr{
		chain(9, lit(null)), chain(10, lit(null)), chain(1000, lit(null)), comb(25), comb(27), comb(999), node(api.Not, node(api.Not, comb(23))),
		node(api.And, lit(yes), chain(8, lit(yes))), node(api.And, chain(8, lit(yes)), lit(yes)),
	} {
		checkEval(t, e, nil, null, api.ErrLong)
		checkKind(t, e, nil, 0, api.ErrLong)
	}
}

func TestTooLongComesFirst(t *testing.T) {
	many := slices.Repeat([]api.Expr{lit(yes)}, 24)
	deep := []api.Expr{chain(8, lit(yes))}
	for op := -1; op <= 12; op++ {
		checkEval(t, node(op, many...), nil, null, api.ErrLong)
		checkKind(t, node(op, many...), nil, 0, api.ErrLong)
		checkEval(t, node(op, deep...), nil, null, api.ErrLong)
		checkKind(t, node(op, deep...), nil, 0, api.ErrLong)
	}
	// What is at the limit isn't too long, whatever it is.
	checkEval(t, node(api.Not, many[1:]...), nil, null, api.ErrForm)
	checkKind(t, node(11, many[1:]...), nil, 0, api.ErrForm)
	checkKind(t, chain(8, lit(half)), nil, 0, api.ErrType)
	checkEval(t, chain(8, col(0)), nil, null, api.ErrForm)
	for _, first := range []api.Expr{node(api.Not), of(api.Not, half), col(5)} {
		checkEval(t, node(api.And, first, chain(8, lit(yes))), nil, null, api.ErrLong)
		checkKind(t, node(api.And, first, comb(23)), nil, 0, api.ErrLong)
	}
}

func TestExpressionsThatContainThemselves(t *testing.T) {
	for op := 0; op <= 11; op++ {
		// With so many operands, only a call that stops at the limits ends.
		for _, n := range []int{1, 2, 3, 1000} {
			args := make([]api.Expr, n)
			for i := range args {
				args[i] = api.Expr{Op: op, Args: args}
			}
			// No message may show such an expression, since it has no end.
			if v, err := expr.Eval(args[0], nil); v != null || err != api.ErrLong {
				t.Errorf("Eval of %d, %d operands: %#v, %d", op, n, v, err)
			}
			if k, err := expr.Kind(args[0], nil); k != 0 || err != api.ErrLong {
				t.Errorf("Kind of %d, %d operands: %d, %d", op, n, k, err)
			}
			if expr.Holds(args[0], nil) {
				t.Errorf("Holds of %d, %d operands", op, n)
			}
		}
	}
}

func TestManyOperandsAndSharedOnes(t *testing.T) {
	checkLong := func(e api.Expr) {
		t.Helper()
		if _, err := expr.Eval(e, nil); err != api.ErrLong {
			t.Error(err)
		}
		if _, err := expr.Kind(e, nil); err != api.ErrLong {
			t.Error(err)
		}
	}
	checkLong(node(api.And, make([]api.Expr, 1<<20)...))
	// Each level doubles the nodes, so no more of them may be visited than there may be.
	shared := lit(yes)
	for range 60 {
		shared = node(api.And, shared, shared)
	}
	checkLong(shared)
}

func TestInvalidValues(t *testing.T) {
	oddNull, oddNo, oddYes := api.Value{Num: 5}, api.Value{Kind: api.Int, Text: "a"}, api.Value{Kind: api.Int, Num: 7, Text: "a"}
	unknown := api.Value{Kind: 4, Num: 3, Text: "a"}
	for _, c := range []struct {
		e    api.Expr
		want api.Value
		err  api.Errno
	}{
		{of(api.IsNull, oddNull), yes, api.OK},
		{of(api.Not, oddNull), null, api.OK},
		{of(api.And, oddNull, yes), null, api.OK},
		{of(api.Or, no, api.Value{Text: "a"}), null, api.OK},
		{of(api.Equal, oddNull, yes), null, api.OK},
		{of(api.Plus, yes, oddNull), null, api.OK},
		{of(api.Not, oddNo), yes, api.OK},
		{of(api.And, oddNo, yes), no, api.OK},
		{of(api.Not, oddYes), no, api.OK},
		{of(api.Equal, oddYes, value.Int(7)), yes, api.OK},
		{of(api.Plus, oddYes, oddYes), value.Int(14), api.OK},
		{of(api.Equal, api.Value{Kind: api.Float, Num: math.MinInt}, value.Float(0)), yes, api.OK},
		{of(api.Equal, api.Value{Kind: api.Float, Num: -1}, nan), yes, api.OK},
		{of(api.Plus, api.Value{Kind: api.Float, Num: -1, Text: "a"}, half), nan, api.OK},
		{of(api.Less, api.Value{Kind: api.Text, Num: 1, Text: "a"}, value.Text(tooLong)), yes, api.OK},
		{of(api.IsNull, unknown), no, api.OK},
		{of(api.Less, unknown, api.Value{Kind: 4, Num: 2, Text: "b"}), yes, api.OK},
		{of(api.Less, api.Value{Kind: 4, Num: 2, Text: "b"}, unknown), no, api.OK},
		{of(api.Equal, unknown, api.Value{Kind: 4, Text: "a"}), yes, api.OK},
		{of(api.Equal, unknown, api.Value{Kind: 4, Num: 3}), no, api.OK},
		{of(api.Plus, unknown, unknown), value.Int(6), api.OK},
		{of(api.Times, unknown, unknown), value.Int(9), api.OK},
		{of(api.Times, api.Value{Kind: -1, Num: 2}, api.Value{Kind: -1, Num: 4}), value.Int(8), api.OK},
		{of(api.Plus, unknown, null), null, api.OK},
		{of(api.Less, null, unknown), null, api.OK},
		{of(api.Plus, unknown, yes), null, api.ErrType},
		{of(api.Less, unknown, value.Text("a")), null, api.ErrType},
		{of(api.Equal, unknown, api.Value{Kind: 5}), null, api.ErrType},
		{of(api.Not, unknown), null, api.ErrType},
		{of(api.Or, yes, unknown), null, api.ErrType},
	} {
		checkEval(t, c.e, nil, c.want, c.err)
		columns := node(c.e.Op, []api.Expr{col(0), col(1)}[:len(c.e.Args)]...)
		var row []api.Value
		for _, arg := range c.e.Args {
			row = append(row, arg.Val)
		}
		checkEval(t, columns, row, c.want, c.err)
	}
}

func TestHolds(t *testing.T) {
	for _, v := range []api.Value{
		null, yes, value.Int(-1), value.Int(math.MinInt), value.Float(0), nan, value.Text(""), value.Text("0"),
		{Num: 5}, {Kind: api.Int, Text: "a"}, {Kind: 4}, {Kind: -1},
	} {
		if !expr.Holds(lit(v), nil) || !expr.Holds(col(0), []api.Value{v}) {
			t.Errorf("%#v", v)
		}
	}
	for _, e := range []api.Expr{
		lit(no), of(api.And, null, no), of(api.Less, nan, nan), of(api.Not, half), node(api.And, lit(yes)), col(0), {}, chain(9, lit(yes)),
		of(api.Plus, yes, half), of(api.Less, yes, value.Text("a")),
	} {
		if expr.Holds(e, nil) {
			t.Errorf("%#v", e)
		}
	}
	if expr.Holds(col(0), []api.Value{no}) {
		t.Error("a column of the number 0")
	}
}

func TestNothingIsChangedOrKept(t *testing.T) {
	build := func() (api.Expr, []api.Value, []api.Column) {
		args := append(make([]api.Expr, 0, 4), node(api.Not, node(api.Less, col(0), lit(yes))), of(api.IsNull, half))
		spare := args[:4]
		spare[2], spare[3] = lit(nan), col(3)
		row := append(make([]api.Value, 0, 3), value.Int(4), value.Text("a"))
		row[:3][2] = half
		cols := append(make([]api.Column, 0, 3), api.Column{Name: "a", Kind: api.Int}, api.Column{Name: "b", Kind: api.Text})
		cols[:3][2] = api.Column{Name: "c"}
		return api.Expr{Op: api.Or, Args: args}, row, cols
	}
	e, row, cols := build()
	oldE, oldRow, oldCols := build()
	for range 2 {
		checkEval(t, e, row, yes, api.OK)
		checkKind(t, e, cols, api.Int, api.OK)
	}
	e.Args, oldE.Args = e.Args[:4], oldE.Args[:4]
	if !reflect.DeepEqual(e, oldE) || !slices.Equal(row[:3], oldRow[:3]) || !slices.Equal(cols[:3], oldCols[:3]) {
		t.Errorf("%#v, %#v, %#v", e, row[:3], cols[:3])
	}
	checkEval(t, node(api.Not, lit(yes)), nil, no, api.OK)
	e, row, _ = build()
	expr.Eval(e, row)
	row[0] = no
	checkEval(t, e, row, no, api.OK)
}

// The calls against the model.

// leaves are operands of all kinds, of wrong ones, and forms that are none.
func leaves() []api.Expr {
	list := []api.Expr{
		col(0), col(1), col(2), col(3), col(-1), col(4), {}, node(api.Not), node(api.Lit, lit(yes)), {Op: api.Lit, Col: 1}, {Op: api.Col, Val: yes},
		{Op: api.Col, Val: api.Value{Num: 1}}, of(api.Not, half), of(api.Plus, null, null), of(api.IsNull, value.Text("a")),
	}
	for _, v := range goodValues {
		list = append(list, lit(v))
	}
	for _, v := range oddValues {
		list = append(list, lit(v))
	}
	return list
}

var fourKinds = []api.Column{{Kind: api.Int}, {Kind: api.Float}, {Kind: api.Text}, {Kind: api.Int}}

func againstModel(t *testing.T, e api.Expr, row []api.Value, cols []api.Column) {
	t.Helper()
	v, err := modelEval(e, row)
	checkEval(t, e, row, v, err)
	k, err := modelKind(e, cols)
	checkKind(t, e, cols, k, err)
	if t.Failed() {
		t.FailNow()
	}
}

func TestAllSmallExpressions(t *testing.T) {
	row := []api.Value{value.Int(3), half, value.Text("a"), null}
	for op := 0; op <= 11; op++ {
		againstModel(t, node(op), row, fourKinds)
		for _, a := range leaves() {
			againstModel(t, node(op, a), row, fourKinds)
			for _, b := range leaves() {
				againstModel(t, node(op, a, b), row, fourKinds)
				againstModel(t, node(op, a, b, a), row, fourKinds)
			}
		}
	}
}

func pick[T any](r *rand.Rand, list []T) T { return list[r.Intn(len(list))] }

func anyValue(r *rand.Rand) api.Value {
	switch r.Intn(12) {
	case 0:
		return pick(r, oddValues)
	case 1, 2, 3:
		return pick(r, goodValues)
	}
	return valueOfKind(r, r.Intn(4))
}

// valueOfKind returns a valid value.
func valueOfKind(r *rand.Rand, kind int) api.Value {
	switch kind {
	case api.Int:
		return value.Int(pick(r, []int{0, 1, 2, -1, r.Intn(7) - 3, math.MaxInt, math.MinInt, int(r.Uint64())}))
	case api.Float:
		return value.Float(pick(r, []float64{0, 1, -1, 0.5, math.NaN(), math.Inf(1), math.Inf(-1), math.Float64frombits(r.Uint64())}))
	case api.Text:
		return value.Text(pick(r, []string{"", "a", "b", "ab", "\x00", "\xff", longest}))
	}
	return null
}

// anyExpr returns an expression that may be wrong in every way, with about one fault of a kind in so many nodes.
func anyExpr(r *rand.Rand, levels, rarely int) api.Expr {
	e := api.Expr{Op: 1 + r.Intn(10)}
	if levels <= 1 {
		e.Op = 1 + r.Intn(2)
	}
	n := arity[e.Op]
	switch e.Op {
	case api.Lit:
		e.Val = anyValue(r)
	case api.Col:
		e.Col = r.Intn(4)
	}
	switch r.Intn(rarely) {
	case 0:
		e.Op = r.Intn(13) - 1
	case 1:
		n = r.Intn(4)
	case 2:
		e.Col = r.Intn(7) - 1
	case 3:
		e.Val = anyValue(r)
	}
	if levels > 1 {
		for range n {
			e.Args = append(e.Args, anyExpr(r, levels-1, rarely))
		}
	}
	return e
}

func TestRandomExpressions(t *testing.T) {
	r := rand.New(rand.NewSource(1))
	found := map[api.Errno]int{}
	for i := range 120000 {
		e := anyExpr(r, 1+r.Intn(10), pick(r, []int{10, 60, 1000}))
		row := []api.Value{anyValue(r), anyValue(r), anyValue(r), anyValue(r)}[:4-r.Intn(2)*r.Intn(5)]
		cols := make([]api.Column, 4-r.Intn(2)*r.Intn(5))
		for j := range cols {
			cols[j].Kind = 1 + r.Intn(3)
		}
		againstModel(t, e, row, cols)
		if i%2 == 0 {
			_, err := expr.Eval(e, row)
			found[err]++
		} else {
			_, err := expr.Kind(e, cols)
			found[err]++
		}
	}
	for _, err := range []api.Errno{api.OK, api.ErrLong, api.ErrForm, api.ErrType} {
		if found[err] < 1000 {
			t.Errorf("error %d only %d times", err, found[err])
		}
	}
}

// P8.2: if Kind returns OK, so does Eval, and the value is null or of that kind.

// typedExpr returns an expression that is mostly of the wanted kind, with valid literals.
func typedExpr(r *rand.Rand, kind, levels int) api.Expr {
	leaf := func() api.Expr {
		if i := slices.IndexFunc(fourKinds, func(c api.Column) bool { return c.Kind == kind }); i >= 0 && r.Intn(2) == 0 {
			return col(i)
		}
		return lit(valueOfKind(r, kind*min(1, r.Intn(5))))
	}
	if levels <= 1 || kind == api.Text || r.Intn(4) == 0 {
		return leaf()
	}
	some := func() int { return r.Intn(4) }
	op := pick(r, []int{api.Plus, api.Times})
	if kind == api.Int {
		op = 3 + r.Intn(8)
	}
	of := kind
	if op == api.Less || op == api.Equal || op == api.IsNull {
		of = some()
	}
	e := api.Expr{Op: op}
	for range arity[op] {
		if r.Intn(40) == 0 {
			of = some()
		}
		e.Args = append(e.Args, typedExpr(r, of, levels-1))
	}
	return e
}

func checkSound(t *testing.T, e api.Expr, cols []api.Column, row []api.Value) bool {
	t.Helper()
	k, err := expr.Kind(e, cols)
	if err != api.OK {
		return false
	}
	v, err := expr.Eval(e, row)
	if err != api.OK || v.Kind != api.Null && v.Kind != k && k != api.Null || !value.Good(v) {
		t.Fatalf("%#v of the kind %d for %#v: %#v, %d", e, k, row, v, err)
	}
	return true
}

func TestWhatHasAKindHasAValue(t *testing.T) {
	r := rand.New(rand.NewSource(2))
	sound, kinds := 0, [4]int{}
	for range 60000 {
		e := typedExpr(r, r.Intn(4), 1+r.Intn(8))
		k, _ := expr.Kind(e, fourKinds)
		for range 3 {
			row := make([]api.Value, len(fourKinds))
			for i, c := range fourKinds {
				row[i] = valueOfKind(r, c.Kind*min(1, r.Intn(4)))
			}
			if checkSound(t, e, fourKinds, row) {
				sound++
				kinds[k]++
			}
		}
	}
	if sound < 50000 || slices.Min(kinds[:]) < 1000 {
		t.Errorf("only %d expressions with a kind, by kind %v", sound, kinds)
	}
}

func TestSmallExpressionsWithAKindHaveAValue(t *testing.T) {
	var rows [][]api.Value
	for _, a := range []api.Value{null, no, value.Int(math.MaxInt)} {
		for _, b := range []api.Value{null, nan, half} {
			for _, c := range []api.Value{null, value.Text(""), value.Text("a")} {
				rows = append(rows, []api.Value{a, b, c, yes})
			}
		}
	}
	for op := api.Less; op <= api.Times; op++ {
		for _, a := range leaves() {
			for _, b := range leaves() {
				for _, row := range rows {
					checkSound(t, api.Expr{Op: op, Args: []api.Expr{a, b}[:arity[op]]}, fourKinds, row)
				}
			}
		}
	}
}

func ExampleEval() {
	// a < b, or b is unknown
	check := node(api.Or, node(api.Less, col(0), col(1)), node(api.IsNull, col(1)))
	kind, err := expr.Kind(check, []api.Column{{Name: "a", Kind: api.Int}, {Name: "b", Kind: api.Int}})
	fmt.Println(kind, err)
	for _, b := range []api.Value{value.Int(7), value.Int(5), {}} {
		row := []api.Value{value.Int(6), b}
		v, err := expr.Eval(check, row)
		fmt.Println(value.Show(v), err, expr.Holds(check, row))
	}
	// Output:
	// 1 0
	// 1 0 true
	// 0 0 false
	// 1 0 true
}
