package expr_test

import (
	"math"
	"math/big"
	"strings"

	"mortmain/api"
)

// The model says again, by itself, what the document requires: it returns
// errors instead of abandoning, and calculates with big numbers and ranks.

const nanBits = 0x7FF8000000000000

// arity is the number of operands that each operation takes.
var arity = map[int]int{
	api.Lit: 0, api.Col: 0, api.Less: 2, api.Equal: 2, api.And: 2, api.Or: 2, api.Not: 1, api.IsNull: 1, api.Plus: 2, api.Times: 2,
}

func countNodes(e api.Expr) int {
	n := 1
	for _, arg := range e.Args {
		n += countNodes(arg)
	}
	return n
}

func countLevels(e api.Expr) int {
	most := 0
	for _, arg := range e.Args {
		most = max(most, countLevels(arg))
	}
	return most + 1
}

func modelLong(e api.Expr) bool {
	return countNodes(e) > 24 || countLevels(e) > 8
}

func modelEval(e api.Expr, row []api.Value) (api.Value, api.Errno) {
	if modelLong(e) {
		return api.Value{}, api.ErrLong
	}
	return modelValue(e, row)
}

func modelValue(e api.Expr, row []api.Value) (api.Value, api.Errno) {
	if n, known := arity[e.Op]; !known || n != len(e.Args) {
		return api.Value{}, api.ErrForm
	}
	var args []api.Value
	for _, arg := range e.Args {
		v, err := modelValue(arg, row)
		if err != api.OK {
			return api.Value{}, err
		}
		args = append(args, v)
	}
	switch e.Op {
	case api.Lit:
		return e.Val, api.OK
	case api.Col:
		for i, v := range row {
			if i == e.Col {
				return v, api.OK
			}
		}
		return api.Value{}, api.ErrForm
	case api.IsNull:
		return rankValue(map[bool]int{true: 2, false: 0}[args[0].Kind == 0]), api.OK
	case api.And, api.Or, api.Not:
		return modelLogic(e.Op, args)
	}
	return modelPair(e.Op, args[0], args[1])
}

// modelLogic ranks false 0, unknown 1 and true 2: And is the least rank and Or the greatest.
func modelLogic(op int, args []api.Value) (api.Value, api.Errno) {
	least, most := 2, 0
	for _, v := range args {
		rank := 1
		switch {
		case v.Kind == 1 && v.Num == 0:
			rank = 0
		case v.Kind == 1:
			rank = 2
		case v.Kind != 0:
			return api.Value{}, api.ErrType
		}
		least, most = min(least, rank), max(most, rank)
	}
	switch op {
	case api.And:
		return rankValue(least), api.OK
	case api.Or:
		return rankValue(most), api.OK
	}
	return rankValue(2 - least), api.OK
}

func rankValue(rank int) api.Value {
	return []api.Value{{Kind: 1}, {}, {Kind: 1, Num: 1}}[rank]
}

func modelPair(op int, a, b api.Value) (api.Value, api.Errno) {
	if a.Kind == 0 || b.Kind == 0 {
		return api.Value{}, api.OK
	}
	if a.Kind != b.Kind {
		return api.Value{}, api.ErrType
	}
	switch op {
	case api.Less:
		return rankValue(2 * max(0, -modelOrder(a, b))), api.OK
	case api.Equal:
		return rankValue(2 - 2*modelOrder(a, b)*modelOrder(a, b)), api.OK
	}
	switch a.Kind {
	case 3:
		return api.Value{}, api.ErrType
	case 2:
		x, y := math.Float64frombits(uint64(a.Num)), math.Float64frombits(uint64(b.Num))
		if op == api.Plus {
			return api.Value{Kind: 2, Num: canonical(x + y)}, api.OK
		}
		return api.Value{Kind: 2, Num: canonical(x * y)}, api.OK
	}
	x, y := big.NewInt(int64(a.Num)), big.NewInt(int64(b.Num))
	if op == api.Plus {
		return api.Value{Kind: 1, Num: wrapped(x.Add(x, y))}, api.OK
	}
	return api.Value{Kind: 1, Num: wrapped(x.Mul(x, y))}, api.OK
}

func canonical(f float64) int {
	switch {
	case f != f:
		return nanBits
	case f == 0:
		return 0
	}
	return int(math.Float64bits(f))
}

// wrapped returns the signed number of 64 bits that equals x modulo 2^64.
func wrapped(x *big.Int) int {
	all := new(big.Int).Lsh(big.NewInt(1), 64)
	x = new(big.Int).Mod(x, all)
	if x.Bit(63) == 1 {
		x.Sub(x, all)
	}
	return int(x.Int64())
}

func modelOrder(a, b api.Value) int {
	switch a.Kind {
	case 1:
		return big.NewInt(int64(a.Num)).Cmp(big.NewInt(int64(b.Num)))
	case 2:
		x, y := math.Float64frombits(uint64(a.Num)), math.Float64frombits(uint64(b.Num))
		switch {
		case x < y || x == x && y != y:
			return -1
		case x > y || x != x && y == y:
			return 1
		}
		return 0
	}
	return strings.Compare(a.Text, b.Text)
}

func modelKind(e api.Expr, cols []api.Column) (int, api.Errno) {
	if modelLong(e) {
		return 0, api.ErrLong
	}
	return modelKindOf(e, cols)
}

func modelKindOf(e api.Expr, cols []api.Column) (int, api.Errno) {
	n, known := arity[e.Op]
	if !known || n != len(e.Args) || e.Col != 0 && e.Op != api.Col || e.Val != (api.Value{}) && e.Op != api.Lit {
		return 0, api.ErrForm
	}
	var args []int
	for _, arg := range e.Args {
		k, err := modelKindOf(arg, cols)
		if err != api.OK {
			return 0, err
		}
		args = append(args, k)
	}
	switch e.Op {
	case api.Lit:
		if !validValue(e.Val) {
			return 0, api.ErrForm
		}
		return e.Val.Kind, api.OK
	case api.Col:
		for i, c := range cols {
			if i == e.Col {
				return c.Kind, api.OK
			}
		}
		return 0, api.ErrForm
	}
	if !modelMatch(e.Op, args) {
		return 0, api.ErrType
	}
	if e.Op == api.Plus || e.Op == api.Times {
		// One is Null or they are the same, so the greater one is that of both.
		return max(args[0], args[1]), api.OK
	}
	return 1, api.OK
}

func modelMatch(op int, kinds []int) bool {
	seen := [4]bool{}
	for _, k := range kinds {
		seen[k] = true
	}
	switch op {
	case api.IsNull:
		return true
	case api.And, api.Or, api.Not:
		return !seen[2] && !seen[3]
	case api.Plus, api.Times:
		return !seen[3] && !(seen[1] && seen[2])
	}
	return !(seen[1] && seen[2] || seen[1] && seen[3] || seen[2] && seen[3])
}

func validValue(v api.Value) bool {
	f := math.Float64frombits(uint64(v.Num))
	switch v.Kind {
	case 0:
		return v == api.Value{}
	case 1:
		return v.Text == ""
	case 2:
		return v.Text == "" && canonical(f) == v.Num
	case 3:
		return v.Num == 0 && len(v.Text) <= 24
	}
	return false
}
