package expr

import (
	"math"

	"penance/api"
)

// Eval tells the number that x is.
func Eval(x api.Expr, vars []int) (int, api.Errno) {
	if !Right(x, len(vars)) {
		return 0, api.Unknown
	}
	return eval(x, vars)
}

// eval is Eval of what is Right.
func eval(x api.Expr, vars []int) (int, api.Errno) {
	switch x.Kind {
	case api.ENum:
		return x.N, api.OK
	case api.EVar:
		return vars[x.N], api.OK
	}
	a, e := eval(x.L[0], vars)
	switch {
	case e != api.OK:
		return 0, e
	case len(x.L) == 1:
		return one(x.Kind, a)
	case x.Kind == api.EAnd && a == 0:
		return 0, api.OK
	case x.Kind == api.EOr && a != 0:
		return 1, api.OK
	}
	b, e := eval(x.L[1], vars)
	if e != api.OK {
		return 0, e
	}
	return two(x.Kind, a, b)
}

func one(kind, a int) (int, api.Errno) {
	if kind == api.ENot {
		return truth(a == 0), api.OK
	}
	return subtract(0, a)
}

func two(kind, a, b int) (int, api.Errno) {
	switch kind {
	case api.EMul:
		return multiply(a, b)
	case api.EDiv:
		return divide(a, b)
	case api.EMod:
		return remain(a, b)
	case api.EAdd:
		return add(a, b)
	case api.ESub:
		return subtract(a, b)
	case api.EEq:
		return truth(a == b), api.OK
	case api.ENe:
		return truth(a != b), api.OK
	case api.ELt:
		return truth(a < b), api.OK
	case api.ELe:
		return truth(a <= b), api.OK
	case api.EGt:
		return truth(a > b), api.OK
	case api.EGe:
		return truth(a >= b), api.OK
	}
	return truth(b != 0), api.OK // EAnd, EOr: the first one has settled nothing
}

func truth(is bool) int {
	if is {
		return 1
	}
	return 0
}

func add(a, b int) (int, api.Errno) {
	s := a + b
	if (s > a) != (b > 0) {
		return 0, api.Overflow
	}
	return s, api.OK
}

func subtract(a, b int) (int, api.Errno) {
	s := a - b
	if (s < a) != (b > 0) {
		return 0, api.Overflow
	}
	return s, api.OK
}

func multiply(a, b int) (int, api.Errno) {
	p := a * b
	// Of the lowest number and -1 the product wraps round, and so does its quotient by -1.
	if a != 0 && (p/a != b || a == -1 && b == math.MinInt) {
		return 0, api.Overflow
	}
	return p, api.OK
}

func divide(a, b int) (int, api.Errno) {
	switch {
	case b == 0:
		return 0, api.Zero
	case a == math.MinInt && b == -1:
		return 0, api.Overflow
	}
	return a / b, api.OK
}

func remain(a, b int) (int, api.Errno) {
	switch b {
	case 0:
		return 0, api.Zero
	case -1:
		return 0, api.OK
	}
	return a % b, api.OK
}
