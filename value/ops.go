package value

import (
	"tabard/api"
	"tabard/arith"
	"tabard/float"
	"tabard/root"
	"tabard/whole"
)

// number is a binary64 as an operand.
type number uint64

const (
	hundred   = 0x4059000000000000
	half      = 0x3FE0000000000000
	mostPower = 1000000
)

func (a number) plus(b number) api.Value {
	return Number(arith.Add(uint64(a), uint64(b)))
}

func (a number) minus(b number) api.Value {
	return Number(arith.Sub(uint64(a), uint64(b)))
}

func (a number) times(b number) api.Value {
	return Number(arith.Mul(uint64(a), uint64(b)))
}

func (a number) over(b number) api.Value {
	if b.zero() {
		return Fail(api.FailDiv)
	}
	return Number(root.Div(uint64(a), uint64(b)))
}

func (a number) power(b number) api.Value {
	switch {
	case a.zero() && b.zero():
		return Fail(api.FailNum)
	case a.zero() && whole.Sign(uint64(b)) < 0:
		return Fail(api.FailDiv)
	case b == half:
		return Number(root.Sqrt(uint64(a)))
	}
	n, err := whole.To(uint64(b), api.Down)
	if err != api.OK || !whole.Is(uint64(b)) || n < -mostPower || n > mostPower {
		return Fail(api.FailNum)
	}
	return Number(root.Power(uint64(a), n))
}

func (a number) zero() bool { return float.Kind(uint64(a)) == float.Zero }

// calculation is the operator of two numbers, or nil.
func calculation(op string) func(a, b number) api.Value {
	switch op {
	case "+":
		return number.plus
	case "-":
		return number.minus
	case "*":
		return number.times
	case "/":
		return number.over
	case "^":
		return number.power
	}
	return nil
}

func (o *Ops) Unary(op string, a api.Value) api.Value {
	if a.Kind == api.Fail || op == "+" {
		return a
	}
	if op != "-" && op != "%" {
		return Fail(api.FailName)
	}
	x, fail := o.ToNumber(a)
	switch {
	case fail != 0:
		return Fail(fail)
	case op == "-":
		return Number(float.Neg(x))
	}
	return Number(root.Div(x, hundred))
}

func (o *Ops) Binary(op string, a, b api.Value) api.Value {
	if a.Kind == api.Fail {
		return a
	}
	if b.Kind == api.Fail {
		return b
	}
	if op == "&" {
		s, _ := o.ToText(a)
		t, _ := o.ToText(b)
		return Text(s + t)
	}
	if work := calculation(op); work != nil {
		return o.calculated(work, a, b)
	}
	order := o.Compare(a, b)
	switch op {
	case "=":
		return Bool(order == 0)
	case "<>":
		return Bool(order != 0)
	case "<":
		return Bool(order < 0)
	case "<=":
		return Bool(order <= 0)
	case ">":
		return Bool(order > 0)
	case ">=":
		return Bool(order >= 0)
	}
	return Fail(api.FailName)
}

func (o *Ops) calculated(work func(a, b number) api.Value, a, b api.Value) api.Value {
	x, fail := o.ToNumber(a)
	if fail != 0 {
		return Fail(fail)
	}
	y, fail := o.ToNumber(b)
	if fail != 0 {
		return Fail(fail)
	}
	return work(number(x), number(y))
}
