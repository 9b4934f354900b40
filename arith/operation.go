package arith

import "torchere/api"

// ofOne returns the operation of that name on one number, or nil if there is none.
func ofOne(name string) func(int64) int64 {
	switch name {
	case "-":
		return negative
	case "abs":
		return absolute
	}
	return nil
}

// ofTwo returns the operation of that name on two numbers, or nil if there is none.
func ofTwo(name string) func(a, b int64) int64 {
	switch name {
	case "+":
		return sum
	case "-":
		return difference
	case "*":
		return product
	case "//":
		return quotient
	case "mod":
		return remainder
	}
	return nil
}

// negative fails for the lowest number, as the range has one more below 0 than above.
func negative(a int64) int64 {
	return difference(0, a)
}

// absolute is the number without its sign.
func absolute(a int64) int64 {
	if a < 0 {
		return negative(a)
	}
	return a
}

// sum fails if it wraps round: then it went the wrong way.
func sum(a, b int64) int64 {
	n := a + b
	if b < 0 && n > a || b > 0 && n < a {
		fail(api.ErrEval)
	}
	return n
}

// difference fails if it wraps round: then it went the wrong way.
func difference(a, b int64) int64 {
	n := a - b
	if b < 0 && n < a || b > 0 && n > a {
		fail(api.ErrEval)
	}
	return n
}

// product fails if it wraps round: then it does not lead back, except from the lowest number by -1, where the way back wraps round too.
func product(a, b int64) int64 {
	if a == 0 || b == 0 {
		return 0
	}
	if a == -1 {
		return negative(b)
	}
	n := a * b
	if n/a != b {
		fail(api.ErrEval)
	}
	return n
}

// quotient is rounded toward 0. By -1 it may be beyond the range.
func quotient(a, b int64) int64 {
	switch b {
	case 0:
		fail(api.ErrEval)
	case -1:
		return negative(a)
	}
	return a / b
}

// remainder has the sign of the second number, where Go's has that of the first one.
func remainder(a, b int64) int64 {
	if b == 0 {
		fail(api.ErrEval)
	}
	n := a % b
	if n != 0 && (n < 0) != (b < 0) {
		n += b
	}
	return n
}
