package expr

import "homestead/api"

// numbers tells whether two kinds are those of numbers, or of nothing.
func numbers(a, b int) bool {
	return together(a, api.VInt) && together(b, api.VInt)
}

// together tells whether two kinds go together.
func together(a, b int) bool {
	return a == b || a == api.VNull || b == api.VNull
}

// whatever is what asks for no kind.
func whatever(a, b int) bool { return true }

// reckoned says a number that is made of two.
func reckoned(how func(a, b int) int) func(a, b api.Value) (api.Value, api.Errno) {
	return func(a, b api.Value) (api.Value, api.Errno) {
		if a == nothing() || b == nothing() {
			return nothing(), api.OK
		}
		n := how(a.N, b.N)
		if over(n) {
			return nothing(), api.ErrOver
		}
		return number(n), api.OK
	}
}

// product is that of two numbers; of one that is beyond MaxNum, which may be beyond an int, too, it is just some number beyond.
func product(a, b int) int {
	if a != 0 && size(b) > api.MaxNum/size(a) {
		return api.MaxNum + 1
	}
	return a * b
}

// compared says whether two values are as it is asked.
func compared(are func(a, b api.Value) bool) func(a, b api.Value) (api.Value, api.Errno) {
	return func(a, b api.Value) (api.Value, api.Errno) {
		if a == nothing() || b == nothing() {
			return nothing(), api.OK
		}
		return truth(are(a, b)), api.OK
	}
}

// less tells whether the first one of two values of one kind is less.
func less(a, b api.Value) bool {
	if a.Kind == api.VInt {
		return a.N < b.N
	}
	return a.S < b.S
}

// and says no as soon as one does, whatever the other one says.
func and(a, b api.Value) (api.Value, api.Errno) {
	switch {
	case a == number(0) || b == number(0):
		return number(0), api.OK
	case a == nothing() || b == nothing():
		return nothing(), api.OK
	}
	return number(1), api.OK
}

// or says yes as soon as one does, whatever the other one says.
func or(a, b api.Value) (api.Value, api.Errno) {
	switch {
	case a.N != 0 || b.N != 0:
		return number(1), api.OK
	case a == nothing() || b == nothing():
		return nothing(), api.OK
	}
	return number(0), api.OK
}

func not(a, _ api.Value) (api.Value, api.Errno) {
	if a == nothing() {
		return nothing(), api.OK
	}
	return truth(a == number(0)), api.OK
}

func isNothing(a, _ api.Value) (api.Value, api.Errno) {
	return truth(a == nothing()), api.OK
}

// truth is 1 or 0.
func truth(is bool) api.Value {
	if is {
		return number(1)
	}
	return number(0)
}

func nothing() api.Value { return api.Value{} }

func number(n int) api.Value { return api.Value{Kind: api.VInt, N: n} }

// over tells whether a number is beyond MaxNum, either way.
func over(n int) bool { return n < -api.MaxNum || n > api.MaxNum }

// size is a number without its sign.
func size(n int) int { return max(n, -n) }
