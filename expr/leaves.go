package expr

import "homestead/api"

func formedColumn(e api.Expr) bool {
	return e.N >= 0 && e.Val == nothing()
}

// columnKind is asked of columns that are there alone: that they are is told ahead of all kinds.
func columnKind(e api.Expr, kinds []int) int { return kinds[e.N] }

func columnSays(e api.Expr, row api.Row) (api.Value, api.Errno) {
	if e.N >= len(row) {
		return nothing(), api.ErrNone
	}
	return row[e.N], api.OK
}

func formedLiteral(e api.Expr) bool {
	return e.N == 0 && may(e.Val)
}

func literalKind(e api.Expr, _ []int) int { return e.Val.Kind }

func literalSays(e api.Expr, _ api.Row) (api.Value, api.Errno) { return e.Val, api.OK }
