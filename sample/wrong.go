package sample

import (
	"errors"
	"math"

	"fettle/api"
)

// Beyond are numbers of none of so many.
func Beyond(many int) []int {
	return []int{-1, -2, math.MinInt, many, many + 1, 1 << 40, math.MaxInt}
}

// SameError tells whether an error is the other one: such a Code itself, or
// such a Spot.
func SameError(a, b error) bool {
	var at, other *api.Spot
	if errors.As(a, &at) && errors.As(b, &other) {
		return *at == *other
	}
	return a == b
}
