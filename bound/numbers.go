package bound

import "pipewright/api"

// cut takes any number for one that is reckoned with here: from 0 up to Cap.
func cut(n int) int { return max(0, min(n, api.Cap)) }

// Add is a sum, but Cap at most.
func Add(a, b int) int { return cut(cut(a) + cut(b)) }

// Times is a product, but Cap at most.
func Times(a, b int) int {
	a, b = cut(a), cut(b)
	if a > 0 && b > api.Cap/a {
		return api.Cap
	}
	return a * b
}
