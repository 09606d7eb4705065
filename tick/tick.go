// Package tick is layer 1: ticks, reckoned without ever leaving 0 to Forever.
package tick

import "skep/api"

// Cut brings a number to one of ticks.
func Cut(a int) int {
	if a < 0 {
		return 0
	}
	if a > api.Forever {
		return api.Forever
	}
	return a
}

// Sum is a and b together, at most Forever.
func Sum(a, b int) int {
	p := cutBoth(a, b)
	// Forever twice is 2^63, which no int holds: ask for the room ahead of adding.
	if p[0] > api.Forever-p[1] {
		return api.Forever
	}
	return p[0] + p[1]
}

// Less is a without b, at least 0; of Forever nothing can be taken away.
func Less(a, b int) int {
	p := cutBoth(a, b)
	if p[0] == api.Forever {
		return api.Forever
	}
	if p[0] < p[1] {
		return 0
	}
	return p[0] - p[1]
}

// Times is a times b, at most Forever.
func Times(a, b int) int {
	p := cutBoth(a, b)
	// The product may wrap round: ask for the room ahead of multiplying.
	if p[1] != 0 && p[0] > api.Forever/p[1] {
		return api.Forever
	}
	return p[0] * p[1]
}

// Up is a divided by b, rounded up: 0 if b is 0, else Forever if a is Forever.
func Up(a, b int) int {
	p := cutBoth(a, b)
	if p[1] == 0 {
		return 0
	}
	if p[0] == api.Forever {
		return api.Forever
	}
	up := p[0] / p[1]
	if p[0]%p[1] != 0 {
		up++
	}
	return up
}

// cutBoth is both numbers, cut: no call reckons with one that is not.
func cutBoth(a, b int) [2]int {
	p := [2]int{a, b}
	for i := range p {
		p[i] = Cut(p[i])
	}
	return p
}
