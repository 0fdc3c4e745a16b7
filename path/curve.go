package path

import (
	"serif/api"
	"serif/fixed"
)

const maxSteps = 16 // the most points that a curve is given

// appendQuad: the points so far, and those of the curve from a with the control c to b.
func appendQuad(points []api.Spot, a, c, b api.Spot) []api.Spot {
	n := steps(bend(a, c, b))
	for i := 1; i <= n; i++ {
		j := n - i
		points = append(points, api.Spot{
			X: nearest(a.X*j*j+2*c.X*i*j+b.X*i*i, n*n),
			Y: nearest(a.Y*j*j+2*c.Y*i*j+b.Y*i*i, n*n),
		})
	}
	return points
}

// appendCubic: the points so far, and those of the curve from a with the controls c and d to b.
func appendCubic(points []api.Spot, a, c, d, b api.Spot) []api.Spot {
	n := steps(bend(a, c, d) + bend(c, d, b))
	for i := 1; i <= n; i++ {
		j := n - i
		points = append(points, api.Spot{
			X: nearest(a.X*j*j*j+3*c.X*i*j*j+3*d.X*i*i*j+b.X*i*i*i, n*n*n),
			Y: nearest(a.Y*j*j*j+3*c.Y*i*j*j+3*d.Y*i*i*j+b.Y*i*i*i, n*n*n),
		})
	}
	return points
}

// bend: how far the way from a by c to b is from being straight and even.
func bend(a, c, b api.Spot) int {
	return distance(a.X-2*c.X+b.X) + distance(a.Y-2*c.Y+b.Y)
}

// distance: n without its sign.
func distance(n int) int { return max(n, -n) }

// steps: how many points a curve with such a bend is given.
func steps(bend int) int {
	n := 1
	for n < maxSteps && bend > 4*n*n {
		n *= 2
	}
	return n
}

// middle: the place halfway between two.
func middle(a, b api.Spot) api.Spot {
	return api.Spot{X: nearest(a.X+b.X, 2), Y: nearest(a.Y+b.Y, 2)}
}

// nearest: a sum of FIX by the number of them. Layer 1 can't refuse it: the mean of FIX is one, and no sum here has more than 44 bits.
func nearest(sum, by int) int {
	q, _ := fixed.MulDiv(sum, 1, by)
	return q
}
