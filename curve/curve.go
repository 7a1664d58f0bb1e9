// Package curve is layer 2: see shared/doc/02-curve.md.
package curve

import (
	"tiller/api"
)

// steps are written out, as the document gives them: a rule would need floats.
var steps = [65]api.Num{
	65536, 64830, 64132, 63441, 62757, 62081, 61413, 60751,
	60097, 59449, 58809, 58176, 57549, 56929, 56316, 55709,
	55109, 54515, 53928, 53347, 52773, 52204, 51642, 51085,
	50535, 49991, 49452, 48920, 48393, 47871, 47356, 46846,
	46341, 45842, 45348, 44859, 44376, 43898, 43425, 42958,
	42495, 42037, 41584, 41136, 40693, 40255, 39821, 39392,
	38968, 38548, 38133, 37722, 37316, 36914, 36516, 36123,
	35734, 35349, 34968, 34591, 34219, 33850, 33486, 33125,
	32768,
}

// Steps: 65536 times 2 to the power of -i/64, for i from 0 to 64.
func Steps() [65]api.Num {
	return steps
}

// Pow: 2 to the power of x, for x that isn't above 0.
func Pow(x api.Num) api.Num {
	y := -int64(min(x, 0)) // in 64 bits: the least Num has no opposite in 32
	i, r := y/1024%64, y%1024
	a, b := int64(steps[i]), int64(steps[i+1])
	return api.Num((a - ((a-b)*r+512)/1024) >> (y / 65536))
}

// Root: the greatest number whose square isn't above x.
func Root(x uint64) uint64 {
	root := uint64(0)
	for bit := uint64(1) << 31; bit > 0; bit >>= 1 { // a root has 32 bits, so that no square overflows
		if r := root | bit; r*r <= x {
			root = r
		}
	}
	return root
}

// Inverse: 1 by the root of x; of x that isn't above 0 the greatest number.
func Inverse(x api.Num) api.Num {
	if x <= 0 {
		return api.Most
	}
	return api.Num(Root((1 << 48) / uint64(x)))
}
