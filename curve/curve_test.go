package curve_test

import (
	"math"
	"math/big"
	"testing"

	"tiller/api"
	"tiller/curve"
)

const least = -api.Most - 1

// P2.1
func TestSteps(t *testing.T) {
	steps := curve.Steps()
	for i, s := range steps {
		if want := api.Num(math.Round(65536 * math.Exp2(-float64(i)/64))); s != want {
			t.Errorf("step %d: %d, not %d", i, s, want)
		}
	}
	steps[0], steps[64] = 1, 1
	if again := curve.Steps(); again[0] != 65536 || again[64] != 32768 || curve.Pow(0) != 65536 {
		t.Error("an answer shares memory")
	}
}

// P2.1
func TestPow(t *testing.T) {
	for x, want := range map[api.Num]api.Num{
		0: 65536, 1: 65536, 7: 65536, api.Most: 65536,
		-1: 65535, -2: 65535, -1023: 64831, -1024: 64830, -1025: 64829, -512: 65183, -32768: 46341, -65535: 32768, -65536: 32768, -65537: 32767,
		-131072: 16384, -16 * 65536: 1, -16*65536 + 1: 1, -16*65536 - 1: 0, -17 * 65536: 0,
		-31 * 65536: 0, -32 * 65536: 0, -63 * 65536: 0, -64 * 65536: 0, -1 << 30: 0, -api.Most: 0, least: 0,
	} {
		if y := curve.Pow(x); y != want {
			t.Errorf("Pow(%d): %d, not %d", x, y, want)
		}
	}
}

// P2.1: all that isn't 0, by the chapter's rule in numbers without bounds.
func TestPowByRule(t *testing.T) {
	steps := curve.Steps()
	for y := int64(0); y < 18*65536; y++ {
		i, r := y/1024%64, y%1024
		a, b := int64(steps[i]), int64(steps[i+1])
		v := a - ((a-b)*r+512)/1024
		for range y / 65536 {
			v /= 2
		}
		if p := curve.Pow(api.Num(-y)); int64(p) != v {
			t.Fatalf("Pow(%d): %d, not %d", -y, p, v)
		}
	}
}

// P2.1: near to 2^(x / 65536).
func TestPowIsNear(t *testing.T) {
	for x := api.Num(0); x > -18*65536; x -= 37 {
		if far := math.Abs(float64(curve.Pow(x)) - 65536*math.Exp2(float64(x)/65536)); far > 4 {
			t.Fatalf("Pow(%d): %f off", x, far)
		}
	}
}

// P2.2
func TestRoot(t *testing.T) {
	for x, want := range map[uint64]uint64{
		0: 0, 1: 1, 2: 1, 3: 1, 4: 2, 8: 2, 9: 3, 15: 3, 16: 4, 17: 4,
		1<<62 - 1: 1<<31 - 1, 1 << 62: 1 << 31, 1<<63 - 1: 3037000499, 1 << 63: 3037000499,
		1<<64 - 1: 1<<32 - 1, 1<<64 - 1<<33: 1<<32 - 2, 1<<64 - 1<<33 + 1: 1<<32 - 1, 1 << 48: 1 << 24,
	} {
		if y := curve.Root(x); y != want {
			t.Errorf("Root(%d): %d, not %d", x, y, want)
		}
	}
	for x := range uint64(5000) {
		if y := curve.Root(x); y*y > x || (y+1)*(y+1) <= x {
			t.Errorf("Root(%d): %d", x, y)
		}
	}
	for r := uint64(1); r < 1<<32; r += r/97 + 1 {
		for _, x := range []uint64{r*r - 1, r * r, r*r + r, r*r + 2*r} {
			want := new(big.Int).Sqrt(new(big.Int).SetUint64(x))
			if y := curve.Root(x); y != want.Uint64() {
				t.Errorf("Root(%d): %d, not %d", x, y, want)
			}
		}
	}
}

// P2.2
func TestInverse(t *testing.T) {
	for x, want := range map[api.Num]api.Num{
		0: api.Most, -1: api.Most, -5: api.Most, -65536: api.Most, -api.Most: api.Most, least: api.Most,
		1: 16777216, 2: 11863283, 3: 9686330, 4: 8388608, 65535: 65536, 65536: 65536, 65537: 65535, 131072: 46340, 262144: 32768, api.Most - 1: 362, api.Most: 362,
	} {
		if y := curve.Inverse(x); y != want {
			t.Errorf("Inverse(%d): %d, not %d", x, y, want)
		}
	}
	check := func(x int64) {
		want := new(big.Int).Sqrt(big.NewInt((1 << 48) / x))
		if y := curve.Inverse(api.Num(x)); int64(y) != want.Int64() {
			t.Errorf("Inverse(%d): %d, not %d", x, y, want)
		}
	}
	for x := int64(1); x <= int64(api.Most); x += x/53 + 1 {
		check(x)
	}
	for root := int64(363); root < 1<<24; root += root/999 + 1 { // where the answer goes from one root to the next
		x := (1 << 48) / (root * root)
		check(x)
		check(x + 1)
	}
}

// P2.3
func TestPowNeverFalls(t *testing.T) {
	last := curve.Pow(least)
	rises := func(x api.Num) {
		y := curve.Pow(x)
		if y < last {
			t.Fatalf("Pow(%d): %d, behind %d", x, y, last)
		}
		last = y
	}
	for x := int64(least); x < -18*65536; x += 4099 {
		rises(api.Num(x))
	}
	for x := api.Num(-18 * 65536); x <= 2048; x++ {
		rises(x)
	}
	rises(api.Most)
}

// P2.3
func TestInverseNeverRises(t *testing.T) {
	last := curve.Inverse(least)
	falls := func(x api.Num) {
		y := curve.Inverse(x)
		if y > last {
			t.Fatalf("Inverse(%d): %d, behind %d", x, y, last)
		}
		last = y
	}
	for x := api.Num(-10); x < 1<<20; x++ {
		falls(x)
	}
	for x := int64(1 << 20); x <= int64(api.Most); x += 1009 {
		falls(api.Num(x))
	}
	falls(api.Most)
}
