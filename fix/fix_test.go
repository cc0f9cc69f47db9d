package fix_test

import (
	"math"
	"math/big"
	"testing"

	"joust/api"
	"joust/fix"
)

const (
	least    = math.MinInt64
	greatest = math.MaxInt64
)

// numbers gives those at and about 0, every power of two, One, Max, both ends of int64, on both sides of 0, and some of any size between.
func numbers() []int64 {
	list := []int64{0, least, least + 1, least + 2, greatest, greatest - 1, greatest - 2, 3, 7, 10, 98304, -98304}
	for i := range 63 {
		for d := int64(-2); d <= 2; d++ {
			list = append(list, int64(1)<<i+d, -(int64(1)<<i)+d)
		}
	}
	return append(list, scattered(100)...)
}

// scattered gives n numbers that follow no rule a program could be after, of all sizes, the same ones always.
func scattered(n int) []int64 {
	list := make([]int64, 0, n)
	x := uint64(88172645463325252)
	for i := range n {
		x ^= x << 13
		x ^= x >> 7
		x ^= x << 17
		list = append(list, int64(x)>>(i%64))
	}
	return list
}

func bounded(x *big.Int) int64 {
	most := big.NewInt(api.Max)
	if x.CmpAbs(most) > 0 {
		return int64(x.Sign()) * api.Max
	}
	return x.Int64()
}

// floored is a divided by b, towards minus infinity.
func floored(a, b *big.Int) *big.Int {
	quotient, rest := new(big.Int).QuoRem(a, b, new(big.Int))
	if rest.Sign()*b.Sign() < 0 {
		quotient.Sub(quotient, big.NewInt(1))
	}
	return quotient
}

func exactSum(a, b int64) int64 {
	return bounded(new(big.Int).Add(big.NewInt(a), big.NewInt(b)))
}

func exactProduct(a, b int64) int64 {
	product := new(big.Int).Mul(big.NewInt(a), big.NewInt(b))
	return bounded(floored(product, big.NewInt(65536)))
}

func exactQuotient(a, b int64) int64 {
	if b == 0 {
		return int64(big.NewInt(a).Sign()) * api.Max
	}
	raised := new(big.Int).Mul(big.NewInt(a), big.NewInt(65536))
	return bounded(floored(raised, big.NewInt(b)))
}

func exactRoot(a int64) int64 {
	if a < 0 {
		return 0
	}
	return new(big.Int).Sqrt(new(big.Int).Mul(big.NewInt(a), big.NewInt(65536))).Int64()
}

func wantPairs(t *testing.T, what string, call func(a, b int64) int64, rows [][3]int64) {
	t.Helper()
	for _, r := range rows {
		if n := call(r[0], r[1]); n != r[2] {
			t.Errorf("%s(%d, %d) = %d, want %d", what, r[0], r[1], n, r[2])
		}
	}
}

// P3.1: the chapter's examples, both edges and one beside them, lo above hi, numbers beyond Max as they are.
func TestClamp(t *testing.T) {
	for _, r := range [][4]int64{
		{5, 0, 3, 3}, {-5, 0, 3, 0}, {2, 0, 3, 2}, {2, 9, 1, 1}, {20, 9, 1, 1},
		{0, 0, 3, 0}, {3, 0, 3, 3}, {-1, 0, 3, 0}, {4, 0, 3, 3}, {7, 7, 7, 7}, {6, 7, 7, 7}, {8, 7, 7, 7},
		{5, 9, 1, 1}, {0, 9, 1, 1}, {-4, -1, -9, -9}, {1 << 41, 0, 1 << 42, 1 << 41}, {-1 << 41, -1 << 42, 0, -1 << 41},
		{least, least, greatest, least}, {greatest, least, greatest, greatest}, {0, least, greatest, 0},
		{0, greatest, least, least}, {least, greatest, greatest, greatest}, {greatest, least, least, least},
	} {
		if n := fix.Clamp(r[0], r[1], r[2]); n != r[3] {
			t.Errorf("Clamp(%d, %d, %d) = %d, want %d", r[0], r[1], r[2], n, r[3])
		}
	}
}

// P3.2: the chapter's examples and hard places, and sums that an int64 doesn't hold.
func TestAddExamples(t *testing.T) {
	wantPairs(t, "Add", fix.Add, [][3]int64{
		{api.Max, 1, api.Max}, {-api.Max, -1, -api.Max}, {3, -5, -2}, {least, -1, -api.Max},
		{0, 0, 0}, {api.Max, 0, api.Max}, {api.Max - 1, 1, api.Max}, {api.Max - 2, 1, api.Max - 1}, {-api.Max + 2, -1, -api.Max + 1},
		{greatest, 1, api.Max}, {greatest, greatest, api.Max}, {least, least, -api.Max}, {greatest, least, -1},
		{greatest, -greatest, 0}, {least + 5, greatest, 4}, {least, 1, -api.Max},
	})
}

// P3.3: the chapter's examples and hard places, and products that just reach the bounds.
func TestMulExamples(t *testing.T) {
	wantPairs(t, "Mul", fix.Mul, [][3]int64{
		{65536, 65536, 65536}, {98304, 98304, 147456}, {-1, 1, -1}, {1, 1, 0},
		{1 << 40, 1 << 40, api.Max}, {1 << 40, -1 << 40, -api.Max},
		{least, least, api.Max}, {least, api.One, -api.Max},
		{-1, -1, 0}, {-1, 65535, -1}, {-1, 65536, -1}, {-1, 65537, -2}, {1, 65535, 0}, {1, 65536, 1}, {0, -1, 0}, {0, least, 0},
		{1 << 28, 1 << 28, api.Max}, {1<<28 - 1, 1 << 28, api.Max - 1<<12}, {-1 << 28, 1 << 28, -api.Max}, {-1 << 28, 1<<28 + 1, -api.Max},
		{greatest, greatest, api.Max}, {greatest, least, -api.Max}, {least, 1, -api.Max}, {greatest, 1, api.Max}, {1 << 32, 1 << 32, api.Max},
		{-1 << 32, 1 << 32, -api.Max}, {1 << 56, 1, api.Max}, {1<<56 - 1, 1, api.Max - 1}, {1 - 1<<56, 1, -api.Max}, {1 - 1<<56, -1, api.Max - 1},
	})
}

// P3.4: the chapter's examples and hard places, and quotients of more than 64 bits.
func TestDivExamples(t *testing.T) {
	wantPairs(t, "Div", fix.Div, [][3]int64{
		{65536, 131072, 32768}, {1, 3, 21845}, {-1, 3, -21846}, {7, 0, api.Max}, {-7, 0, -api.Max}, {0, 0, 0},
		{-1, 131072, -1}, {1, -131072, -1},
		{1, 131072, 0}, {-1, -131072, 0}, {1, -3, -21846}, {-1, -3, 21845}, {-1, 65536, -1}, {1, -65536, -1}, {0, -9, 0}, {0, 9, 0}, {0, least, 0},
		{least, least, 65536}, {greatest, greatest, 65536}, {greatest, least, -65536}, {least, greatest, -65537},
		{least, 1, -api.Max}, {least, -1, api.Max}, {greatest, 1, api.Max}, {greatest, -1, -api.Max}, {least, 0, -api.Max}, {greatest, 0, api.Max},
		{1 << 24, 1, api.Max}, {1<<24 - 1, 1, api.Max - 65536}, {1 << 24, -1, -api.Max}, {1, greatest, 0}, {-1, greatest, -1}, {1, least, -1},
		{1 << 62, 1 << 38, api.Max}, {1 << 62, 1<<38 + 1, 1099511627772}, {-1 << 62, 1<<38 + 1, -1099511627773}, {1 << 48, 1, api.Max}, {-1 << 48, 1, -api.Max},
	})
}

// P3.5: the chapter's examples, and the numbers about a square.
func TestRootExamples(t *testing.T) {
	for _, r := range [][2]int64{
		{65536, 65536}, {131072, 92681}, {2, 362}, {0, 0}, {-1, 0}, {greatest, 777472127993},
		{1, 256}, {3, 443}, {4, 512}, {65535, 65535}, {65537, 65536}, {262143, 131071}, {262144, 131072}, {least, 0}, {-65536, 0},
		{api.Max, 268435456}, {api.Max - 1, 268435455}, {1 << 62, 549755813888}, {1<<62 - 1, 549755813887},
	} {
		if n := fix.Root(r[0]); n != r[1] {
			t.Errorf("Root(%d) = %d, want %d", r[0], n, r[1])
		}
	}
}

// P3.2, P3.3, P3.4, P3.9: every pair of numbers, against sums, products and quotients reckoned exactly; the bounds; the order of the two.
func TestPairsExactly(t *testing.T) {
	list := numbers()
	for _, a := range list {
		for _, b := range list {
			sum, product, quotient := fix.Add(a, b), fix.Mul(a, b), fix.Div(a, b)
			if want := exactSum(a, b); sum != want {
				t.Fatalf("Add(%d, %d) = %d, want %d", a, b, sum, want)
			}
			if want := exactProduct(a, b); product != want {
				t.Fatalf("Mul(%d, %d) = %d, want %d", a, b, product, want)
			}
			if want := exactQuotient(a, b); quotient != want {
				t.Fatalf("Div(%d, %d) = %d, want %d", a, b, quotient, want)
			}
			if fix.Add(b, a) != sum || fix.Mul(b, a) != product {
				t.Fatalf("Add or Mul of %d and %d minds their order", a, b)
			}
			for _, n := range []int64{sum, product, quotient} {
				if n < -api.Max || n > api.Max {
					t.Fatalf("of %d and %d: %d is beyond the bounds", a, b, n)
				}
			}
		}
	}
}

// P3.3, P3.4: the quotients and products that are nearest to a bound, from both sides of it.
func TestAboutTheBounds(t *testing.T) {
	for _, b := range numbers() {
		if b == 0 {
			continue
		}
		reach := new(big.Int).Mul(big.NewInt(api.Max), big.NewInt(b))
		for _, a := range []*big.Int{floored(reach, big.NewInt(65536)), floored(new(big.Int).Lsh(big.NewInt(api.Max), 16), big.NewInt(b))} {
			for d := int64(-2); d <= 2; d++ {
				near := new(big.Int).Add(a, big.NewInt(d))
				if !near.IsInt64() {
					continue
				}
				for _, x := range []int64{near.Int64(), -near.Int64()} {
					if n, want := fix.Div(x, b), exactQuotient(x, b); n != want {
						t.Errorf("Div(%d, %d) = %d, want %d", x, b, n, want)
					}
					if n, want := fix.Mul(x, b), exactProduct(x, b); n != want {
						t.Errorf("Mul(%d, %d) = %d, want %d", x, b, n, want)
					}
				}
			}
		}
	}
}

// P3.5: the greatest root, reckoned exactly, of numbers of all sizes and of those about each square.
func TestRootExactly(t *testing.T) {
	list := append(numbers(), scattered(5000)...)
	for _, root := range scattered(5000) {
		square := new(big.Int).Mul(big.NewInt(root>>24), big.NewInt(root>>24))
		about := floored(square, big.NewInt(65536))
		if about.IsInt64() && about.Int64() < greatest-2 {
			list = append(list, about.Int64()-1, about.Int64(), about.Int64()+1, about.Int64()+2)
		}
	}
	for a := range int64(70000) {
		list = append(list, a)
	}
	for _, a := range list {
		n := fix.Root(a)
		if want := exactRoot(a); n != want {
			t.Fatalf("Root(%d) = %d, want %d", a, n, want)
		}
		if n < 0 || n >= 1<<40 {
			t.Fatalf("Root(%d) = %d is not below 2^40", a, n)
		}
	}
}

// P3.9: Mul by One and Div by One are the number itself, bounded.
func TestByOne(t *testing.T) {
	for _, a := range numbers() {
		want := bounded(big.NewInt(a))
		if n := fix.Mul(a, api.One); n != want {
			t.Errorf("Mul(%d, One) = %d, want %d", a, n, want)
		}
		if n := fix.Mul(api.One, a); n != want {
			t.Errorf("Mul(One, %d) = %d, want %d", a, n, want)
		}
		if n := fix.Div(a, api.One); n != want {
			t.Errorf("Div(%d, One) = %d, want %d", a, n, want)
		}
	}
}
