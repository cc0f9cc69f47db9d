package fix_test

import (
	"math"
	"math/big"
	"testing"

	"joust/api"
	"joust/fix"
)

// nearest is a's float32, reckoned exactly, a 65536th of it.
func nearest(a int64) float32 {
	exact := new(big.Float).SetPrec(200).SetInt64(a)
	rounded := new(big.Float).SetPrec(24).SetMode(big.ToNearestEven).Set(exact)
	f, _ := rounded.SetMantExp(rounded, -16).Float32()
	return f
}

// exactOf is f times 65536, reckoned exactly, cut and bounded; f is neither infinite nor no number.
func exactOf(f float32) int64 {
	scaled := new(big.Float).SetPrec(200).SetFloat64(float64(f))
	scaled.SetMantExp(scaled, 16)
	cut, _ := scaled.Int(nil)
	return bounded(cut)
}

func wantFloat(t *testing.T, a int64, want float32) {
	t.Helper()
	if f := fix.Float(a); math.Float32bits(f) != math.Float32bits(want) {
		t.Errorf("Float(%d) = %v, want %v", a, f, want)
	}
}

func wantOf(t *testing.T, f float32, want int64) {
	t.Helper()
	if n := fix.Of(f); n != want {
		t.Errorf("Of(%v, of the bits %x) = %d, want %d", f, math.Float32bits(f), n, want)
	}
}

// P3.7: the chapter's examples, the numbers about 2^24 and 2^25 (where two float32 are equally near), and great ones.
func TestFloatExamples(t *testing.T) {
	for _, r := range []struct {
		a    int64
		want float32
	}{
		{65536, 1}, {-32768, -0.5}, {16777217, 256}, {0, 0}, {1, 1.0 / 65536}, {-1, -1.0 / 65536},
		{1<<24 - 1, 16777215.0 / 65536}, {1 << 24, 256}, {1<<24 + 2, 16777218.0 / 65536}, {1<<24 + 3, 16777220.0 / 65536}, {1<<24 + 5, 16777220.0 / 65536},
		{-16777217, -256}, {-16777219, -16777220.0 / 65536}, {1<<25 + 2, 512}, {1<<25 + 6, 33554440.0 / 65536}, {1<<25 + 3, 33554436.0 / 65536},
		{api.Max, 16777216}, {-api.Max, -16777216}, {api.Max - 1, 16777216}, {greatest, 1 << 47}, {least, -1 << 47},
	} {
		wantFloat(t, r.a, r.want)
	}
}

// P3.7: the nearest float32 of numbers of all sizes. One that is rounded twice, by a float64 between, is not the nearest always: so those just beside the middle of two float32 are asked for.
func TestFloatExactly(t *testing.T) {
	list := append(numbers(), scattered(20000)...)
	for size := range 39 {
		for _, odd := range []int64{1, 3, 12345677, 1<<24 - 1} {
			middle := (1<<24 + odd) << size
			list = append(list, middle-1, middle, middle+1, -middle-1, -middle, -middle+1)
		}
	}
	for _, a := range list {
		wantFloat(t, a, nearest(a))
	}
}

// P3.8: the chapter's examples and hard places: what is no number, the infinities, both zeros, what is less than a raw unit, what is about Max and above.
func TestOfExamples(t *testing.T) {
	inf := float32(math.Inf(1))
	below := math.Nextafter32(16777216, 0)
	for _, r := range []struct {
		f    float32
		want int64
	}{
		{1.5, 98304}, {-0.5, -32768}, {float32(math.NaN()), 0}, {inf, api.Max}, {1e20, api.Max}, {-0.9 / 65536, 0},
		{-inf, -api.Max}, {-1e20, -api.Max}, {0, 0}, {float32(math.Copysign(0, -1)), 0}, {0.9 / 65536, 0}, {1.9 / 65536, 1}, {-1.9 / 65536, -1},
		{1.0 / 65536, 1}, {-1.0 / 65536, -1}, {math.Nextafter32(1.0/65536, 0), 0}, {-math.Nextafter32(1.0/65536, 0), 0},
		{math.SmallestNonzeroFloat32, 0}, {-math.SmallestNonzeroFloat32, 0}, {math.MaxFloat32, api.Max}, {-math.MaxFloat32, -api.Max},
		{math.MaxFloat32 / 65536, api.Max}, {16777216, api.Max}, {-16777216, -api.Max}, {below, 16777215 * 65536}, {-below, -16777215 * 65536},
		{16777218, api.Max}, {-16777218, -api.Max}, {1 << 47, api.Max}, {-1 << 47, -api.Max}, {1 << 62, api.Max},
	} {
		wantOf(t, r.f, r.want)
	}
}

// P3.8: all kinds of what is no number.
func TestOfNoNumbers(t *testing.T) {
	for _, bits := range []uint32{0x7fc00000, 0xffc00000, 0x7f800001, 0xff800001, 0x7fffffff, 0xffffffff} {
		wantOf(t, math.Float32frombits(bits), 0)
	}
}

// P3.8 and P3.9's bounds: float32 of every size, reckoned exactly.
func TestOfExactly(t *testing.T) {
	for bits := uint64(0); bits < 1<<32; bits += 33331 {
		f := math.Float32frombits(uint32(bits))
		if f != f || math.IsInf(float64(f), 0) {
			continue
		}
		wantOf(t, f, exactOf(f))
	}
}

// P3.9: Of(Float(a)) is a from -2^24 to 2^24; all of them are asked but in a short run.
func TestThereAndBack(t *testing.T) {
	step := int64(1)
	if testing.Short() {
		step = 97
	}
	for a := int64(0); a <= 1<<24; a += step {
		if fix.Of(fix.Float(a)) != a || fix.Of(fix.Float(-a)) != -a {
			t.Fatalf("Of(Float) of %d or %d is another", a, -a)
		}
	}
	if fix.Of(fix.Float(1<<24)) != 1<<24 || fix.Of(fix.Float(-1<<24)) != -1<<24 {
		t.Error("Of(Float) of 2^24 is another")
	}
}
