package smooth_test

import (
	"go/ast"
	"go/parser"
	"go/token"
	"math"
	"os"
	"path/filepath"
	"reflect"
	"strings"
	"testing"

	"joust/api"
	"joust/smooth"
)

// roomy lays a view's things ahead of spare room that is marked, so that a write into it is seen.
func roomy(v api.View) (api.View, []api.Seen) {
	whole := make([]api.Seen, len(v.Seen)+4)
	copy(whole, v.Seen)
	for i := len(v.Seen); i < len(whole); i++ {
		whole[i] = api.Seen{Kind: -9, Id: i}
	}
	v.Seen = whole[:len(v.Seen)]
	return v, whole
}

// R11, R13: Between changes nothing of what it is handed, its spare room neither, and answers alike again and again.
func TestBetweenLeavesViews(t *testing.T) {
	d := dice(20)
	for range 2000 {
		a, wholeA := roomy(d.view())
		b, wholeB := roomy(d.view())
		_, keptA := roomy(a)
		_, keptB := roomy(b)
		s := d.share()
		l := smooth.Between(a, b, s)
		if !reflect.DeepEqual(wholeA, keptA) || !reflect.DeepEqual(wholeB, keptB) {
			t.Fatalf("Between wrote into a view: %v %v", wholeA, wholeB)
		}
		if again := smooth.Between(a, b, s); !allSame(l, again) {
			t.Fatalf("Between answers %v, then %v", l, again)
		}
		bare := smooth.Between(api.View{Own: a.Own, Seen: append([]api.Seen(nil), a.Seen...)}, api.View{Own: b.Own, Seen: append([]api.Seen(nil), b.Seen...)}, s)
		if !allSame(l, bare) {
			t.Fatalf("Between hangs on the memory of its views: %v, %v", l, bare)
		}
	}
}

// R11: answers are new memory: writing into one, its spare room too, or into what was handed in, changes no other answer.
func TestBetweenAnswersNewMemory(t *testing.T) {
	d := dice(21)
	for range 2000 {
		a, b, s := d.view(), d.view(), d.share()
		want := plainBetween(a, b, s)
		first, second := smooth.Between(a, b, s), smooth.Between(a, b, s)
		first = first[:cap(first)]
		for i := range first {
			first[i] = at(nan, 77, -1)
		}
		if !allSame(second, want) {
			t.Fatalf("two answers share memory: %v, want %v", second, want)
		}
		if third := smooth.Between(a, b, s); !allSame(third, want) {
			t.Fatalf("an answer that was written over is answered: %v, want %v", third, want)
		}
		copyA := api.View{Own: a.Own, Seen: append([]api.Seen(nil), a.Seen...)}
		for i := range a.Seen {
			a.Seen[i] = api.Seen{Kind: 7, Id: 7}
		}
		for i := range b.Seen {
			b.Seen[i].At.X++
		}
		if !allSame(second, want) {
			t.Fatalf("an answer shares memory with a view: %v, want %v", second, want)
		}
		if l, plain := smooth.Between(copyA, b, s), plainBetween(copyA, b, s); !allSame(l, plain) {
			t.Fatalf("a view that was handed in is kept: %v, want %v", l, plain)
		}
	}
}

// R11: one list may be both views' things.
func TestBetweenOneList(t *testing.T) {
	list := []api.Seen{seen(1, 1, 1, 0), seen(1, 2, 2, 0), seen(1, 1, 3, 0)}
	a, b := api.View{Own: api.Car{Wait: 1}, Seen: list[:2]}, api.View{Seen: list[1:]}
	wantShown(t, "one list", smooth.Between(a, b, 0.5), at(2, 0, 0), at(2, 0, 0))
}

// R11: Mean neither changes its numbers nor keeps them, spare room neither.
func TestMeanLeavesNumbers(t *testing.T) {
	whole := []float32{3, 4, 5, 6, 100, 200}
	l := whole[:4]
	if m := smooth.Mean(l...); m != 4.5 {
		t.Errorf("Mean = %v", m)
	}
	if !reflect.DeepEqual(whole, []float32{3, 4, 5, 6, 100, 200}) {
		t.Errorf("Mean left %v", whole)
	}
	l[0] = 7
	if m := smooth.Mean(l...); m != 5.5 {
		t.Errorf("Mean of what was written over = %v", m)
	}
	if m := smooth.Mean(whole...); m != float32(322)/6 {
		t.Errorf("Mean = %v", m)
	}
}

// R13: no call hangs on those ahead of it.
func TestCallsStandAlone(t *testing.T) {
	a, b := at(0, 0, 350), at(4, 8, 10)
	car := api.Car{Speed: api.Vec{X: 65536}, Heading: 64}
	d := dice(22)
	for range 2000 {
		switch d.below(5) {
		case 0:
			smooth.Of(d.vec(), int(d.raw()))
		case 1:
			smooth.Mix(at(d.float(), d.float(), d.float()), at(d.float(), d.float(), d.float()), d.float())
		case 2:
			smooth.Between(d.view(), d.view(), d.float())
		case 3:
			smooth.Ahead(d.car(), d.float())
		case 4:
			smooth.Mean(d.float(), d.float(), nan)
		}
		wantPlace(t, "Of", smooth.Of(api.Vec{X: 65536, Y: -32768}, 64), at(1, -0.5, 90))
		wantPlace(t, "Mix", smooth.Mix(a, b, 0.5), at(2, 4, 0))
		wantPlace(t, "Ahead", smooth.Ahead(car, 4), at(4, 0, 90))
		if m := smooth.Mean(1, 2, 6); m != 3 {
			t.Fatalf("Mean = %v", m)
		}
	}
}

// What is no number is one thing, whatever its bits: each call takes all of them.
func TestNoNumbers(t *testing.T) {
	a, b := at(1, 2, 3), at(5, 6, 7)
	car := api.Car{At: api.Vec{X: 65536}, Speed: api.Vec{X: 65536}}
	for _, bits := range []uint32{0x7fc00000, 0xffc00000, 0x7f800001, 0xff800001, 0x7fffffff, 0xffffffff} {
		f := math.Float32frombits(bits)
		wantPlace(t, "Mix", smooth.Mix(a, b, f), a)
		wantPlace(t, "Ahead", smooth.Ahead(car, f), at(1, 0, 0))
		wantPlace(t, "Mix", smooth.Mix(at(f, 2, f), b, 0.5), at(nan, 4, nan))
		if m := smooth.Mean(1, f, 2); m == m {
			t.Errorf("Mean = %v", m)
		}
	}
}

// Nothing is fused, nothing is reckoned wider. A machine that fuses answers otherwise, this one may not: so the text is asked. By the language a conversion rounds what is in it; each product must stand in one of its own.
func TestProductsStandInConversions(t *testing.T) {
	paths, err := filepath.Glob("*.go")
	if err != nil || len(paths) == 0 {
		t.Fatal(paths, err)
	}
	products := 0
	for _, path := range paths {
		if strings.HasSuffix(path, "_test.go") {
			continue
		}
		text, err := os.ReadFile(path)
		if err != nil {
			t.Fatal(err)
		}
		set := token.NewFileSet()
		file, err := parser.ParseFile(set, path, text, 0)
		if err != nil {
			t.Fatal(err)
		}
		rounded := map[ast.Expr]bool{}
		ast.Inspect(file, func(n ast.Node) bool {
			switch x := n.(type) {
			case *ast.CallExpr:
				if f, ok := x.Fun.(*ast.Ident); ok && f.Name == "float32" {
					rounded[ast.Unparen(x.Args[0])] = true
				}
			case *ast.BinaryExpr:
				if x.Op == token.MUL {
					products++
					if !rounded[x] {
						t.Errorf("%s: a product that is not rounded by itself", set.Position(x.Pos()))
					}
				}
			case *ast.AssignStmt:
				if x.Tok == token.MUL_ASSIGN {
					t.Errorf("%s: a product that is not rounded by itself", set.Position(x.Pos()))
				}
			case *ast.Ident:
				if x.Name == "float64" {
					t.Errorf("%s: reckoned wider", set.Position(x.Pos()))
				}
			}
			return true
		})
	}
	if products == 0 {
		t.Error("no product was found")
	}
}
