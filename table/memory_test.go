package table_test

import (
	"runtime"
	"slices"
	"strings"
	"testing"
	"unsafe"
	"weak"

	"joust/api"
	"joust/table"
)

// 11.9: two tables, and one of another size and kind, in turns: what is done to one, the others do not tell.
func TestTablesApart(t *testing.T) {
	x, y := made(t, 2), made(t, 2)
	z, _ := table.New[string](1)
	wantPut(t, x, "a", 1, "", false)
	wantTold(t, "y", y, "")
	wantPut(t, y, "a", 2, "", false)
	z.Put("a", "thing")
	wantPut(t, x, "b", 3, "", false)
	wantPut(t, x, "c", 4, "a", true)
	wantTold(t, "x", x, "b=3 c=4")
	wantTold(t, "y", y, "a=2")
	wantDelete(t, y, "b", false)
	wantDelete(t, y, "a", true)
	wantGet(t, x, "b", 3, true)
	wantPut(t, y, "b", 5, "", false)
	wantTold(t, "x", x, "c=4 b=3")
	wantTold(t, "y", y, "b=5")
	if v, ok := z.Get("a"); v != "thing" || !ok || z.Len() != 1 {
		t.Errorf("z: %q, %v, Len %d", v, ok, z.Len())
	}
}

// 11.9: things are handed on as they are: pointers and lists are those that were put, not copies; values are copied as values are.
func TestThingsAsTheyAre(t *testing.T) {
	n := new(int)
	p, _ := table.New[*int](2)
	p.Put("a", n)
	if x, _ := p.Get("a"); x != n {
		t.Error("Get gives another pointer")
	}
	if x, _ := p.Peek("a"); x != n {
		t.Error("Peek gives another pointer")
	}
	list := []int{1, 2, 3}
	l, _ := table.New[[]int](1)
	l.Put("a", list[:2])
	if x, _ := l.Get("a"); len(x) != 2 || cap(x) != 3 || &x[0] != &list[0] {
		t.Error("Get gives another list")
	}
	array := [2]int{1, 2}
	v, _ := table.New[[2]int](1)
	v.Put("a", array)
	array[0] = 9
	x, _ := v.Get("a")
	x[1] = 9
	if y, _ := v.Peek("a"); y != [2]int{1, 2} {
		t.Errorf("an array that was changed outside: %v", y)
	}
}

// 11.6, 11.9 (R11): a list that Keys told may be written over, its spare room too; and it changes by no later call.
func TestListsOfKeysAreTheirOwn(t *testing.T) {
	for n := range 9 {
		x := made(t, 8, someKeys(n)...)
		want := told(t, x)
		l, other := x.Keys(), x.Keys()
		for i := range l[:cap(l)] {
			l[:cap(l)][i] = "#"
		}
		l = append(l, "#", "#")
		wantTold(t, "a list of Keys was written over", x, want)
		if !slices.Equal(other, someKeys(n)) {
			t.Fatalf("two lists of Keys share memory: %q", other)
		}
		for i, key := range someKeys(n) {
			x.Get(key)
			x.Put(key, -i)
			if i%2 == 0 {
				x.Delete(key)
			}
		}
		for range 20 {
			x.Put(strings.Repeat("n", x.Len()), 1)
		}
		x.Each(func(key string, v int) int { return v + 1 })
		if !slices.Equal(other, someKeys(n)) {
			t.Fatalf("a list of Keys changed with the table: %q", other)
		}
		for _, key := range l {
			if key != "#" {
				t.Fatalf("a list that was written over changed with the table: %q", l)
			}
		}
	}
}

// share tells whether two texts have memory in common.
func share(a, b string) bool {
	p, q := uintptr(unsafe.Pointer(unsafe.StringData(a))), uintptr(unsafe.Pointer(unsafe.StringData(b)))
	return a != "" && b != "" && p < q+uintptr(len(b)) && q < p+uintptr(len(a))
}

// 11.9 (R11): no text that is answered shares memory with a key that was handed in, nor with another answer; nor those that f is handed.
func TestTextsAreTheirOwn(t *testing.T) {
	long := "source one, source two"
	x := made(t, 2, long[:10], long[12:])
	texts := []string{long}
	for range 2 {
		texts = append(texts, x.Keys()...)
		x.Each(func(key string, v int) int {
			texts = append(texts, key)
			return v
		})
	}
	for _, key := range []string{"source three", "source four"} {
		gone, _ := x.Put(key, 3)
		texts = append(texts, gone)
	}
	if len(texts) != 11 || texts[9] != "source one" || texts[10] != "source two" {
		t.Fatalf("%q", texts)
	}
	for i, a := range texts {
		for k, b := range texts[:i] {
			if share(a, b) {
				t.Errorf("texts number %d and %d share memory: %q", k, i, a)
			}
		}
	}
}

// 11.9 (R11): what is handed in is not kept: the bytes of a key may be written over behind each call.
func TestKeysAreNotKept(t *testing.T) {
	x := made(t, 2)
	for i, key := range []string{"one", "two", "one", "two"} {
		b := []byte(key)
		x.Put(unsafe.String(&b[0], len(b)), i)
		copy(b, "###")
	}
	b := []byte("one")
	x.Get(unsafe.String(&b[0], len(b)))
	copy(b, "###")
	wantTold(t, "the keys that were handed in are written over", x, "two=3 one=2")
	wantGet(t, x, "two", 3, true)
	wantDelete(t, x, "one", true)
	wantGet(t, x, "###", 0, false)
}

// 11.4, 11.5, 11.7: what was thrown out, deleted or laid over is there no more, not even as memory that the table keeps from being freed; the rest stays.
func TestNothingIsKept(t *testing.T) {
	x, _ := table.New[*[64]int](3)
	var weaks []weak.Pointer[[64]int]
	thing := func() *[64]int {
		p := new([64]int)
		weaks = append(weaks, weak.Make(p))
		return p
	}
	for _, key := range []string{"thrown out", "deleted", "laid over", "stays", "changed"} {
		x.Put(key, thing())
		if key == "deleted" {
			x.Delete(key)
		}
	}
	x.Delete("laid over")
	x.Put("laid over", thing())
	x.Put("laid over", thing())
	x.Each(func(key string, v *[64]int) *[64]int {
		if key == "changed" {
			return thing()
		}
		return v
	})
	if l := x.Keys(); !slices.Equal(l, []string{"stays", "changed", "laid over"}) {
		t.Fatalf("Keys %q", l)
	}
	runtime.GC()
	for i, want := range []bool{false, false, false, true, false, false, true, true} {
		if alive := weaks[i].Value() != nil; alive != want {
			t.Errorf("thing number %d: alive is %v", i, alive)
		}
	}
	for _, key := range x.Keys() {
		if v, ok := x.Peek(key); v == nil || !ok {
			t.Errorf("%s is gone", key)
		}
	}
}

// 11.1 (R11): a table of great things and the greatest size is made without room for all of them: it cannot fail for want of memory.
func TestNewOfGreatThings(t *testing.T) {
	var ahead, behind runtime.MemStats
	runtime.ReadMemStats(&ahead)
	x, e := table.New[[1 << 20]byte](api.MaxRing)
	runtime.ReadMemStats(&behind)
	if e != api.OK || x.Len() != 0 {
		t.Fatalf("New: %v", e)
	}
	if took := behind.TotalAlloc - ahead.TotalAlloc; took > 1<<24 {
		t.Errorf("New took %d bytes", took)
	}
}
