package table_test

import (
	"fmt"
	"math"
	"slices"
	"strings"
	"testing"

	"joust/api"
	"joust/table"
)

// made is a table of that size into which those keys were put, with the things 1, 2, 3 ..
func made(t *testing.T, size int, keys ...string) *table.Table[int] {
	t.Helper()
	x, e := table.New[int](size)
	if e != api.OK || x == nil {
		t.Fatalf("New(%d): %v, %v", size, x, e)
	}
	for i, key := range keys {
		x.Put(key, i+1)
	}
	return x
}

// told is all that a table tells without a change, in the order of use: "a=1 b=2". A table that tells two unlike things fails.
func told(t *testing.T, x tables) string {
	t.Helper()
	keys := x.Keys()
	var list []string
	for i := range keys {
		// From the last one on: a Peek that uses would turn the order.
		key := keys[len(keys)-1-i]
		v, ok := x.Peek(key)
		if !ok {
			t.Fatalf("Keys tells %q, Peek does not find it", key)
		}
		list = append(list, fmt.Sprintf("%s=%d", key, v))
	}
	if n := x.Len(); n != len(keys) {
		t.Fatalf("Len is %d, Keys tells %d", n, len(keys))
	}
	if again := x.Keys(); !slices.Equal(again, keys) {
		t.Fatalf("Keys tells %q, then %q", keys, again)
	}
	slices.Reverse(list)
	return strings.Join(list, " ")
}

func wantTold(t *testing.T, what string, x tables, want string) {
	t.Helper()
	if got := told(t, x); got != want {
		t.Errorf("%s: the table tells %q, want %q", what, got, want)
	}
}

func wantGet(t *testing.T, x tables, key string, v int, ok bool) {
	t.Helper()
	if gotV, gotOk := x.Get(key); gotV != v || gotOk != ok {
		t.Errorf("Get(%q) = %d, %v, want %d, %v", key, gotV, gotOk, v, ok)
	}
}

func wantPeek(t *testing.T, x tables, key string, v int, ok bool) {
	t.Helper()
	if gotV, gotOk := x.Peek(key); gotV != v || gotOk != ok {
		t.Errorf("Peek(%q) = %d, %v, want %d, %v", key, gotV, gotOk, v, ok)
	}
}

func wantPut(t *testing.T, x tables, key string, v int, gone string, went bool) {
	t.Helper()
	if gotGone, gotWent := x.Put(key, v); gotGone != gone || gotWent != went {
		t.Errorf("Put(%q, %d) = %q, %v, want %q, %v", key, v, gotGone, gotWent, gone, went)
	}
}

func wantDelete(t *testing.T, x tables, key string, was bool) {
	t.Helper()
	if got := x.Delete(key); got != was {
		t.Errorf("Delete(%q) = %v, want %v", key, got, was)
	}
}

// 11.1: sizes that are none, next to both bounds and far beyond them.
func TestNewRefuses(t *testing.T) {
	for _, size := range []int{0, -1, -2, -4096, 4097, 4098, 8192, 1 << 16, 1 << 32, 1<<32 + 1, 1 << 62, math.MaxInt, math.MinInt, math.MinInt + 1} {
		if x, e := table.New[int](size); x != nil || e != api.ErrSize {
			t.Errorf("New[int](%d) = %v, %v, want nil and ErrSize", size, x, e)
		}
		if x, e := table.New[struct{}](size); x != nil || e != api.ErrSize {
			t.Errorf("New[struct{}](%d) = %v, %v, want nil and ErrSize", size, x, e)
		}
	}
}

// 11.1, 11.4, 11.8: a table of any size is without keys at first, takes just that many, and throws out the first for the next.
func TestNewHoldsItsSize(t *testing.T) {
	for _, size := range []int{1, 2, 3, 7, 8, 9, 64, 1000, 4095, 4096} {
		x := made(t, size)
		wantTold(t, "a new table", x, "")
		wantGet(t, x, "", 0, false)
		wantPeek(t, x, "", 0, false)
		wantDelete(t, x, "", false)
		key := func(i int) string { return fmt.Sprint("key ", i) }
		for i := range size {
			wantPut(t, x, key(i), i, "", false)
			if x.Len() != i+1 {
				t.Fatalf("a table of %d behind %d puts: Len %d", size, i+1, x.Len())
			}
		}
		for i := range size + 2 {
			wantPut(t, x, key(size+i), i, key(i), true)
			if x.Len() != size {
				t.Fatalf("a full table of %d: Len %d", size, x.Len())
			}
		}
		for i, k := range x.Keys() {
			if k != key(size+2+i) {
				t.Fatalf("a table of %d: key number %d is %q", size, i, k)
			}
		}
	}
}

// 11.1 to 11.7: the chapter's examples, in their order.
func TestExamples(t *testing.T) {
	x := made(t, 2)
	wantPut(t, x, "a", 1, "", false)
	wantPut(t, x, "b", 2, "", false)
	wantGet(t, x, "a", 1, true)
	wantPut(t, x, "c", 3, "b", true)
	wantTold(t, "b went", x, "a=1 c=3")
	wantPeek(t, x, "a", 1, true)
	wantPut(t, x, "d", 4, "a", true)
	wantPut(t, x, "c", 5, "", false)
	wantTold(t, "c is put again", x, "d=4 c=5")
	wantDelete(t, x, "d", true)
	wantDelete(t, x, "d", false)
	if x.Len() != 1 {
		t.Errorf("Len %d", x.Len())
	}
	x.Each(func(key string, v int) int { return v + 1 })
	wantPeek(t, x, "c", 6, true)
	if x, e := table.New[int](0); x != nil || e != api.ErrSize {
		t.Errorf("New(0) = %v, %v", x, e)
	}
}

// 11.2, 11.3: what uses and what does not, of each key of a row and of one that is not there.
func TestUse(t *testing.T) {
	for key, want := range map[string]string{"a": "b=2 c=3 a=1", "b": "a=1 c=3 b=2", "c": "a=1 b=2 c=3", "d": "a=1 b=2 c=3", "": "a=1 b=2 c=3"} {
		for _, size := range []int{3, 4, 4096} {
			v := map[string]int{"a": 1, "b": 2, "c": 3}[key]
			x := made(t, size, "a", "b", "c")
			for range 2 {
				wantPeek(t, x, key, v, v > 0)
				wantTold(t, "behind Peek", x, "a=1 b=2 c=3")
			}
			for range 2 {
				wantGet(t, x, key, v, v > 0)
				wantTold(t, "behind Get", x, want)
			}
		}
	}
}

// 11.4: a put of a key that is there changes its thing, makes it the last, and throws nothing out, with room and without.
func TestPutAgain(t *testing.T) {
	for key, want := range map[string]string{"a": "b=2 c=3 a=9", "b": "a=1 c=3 b=9", "c": "a=1 b=2 c=9"} {
		for _, size := range []int{3, 4} {
			x := made(t, size, "a", "b", "c")
			for range 2 {
				wantPut(t, x, key, 9, "", false)
				wantTold(t, "behind a put of a key that is there", x, want)
			}
		}
	}
}

// 11.4: a new key in a full table throws out the one longest unused, be it by puts alone, by Get, or behind a put again.
func TestThrowsOutTheLongestUnused(t *testing.T) {
	x := made(t, 3, "a", "b", "c")
	wantPut(t, x, "d", 4, "a", true)
	wantGet(t, x, "b", 2, true)
	wantPut(t, x, "e", 5, "c", true)
	wantPut(t, x, "d", 6, "", false)
	wantPut(t, x, "f", 7, "b", true)
	wantTold(t, "three went", x, "e=5 d=6 f=7")
	wantPut(t, x, "a", 8, "e", true)
	wantGet(t, x, "e", 0, false)
	wantTold(t, "a came again", x, "d=6 f=7 a=8")
}

// 11.4, 11.5: a table of one key.
func TestSizeOne(t *testing.T) {
	x := made(t, 1)
	wantPut(t, x, "a", 1, "", false)
	wantPut(t, x, "a", 2, "", false)
	wantPut(t, x, "b", 3, "a", true)
	wantPut(t, x, "", 4, "b", true)
	wantGet(t, x, "", 4, true)
	wantPut(t, x, "c", 5, "", true)
	wantTold(t, "one that stays", x, "c=5")
	wantDelete(t, x, "b", false)
	wantDelete(t, x, "c", true)
	wantTold(t, "none", x, "")
	wantPut(t, x, "c", 6, "", false)
	wantPut(t, x, "d", 7, "c", true)
	wantTold(t, "behind", x, "d=7")
}

// 11.4: "" is a key like others.
func TestEmptyKey(t *testing.T) {
	x := made(t, 2, "", "a")
	wantTold(t, "two", x, "=1 a=2")
	wantPeek(t, x, "", 1, true)
	wantPut(t, x, "b", 3, "", true)
	wantGet(t, x, "", 0, false)
	wantPut(t, x, "", 4, "a", true)
	wantPut(t, x, "", 5, "", false)
	wantTold(t, "put again", x, "b=3 =5")
	wantGet(t, x, "", 5, true)
	wantDelete(t, x, "", true)
	wantDelete(t, x, "", false)
	wantTold(t, "deleted", x, "b=3")
}

// 11.2: texts that look alike are other keys: any bytes, of any length.
func TestKeysAreAnyBytes(t *testing.T) {
	keys := []string{"", "\x00", "\x00\x00", " ", "a", "A", "a\x00", "a ", "\xff", "\xfe", "\ufffd", "\u00e4", "a\u0308", strings.Repeat("k", 5000), strings.Repeat("k", 5001)}
	x := made(t, len(keys), keys...)
	if l := x.Keys(); !slices.Equal(l, keys) {
		t.Fatalf("Keys %q", l)
	}
	for i, key := range keys {
		wantGet(t, x, key, i+1, true)
	}
	for _, key := range []string{"\x00\x00\x00", "aa", "\xff\xfe", "\xef\xbf", strings.Repeat("k", 4999)} {
		wantGet(t, x, key, 0, false)
		wantDelete(t, x, key, false)
	}
	for i, key := range keys {
		wantDelete(t, x, key, true)
		if x.Len() != len(keys)-1-i {
			t.Fatalf("Len %d behind %d deletes", x.Len(), i+1)
		}
	}
}

// 11.5: a key that is deleted leaves the others in their order, gives room for one, and is the last when it comes again.
func TestDelete(t *testing.T) {
	for key, want := range map[string]string{"a": "b=2 c=3", "b": "a=1 c=3", "c": "a=1 b=2"} {
		x := made(t, 3, "a", "b", "c")
		wantDelete(t, x, "d", false)
		wantTold(t, "a delete of none", x, "a=1 b=2 c=3")
		for _, was := range []bool{true, false, false} {
			wantDelete(t, x, key, was)
			wantTold(t, "behind Delete", x, want)
		}
		wantGet(t, x, key, 0, false)
		wantPeek(t, x, key, 0, false)
		wantPut(t, x, key, 9, "", false)
		wantTold(t, "put again", x, want+" "+key+"=9")
		wantPut(t, x, "d", 4, want[:1], true)
	}
}

// 11.5: all keys deleted, in every order, and the table goes on.
func TestDeleteAll(t *testing.T) {
	for _, order := range []string{"abc", "acb", "bac", "bca", "cab", "cba"} {
		x := made(t, 3, "a", "b", "c")
		for _, r := range order {
			wantDelete(t, x, string(r), true)
		}
		wantTold(t, "all deleted", x, "")
		for i, r := range order {
			wantPut(t, x, string(r), i, "", false)
		}
		wantTold(t, "all put again", x, fmt.Sprintf("%c=0 %c=1 %c=2", order[0], order[1], order[2]))
	}
}

// 11.2, 11.3: a thing that is the zero value itself is told by true; things may be of any kind, without size too.
func TestZeroThings(t *testing.T) {
	x := made(t, 2)
	wantPut(t, x, "a", 0, "", false)
	wantGet(t, x, "a", 0, true)
	wantPeek(t, x, "a", 0, true)
	n, _ := table.New[[]int](1)
	n.Put("a", nil)
	if v, ok := n.Get("a"); v != nil || !ok {
		t.Errorf("Get of a nil list = %v, %v", v, ok)
	}
	e, _ := table.New[struct{}](2)
	for _, key := range []string{"a", "b", "c", "b", "d"} {
		e.Put(key, struct{}{})
	}
	if l := e.Keys(); !slices.Equal(l, []string{"b", "d"}) || e.Len() != 2 {
		t.Errorf("things without size: Keys %q, Len %d", l, e.Len())
	}
	f, _ := table.New[func() int](1)
	f.Put("a", func() int { return 7 })
	if g, ok := f.Peek("a"); !ok || g() != 7 {
		t.Error("a function is not what was put")
	}
}
