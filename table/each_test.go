package table_test

import (
	"fmt"
	"slices"
	"strings"
	"testing"

	"joust/table"
)

// 11.7: all keys have their turn, in the order of use, with what is there; what f answers is there behind it, and nothing is used.
func TestEach(t *testing.T) {
	for _, size := range []int{3, 5} {
		x := made(t, size, "a", "b", "")
		x.Get("a")
		var turns []string
		x.Each(func(key string, v int) int {
			turns = append(turns, fmt.Sprintf("%s=%d", key, v))
			return 10 * v
		})
		if got := strings.Join(turns, " "); got != "b=2 =3 a=1" {
			t.Errorf("turns %q", got)
		}
		wantTold(t, "behind Each", x, "b=20 =30 a=10")
	}
	made(t, 3).Each(func(key string, v int) int {
		t.Errorf("a turn of %q in a table without keys", key)
		return v
	})
}

// 11.7: what f answers is laid as its turn ends, not at the end of all turns.
func TestEachLaysAtOnce(t *testing.T) {
	x := made(t, 3, "a", "b", "c")
	want := []string{"a=1 b=2 c=3", "a=11 b=2 c=3", "a=11 b=12 c=3"}
	x.Each(func(key string, v int) int {
		wantTold(t, "in the turn of "+key, x, want[v-1])
		return v + 10
	})
	wantTold(t, "behind Each", x, "a=11 b=12 c=13")
}

// eachCase: a table of that size with those keys, and what f does in the turn of b; the turns, and what is there behind Each, if f answers its thing and 100.
type eachCase struct {
	what  string
	size  int
	keys  string
	f     func(x tables)
	turns string
	told  string
}

// 11.7: functions that change the table in one turn: answers written by hand.
func TestEachThatChanges(t *testing.T) {
	for _, c := range []eachCase{
		{"deletes its key", 3, "abc", func(x tables) { x.Delete("b") }, "abc", "a=101 c=103"},
		{"deletes its key and puts it again", 3, "abc", func(x tables) { x.Delete("b"); x.Put("b", 7) }, "abc", "a=101 c=103 b=102"},
		{"puts its key", 3, "abc", func(x tables) { x.Put("b", 7) }, "abc", "a=101 c=103 b=102"},
		{"gets its key", 3, "abc", func(x tables) { x.Get("b") }, "abc", "a=101 c=103 b=102"},
		{"peeks", 3, "abc", func(x tables) { x.Peek("b"); x.Peek("a"); x.Peek("z"); x.Keys(); x.Len() }, "abc", "a=101 b=102 c=103"},
		{"gets none", 3, "abc", func(x tables) { x.Get("z"); x.Delete("z") }, "abc", "a=101 b=102 c=103"},
		{"throws its key out", 2, "bc", func(x tables) { x.Put("y", 7) }, "bc", "c=102 y=7"},
		{"throws its key out and puts it again", 2, "bc", func(x tables) { x.Put("y", 7); x.Put("b", 8) }, "b", "y=7 b=101"},
		{"throws all out", 3, "abc", func(x tables) { x.Put("x", 7); x.Put("y", 8); x.Put("z", 9) }, "ab", "x=7 y=8 z=9"},
		{"deletes one whose turn came", 3, "abc", func(x tables) { x.Delete("a") }, "abc", "b=102 c=103"},
		{"deletes one whose turn came and puts it again", 3, "abc", func(x tables) { x.Delete("a"); x.Put("a", 7) }, "abc", "b=102 c=103 a=7"},
		{"puts one whose turn came", 3, "abc", func(x tables) { x.Put("a", 7) }, "abc", "b=102 c=103 a=7"},
		{"gets one whose turn came", 3, "abc", func(x tables) { x.Get("a") }, "abc", "b=102 c=103 a=101"},
		{"throws out one whose turn came", 3, "abc", func(x tables) { x.Put("z", 7) }, "abc", "b=102 c=103 z=7"},
		{"deletes one whose turn is to come", 4, "abcd", func(x tables) { x.Delete("c") }, "abd", "a=101 b=102 d=104"},
		{"deletes one whose turn is to come and puts it again", 4, "abcd", func(x tables) { x.Delete("c"); x.Put("c", 7) }, "abcd", "a=101 b=102 d=104 c=107"},
		{"puts one whose turn is to come", 4, "abcd", func(x tables) { x.Put("c", 7) }, "abcd", "a=101 b=102 d=104 c=107"},
		{"gets one whose turn is to come", 4, "abcd", func(x tables) { x.Get("c") }, "abcd", "a=101 b=102 d=104 c=103"},
		{"gets all, the last first", 4, "abcd", func(x tables) { x.Get("d"); x.Get("c"); x.Get("b"); x.Get("a") }, "abcd", "d=104 c=103 b=102 a=101"},
		{"deletes all", 4, "abcd", func(x tables) { x.Delete("a"); x.Delete("b"); x.Delete("c"); x.Delete("d") }, "ab", ""},
		{"deletes all others", 4, "abcd", func(x tables) { x.Delete("a"); x.Delete("c"); x.Delete("d") }, "ab", "b=102"},
		{"puts a new key where there is room", 4, "abc", func(x tables) { x.Put("z", 7) }, "abc", "a=101 b=102 c=103 z=7"},
		{"puts a new key for one whose turn is to come", 3, "abc", func(x tables) { x.Get("a"); x.Get("b"); x.Put("z", 7) }, "ab", "a=101 b=102 z=7"},
		{"puts a new key for one whose turn is to come, and that one again", 3, "abc", func(x tables) { x.Get("a"); x.Get("b"); x.Put("z", 7); x.Put("c", 8) }, "abc", "b=102 z=7 c=108"},
		{"puts a new key and deletes it", 4, "abc", func(x tables) { x.Put("z", 7); x.Delete("z") }, "abc", "a=101 b=102 c=103"},
		{"is the only one and deletes", 1, "b", func(x tables) { x.Delete("b") }, "b", ""},
		{"is the only one and is thrown out", 1, "b", func(x tables) { x.Put("z", 7) }, "b", "z=7"},
		{"is the only one, is thrown out and comes again", 1, "b", func(x tables) { x.Put("z", 7); x.Put("b", 8) }, "b", "b=101"},
	} {
		for _, x := range []tables{made(t, c.size, strings.Split(c.keys, "")...), plainOf(c.size, strings.Split(c.keys, "")...)} {
			turns := ""
			x.Each(func(key string, v int) int {
				turns += key
				if key == "b" {
					c.f(x)
				}
				return v + 100
			})
			if turns != c.turns {
				t.Errorf("f %s: turns %q, want %q", c.what, turns, c.turns)
			}
			wantTold(t, "behind f that "+c.what, x, c.told)
		}
	}
}

func plainOf(size int, keys ...string) *plain {
	p := &plain{size: size}
	for i, key := range keys {
		p.Put(key, i+1)
	}
	return p
}

// 11.7: a key that goes in an earlier turn and comes again in a later one, ahead of its own, has its turn at its old place; one that comes behind its place has none.
func TestEachOfKeysThatComeAgain(t *testing.T) {
	for again, want := range map[string][2]string{"b": {"abcd", "a=101 b=102 d=104 c=109"}, "d": {"abd", "a=101 b=102 d=104 c=9"}} {
		x := made(t, 4, "a", "b", "c", "d")
		turns := ""
		x.Each(func(key string, v int) int {
			turns += key
			if key == "a" {
				x.Delete("c")
			}
			if key == again {
				x.Put("c", 9)
			}
			return v + 100
		})
		if turns != want[0] {
			t.Errorf("c comes again in the turn of %s: turns %q, want %q", again, turns, want[0])
		}
		wantTold(t, "c comes again in the turn of "+again, x, want[1])
	}
}

// 11.7: every f that does one thing a turn, of four keys, in tables of two to four: as the plain list.
func TestEveryEach(t *testing.T) {
	acts := []func(x tables, step int){func(x tables, step int) {}}
	for _, key := range []string{"", "a", "b", "c"} {
		acts = append(acts,
			func(x tables, step int) { x.Get(key) },
			func(x tables, step int) { x.Put(key, step) },
			func(x tables, step int) { x.Delete(key) },
			func(x tables, step int) { x.Delete(key); x.Put(key, step) })
	}
	for size := 2; size <= 4; size++ {
		for number := range len(acts) * len(acts) * len(acts) {
			x, p := made(t, size, "", "a", "b"), plainOf(size, "", "a", "b")
			var turns [2][]pair
			for i, y := range []tables{x, p} {
				rest, step := number, 10
				y.Each(func(key string, v int) int {
					turns[i] = append(turns[i], pair{key, v})
					acts[rest%len(acts)](y, step)
					rest, step = rest/len(acts), step+1
					return v + 100
				})
			}
			if !slices.Equal(turns[0], turns[1]) || !alike(x, p) {
				t.Fatalf("size %d, f number %d: turns %v, %s; want %v, %s", size, number, turns[0], told(t, x), turns[1], told(t, p))
			}
		}
	}
}

// 11.7: Each within Each: the inner one goes through what is there as it begins, and the outer one's answer is laid over the inner one's.
func TestEachWithinEach(t *testing.T) {
	x := made(t, 3, "a", "b", "c")
	var turns []string
	x.Each(func(key string, v int) int {
		x.Each(func(inner string, w int) int {
			turns = append(turns, fmt.Sprintf("%s%s%d", key, inner, w))
			return w + 10
		})
		return v + 1
	})
	if got, want := strings.Join(turns, " "), "aa1 ab2 ac3 ba2 bb12 bc13 ca12 cb13 cc23"; got != want {
		t.Errorf("turns %q, want %q", got, want)
	}
	wantTold(t, "behind both", x, "a=22 b=23 c=24")
}

// 11.7: an inner Each that deletes what the outer one has still to come, and puts a new key.
func TestEachWithinEachThatChanges(t *testing.T) {
	x := made(t, 3, "a", "b", "c")
	turns := ""
	x.Each(func(key string, v int) int {
		turns += key + "("
		x.Each(func(inner string, w int) int {
			turns += inner
			if inner != key {
				x.Delete(inner)
				x.Put("z", 50)
			}
			return w + 10
		})
		turns += ")"
		return v + 1
	})
	if turns != "a(abc)" {
		t.Errorf("turns %q", turns)
	}
	wantTold(t, "behind both", x, "a=2 z=50")
}

// 11.7: what f does is its own: its panic comes out, the turns that ended are laid, and the table goes on.
func TestEachLeftByPanic(t *testing.T) {
	x := made(t, 3, "a", "b", "c")
	func() {
		defer func() {
			if p := recover(); p != "left" {
				t.Errorf("the panic of f came out as %v", p)
			}
		}()
		x.Each(func(key string, v int) int {
			if key == "b" {
				x.Get("a")
				panic("left")
			}
			return v + 100
		})
	}()
	wantTold(t, "left", x, "b=2 c=3 a=101")
	wantPut(t, x, "d", 4, "b", true)
	x.Each(func(key string, v int) int { return v + 1 })
	wantTold(t, "behind another Each", x, "c=4 a=102 d=5")
}

// 11.7: f may call another table in its turns; neither has to do with the other.
func TestEachOverTwoTables(t *testing.T) {
	x, y := made(t, 3, "a", "b", "c"), made(t, 2, "b", "a")
	x.Each(func(key string, v int) int {
		w, _ := y.Get(key)
		y.Delete("b")
		return 10*v + w
	})
	wantTold(t, "x", x, "a=12 b=20 c=30")
	wantTold(t, "y", y, "a=2")
}

// 11.7: the greatest table, with all keys' turns, and with an f that deletes every second one.
func TestEachOfTheGreatest(t *testing.T) {
	keys := someKeys(4096)
	x := made(t, 4096, keys...)
	at := 0
	x.Each(func(key string, v int) int {
		if key != keys[at] || v != at+1 {
			t.Fatalf("turn number %d is of %q with %d", at, key, v)
		}
		x.Get(key)
		at += 2
		x.Delete(keys[at-1])
		return -v
	})
	if at != 4096 || x.Len() != 2048 {
		t.Fatalf("%d turns, Len %d", at/2, x.Len())
	}
	for i, key := range x.Keys() {
		if key != keys[2*i] {
			t.Fatalf("key number %d is %q", i, key)
		}
		wantPeek(t, x, key, -2*i-1, true)
	}
}

// 11.7, 11.9: things of any kind go in and out of f as they are.
func TestEachOfPointers(t *testing.T) {
	x, _ := table.New[*int](2)
	a, b, c := new(int), new(int), new(int)
	x.Put("a", a)
	x.Put("b", b)
	x.Each(func(key string, v *int) *int {
		if v != map[string]*int{"a": a, "b": b}[key] {
			t.Errorf("the turn of %s has another pointer", key)
		}
		if key == "a" {
			return nil
		}
		return c
	})
	if v, ok := x.Peek("a"); v != nil || !ok {
		t.Errorf("a has %v, %v", v, ok)
	}
	if v, ok := x.Peek("b"); v != c || !ok {
		t.Errorf("b has %v, %v", v, ok)
	}
}
