package table_test

import (
	"fmt"
	"slices"
	"strings"
	"testing"

	"joust/api"
)

// tables are what a table and a plain list can be asked alike.
type tables interface {
	Get(key string) (int, bool)
	Peek(key string) (int, bool)
	Put(key string, x int) (string, bool)
	Delete(key string) bool
	Len() int
	Keys() []string
	Each(f func(key string, x int) int)
}

type pair struct {
	key   string
	thing int
}

// plain is a table as the chapter tells it: a list of pairs in the order of use.
type plain struct {
	size  int
	pairs []pair
}

func (p *plain) find(key string) int {
	return slices.IndexFunc(p.pairs, func(x pair) bool { return x.key == key })
}

func (p *plain) Get(key string) (int, bool) {
	x, ok := p.Peek(key)
	if ok {
		p.Put(key, x)
	}
	return x, ok
}

func (p *plain) Peek(key string) (int, bool) {
	if i := p.find(key); i >= 0 {
		return p.pairs[i].thing, true
	}
	return 0, false
}

func (p *plain) Put(key string, x int) (string, bool) {
	gone, went := "", false
	if !p.Delete(key) && len(p.pairs) == p.size {
		gone, went = p.pairs[0].key, true
		p.Delete(gone)
	}
	p.pairs = append(p.pairs, pair{key, x})
	return gone, went
}

func (p *plain) Delete(key string) bool {
	i := p.find(key)
	if i >= 0 {
		p.pairs = slices.Delete(p.pairs, i, i+1)
	}
	return i >= 0
}

func (p *plain) Len() int { return len(p.pairs) }

func (p *plain) Keys() []string {
	var keys []string
	for _, x := range p.pairs {
		keys = append(keys, x.key)
	}
	return keys
}

func (p *plain) Each(f func(key string, x int) int) {
	for _, key := range p.Keys() {
		if i := p.find(key); i >= 0 {
			x := f(key, p.pairs[i].thing)
			if i := p.find(key); i >= 0 {
				p.pairs[i].thing = x
			}
		}
	}
}

// dice give numbers that look like chance and are the same in every run.
type dice uint64

func (d *dice) below(n int) int {
	*d ^= *d << 13
	*d ^= *d >> 7
	*d ^= *d << 17
	return int(uint64(*d) * 0x2545f4914f6cdd1d >> 20 % uint64(n))
}

// caller does calls that its dice tell, and writes down all that is answered: two tables that are alike make two callers with the same dice write the same.
type caller struct {
	tables
	dice
	keys []string
	next int
	log  []string
}

func (c *caller) note(what string, x ...any) { c.log = append(c.log, what+fmt.Sprintf(" %#v", x)) }

// call does one call with a key; the function of an Each does some more, of its own key and of others, as long as it is not too deep.
func (c *caller) call(key string, deep int) {
	c.next++
	switch n := c.below(20); {
	case n < 7:
		gone, went := c.Put(key, c.next)
		c.note("Put", key, gone, went)
	case n < 11:
		x, ok := c.Get(key)
		c.note("Get", key, x, ok)
	case n < 14:
		c.note("Delete", key, c.Delete(key))
	case n < 16:
		x, ok := c.Peek(key)
		c.note("Peek", key, x, ok)
	case n < 17:
		c.note("Len", c.Len())
	case n < 18:
		c.note(fmt.Sprintf("Keys %q", c.Keys()))
	case deep > 0:
		c.each(deep - 1)
	}
}

func (c *caller) each(deep int) {
	c.note("Each")
	c.Each(func(key string, x int) int {
		c.note("turn", key, x)
		for range c.below(3) {
			c.call(c.someKey(), deep)
		}
		for range c.below(8) / 6 * 2 {
			c.call(key, deep)
		}
		c.next++
		return -c.next
	})
	c.note("Each ends")
}

func (c *caller) someKey() string { return c.keys[c.below(len(c.keys))] }

// sameCalls does the same calls with a table and with a plain list, and holds all answers of one against the other's. With an even seed all keys are put first.
func sameCalls(t *testing.T, seed, size int, keys []string, calls, deep int) []string {
	t.Helper()
	logs := [2][]string{}
	for i, x := range []tables{made(t, size), &plain{size: size}} {
		c := caller{tables: x, dice: dice(seed*7919 + 1), keys: keys}
		for i, key := range keys[:len(keys)*(1-seed%2)] {
			gone, went := c.Put(key, i)
			c.note("Put", key, gone, went)
		}
		for range calls {
			c.call(c.someKey(), deep)
			if x.Len() > size {
				t.Fatalf("11.8: a table of %d has %d keys behind %s", size, x.Len(), c.log[len(c.log)-1])
			}
		}
		c.note("at the end", told(t, x))
		logs[i] = c.log
	}
	for i, want := range logs[1] {
		if i >= len(logs[0]) || logs[0][i] != want {
			t.Fatalf("size %d, %d keys, seed %d: number %d is %s, want %s; ahead of it %s", size, len(keys), seed, i, slices.Concat(logs[0], []string{"none"})[i], want, logs[1][max(0, i-10):i])
		}
	}
	return logs[0]
}

func someKeys(n int) []string {
	keys := []string{"", "a", "b", "\x00", "ab", "\xff", "a\x00", "192.0.2.1:7"}
	for i := range n {
		keys = append(keys, fmt.Sprint("key ", i))
	}
	return keys[:n]
}

// 11.2 to 11.9, R13: any calls in any order, within Each too, answer as a plain list does, with fewer keys than the table holds and with more.
func TestAnyCalls(t *testing.T) {
	thrown, empty, turns := 0, 0, 0
	for _, size := range []int{1, 2, 3, 4, 6} {
		for keys := 1; keys <= 2*size+2; keys++ {
			for seed := range 30 {
				for _, line := range sameCalls(t, seed, size, someKeys(keys), 120, 3) {
					switch {
					case strings.HasPrefix(line, "turn"):
						turns++
					case strings.HasPrefix(line, "Put") && strings.HasSuffix(line, "true}"):
						thrown++
						if strings.HasSuffix(line, `"", true}`) {
							empty++
						}
					}
				}
			}
		}
	}
	if thrown < 10000 || empty < 1000 || turns < 30000 {
		t.Errorf("the calls try too little: %d keys were thrown out, \"\" %d times, %d turns of an Each", thrown, empty, turns)
	}
}

// 11.2 to 11.8: the same with many keys, up to the greatest table.
func TestAnyCallsOfManyKeys(t *testing.T) {
	for _, size := range []int{64, 1000, api.MaxRing} {
		calls := 2 * size
		if testing.Short() {
			calls = size / 4
		}
		for seed := range 2 {
			sameCalls(t, seed, size, someKeys(size/2), calls, 0)
			sameCalls(t, seed, size, someKeys(2*size), calls, 0)
		}
	}
	for seed := range 4 {
		sameCalls(t, seed, 64, someKeys(80), 100, 2)
	}
}

// someCalls are those that may change something, of each of four keys; each tells what was answered.
func someCalls() []func(x tables, step int) string {
	var calls []func(x tables, step int) string
	for _, key := range []string{"", "a", "b", "c"} {
		calls = append(calls,
			func(x tables, step int) string { v, ok := x.Get(key); return fmt.Sprint("Get ", key, v, ok) },
			func(x tables, step int) string {
				gone, ok := x.Put(key, step)
				return fmt.Sprint("Put ", key, gone, ok)
			},
			func(x tables, step int) string { return fmt.Sprint("Delete ", key, x.Delete(key)) })
	}
	return calls
}

// 11.2 to 11.6, 11.8: every row of so many calls of Get, Put and Delete with four keys, in tables of one to three. A row's beginnings are rows too, so only its last call is held against the plain list's.
func TestEveryRowOfCalls(t *testing.T) {
	calls, most := someCalls(), 5
	if testing.Short() {
		most = 3
	}
	for size := 1; size <= 3; size++ {
		rows := 1
		for length := 1; length <= most; length++ {
			rows *= len(calls)
			for row := range rows {
				x, p := made(t, size), &plain{size: size}
				var got, want string
				for step, rest := 0, row; step < length; step, rest = step+1, rest/len(calls) {
					f := calls[rest%len(calls)]
					if step < length-1 {
						f(x, step)
						f(p, step)
						continue
					}
					got, want = f(x, step), f(p, step)
				}
				if got != want || !alike(x, p) {
					t.Fatalf("size %d, row %d of %d calls: %s, %s; want %s, %s", size, row, length, got, told(t, x), want, told(t, p))
				}
			}
		}
	}
}

// alike tells whether a table has a list's keys, in its order, and its things.
func alike(x tables, p *plain) bool {
	if x.Len() != p.Len() || !slices.Equal(x.Keys(), p.Keys()) {
		return false
	}
	for _, y := range p.pairs {
		if v, ok := x.Peek(y.key); v != y.thing || !ok {
			return false
		}
	}
	return true
}

// 11.8: a key that is put stays while fewer than size other keys are used, whatever is done, if it is not deleted.
func TestStays(t *testing.T) {
	for _, size := range []int{1, 2, 3, 5, 16} {
		x, d, keys := made(t, size), dice(size+80), someKeys(size+4)
		// Of each key that was put: which others were used behind its last put.
		others := map[string]map[string]bool{}
		asked := 0
		for step := range 20000 {
			key := keys[d.below(len(keys))]
			used := true
			switch d.below(8) {
			case 0:
				x.Delete(key)
				delete(others, key)
				used = false
			case 1, 2, 3:
				_, used = x.Get(key)
			case 4:
				x.Each(func(key string, v int) int { return v + 1 })
				used = false
			default:
				x.Put(key, step)
				others[key] = map[string]bool{}
			}
			for k, set := range others {
				if used && k != key {
					set[key] = true
				}
				if len(set) >= size {
					continue
				}
				asked++
				if _, ok := x.Peek(k); !ok {
					t.Fatalf("size %d, step %d: %q is gone, behind its put only %d others were used", size, step, k, len(set))
				}
			}
			if x.Len() > size {
				t.Fatalf("size %d, step %d: %d keys", size, step, x.Len())
			}
		}
		if asked < 5000 {
			t.Errorf("size %d: the run asks only %d times", size, asked)
		}
	}
}

// 11.8: just size others: with one less used, however often, the key stays; the one more throws it out.
func TestStaysAtTheBound(t *testing.T) {
	for _, size := range []int{1, 2, 3, 64, api.MaxRing} {
		x := made(t, size, "old")
		keys := someKeys(size)
		for range 3 {
			for i, key := range keys[:size-1] {
				wantPut(t, x, key, i, "", false)
				wantGet(t, x, key, i, true)
			}
		}
		wantPeek(t, x, "old", 1, true)
		wantPut(t, x, keys[size-1], 0, "old", true)
		wantPeek(t, x, "old", 0, false)
	}
}
