package shell_test

import "testing"

// dice give numbers that look like chance and are the same in every run.
type dice uint64

func (d *dice) word() uint64 {
	*d ^= *d << 13
	*d ^= *d >> 7
	*d ^= *d << 17
	return uint64(*d) * 0x2545f4914f6cdd1d
}

func (d *dice) below(n int) int { return int(d.word() >> 20 % uint64(n)) }

func (d *dice) within(least, most int) int { return least + d.below(most-least+1) }

func (d *dice) one(n int) bool { return d.below(n) == 0 }

func (d *dice) bytes(n int) string {
	b := make([]byte, n)
	for i := range b {
		b[i] = byte(d.word() >> 30)
	}
	return string(b)
}

func pick[T any](d *dice, list ...T) T { return list[d.below(len(list))] }

// rounds are fewer where there is no time.
func rounds(n int) int {
	if testing.Short() {
		return max(1, n/10)
	}
	return n
}
