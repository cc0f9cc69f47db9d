package book_test

import (
	"crypto/sha256"
	"encoding/binary"
	"encoding/hex"
	"math"
	"slices"
	"strings"
	"testing"
	"time"

	"joust/api"
	"joust/book"
)

// summed lays the sum behind bytes, so that whatever they say is looked at.
func summed(body string) string {
	sum := sha256.Sum256([]byte(body))
	return body + string(sum[:])
}

// plainWrite writes a ledger whose numbers fit, by the chapter's words.
func plainWrite(l []api.Entry) string {
	body := binary.BigEndian.AppendUint32([]byte("JB01"), uint32(len(l)))
	for _, x := range l {
		body = append(body, byte(x.Kind))
		body = binary.BigEndian.AppendUint64(body, x.Tick)
		body = binary.BigEndian.AppendUint64(body, x.Session)
		body = append(body, byte(x.Player), byte(len(x.Name)))
		body = append(body, x.Name...)
		body = binary.BigEndian.AppendUint16(body, uint16(len(x.From)))
		body = append(body, x.From...)
		body = binary.BigEndian.AppendUint64(body, x.Seq)
		body = binary.BigEndian.AppendUint16(body, uint16(len(x.Data)))
		body = append(body, x.Data...)
	}
	return summed(string(body))
}

// wantWritten asks that a ledger is written as it must be, and read back.
func wantWritten(t *testing.T, l []api.Entry) string {
	t.Helper()
	s, e := book.Write(l)
	if e != api.OK || s != plainWrite(l) {
		t.Fatalf("Write of %d entries: %d bytes, %v", len(l), len(s), e)
	}
	wantEntries(t, s, l)
	return s
}

func wantEntries(t *testing.T, s string, want []api.Entry) {
	t.Helper()
	if got, e := book.Read(s); e != api.OK || !slices.Equal(got, want) {
		t.Fatalf("Read of %d bytes: %d entries, %v", len(s), len(got), e)
	}
}

func wantUnread(t *testing.T, what, s string, want api.Errno) {
	t.Helper()
	if got, e := book.Read(s); e != want || len(got) != 0 {
		t.Fatalf("%s: Read of %d bytes: %d entries, %v, want %v", what, len(s), len(got), e, want)
	}
}

// sample is a short ledger with all kinds of entries, and lengths of 0 among others.
func sample() []api.Entry {
	ann := joinOf(1, 0, "ann")
	return counted(ann, command(ann, 1), tick(), bye(ann, 2), tick())
}

// Example 4, with the sum as another program makes it.
func TestExampleBytes(t *testing.T) {
	const want = "4a42303100000000" + "aa041e3bce12df073919fae3849906829b7452a050e88f2f1c414139a14c77a7"
	for _, l := range [][]api.Entry{nil, {}} {
		s, e := book.Write(l)
		if e != api.OK || len(s) != 40 || hex.EncodeToString([]byte(s)) != want {
			t.Errorf("Write of none: %x, %v", s, e)
		}
		wantEntries(t, s, nil)
	}
}

// One entry, byte by byte, each number of other bytes than the rest.
func TestWriteOneEntry(t *testing.T) {
	x := api.Entry{Kind: 0xf4, Tick: 0x0102030405060708, Session: 0x1112131415161718, Player: 0xfe, Name: "n\xff", From: "from", Seq: 0x2122232425262728, Data: "data!"}
	body := "JB01" + "\x00\x00\x00\x01" + "\xf4" + "\x01\x02\x03\x04\x05\x06\x07\x08" + "\x11\x12\x13\x14\x15\x16\x17\x18" + "\xfe" + "\x02n\xff" + "\x00\x04from" + "\x21\x22\x23\x24\x25\x26\x27\x28" + "\x00\x05data!"
	if s, e := book.Write([]api.Entry{x}); e != api.OK || s != summed(body) {
		t.Errorf("Write: %q, %v, want %q", s, e, summed(body))
	}
	wantEntries(t, summed(body), []api.Entry{x})
}

// P19.4: each number that does not fit, alone, in an entry at each place of a list.
func TestWriteRefused(t *testing.T) {
	long := func(n int) string { return strings.Repeat("l", n) }
	var bad []api.Entry
	for _, n := range []int{-1, 256, 257, 259, -255, -256, 1 << 16, 1 << 32, 1<<32 + 1, math.MaxInt, math.MinInt, math.MinInt + 1} {
		bad = append(bad, api.Entry{Kind: n}, api.Entry{Kind: 3, Player: n})
	}
	for _, n := range []int{256, 257, 300, 65536, 1 << 20} {
		bad = append(bad, api.Entry{Name: long(n)})
	}
	for _, n := range []int{65536, 65537, 65536 + 255, 1 << 17, 1 << 20} {
		bad = append(bad, api.Entry{From: long(n)}, api.Entry{Data: long(n)})
	}
	for _, x := range bad {
		for i := range 4 {
			l := slices.Insert(sample()[:3], i, x)
			if s, e := book.Write(l); e != api.ErrRange || s != "" {
				t.Errorf("Write, entry %d with kind %d, player %d, %d, %d, %d bytes: %d bytes, %v", i, x.Kind, x.Player, len(x.Name), len(x.From), len(x.Data), len(s), e)
			}
		}
	}
}

// P19.4: each number and each length at its bound, and one below; entries that no ledger has are written all the same.
func TestWriteBounds(t *testing.T) {
	for n := range 256 {
		wantWritten(t, []api.Entry{{Kind: n, Player: 255 - n}, {Kind: 255 - n, Player: n}})
		wantWritten(t, []api.Entry{{Name: strings.Repeat("\xfe", n)}})
	}
	for _, n := range []int{0, 1, 2, 254, 255, 256, 257, 511, 512, 32767, 32768, 65279, 65280, 65534, 65535} {
		text := strings.Repeat("t", n)
		wantWritten(t, []api.Entry{{From: text}})
		wantWritten(t, []api.Entry{{Data: text}})
		wantWritten(t, []api.Entry{{From: text, Data: text + "d"[:min(1, 65535-n)]}, {Kind: 3}})
	}
	for _, n := range []uint64{0, 1, 255, 256, 1<<16 - 1, 1 << 32, 1 << 56, 1<<63 - 1, 1 << 63, math.MaxUint64} {
		wantWritten(t, []api.Entry{{Tick: n}, {Session: n}, {Seq: n}})
	}
}

// P19.4: any entries, there and back; then any of their bytes turned with the sum made anew: what is read is written to the same bytes.
func TestThereAndBack(t *testing.T) {
	d := dice(123456789)
	answers := map[api.Errno]int{}
	for range 1500 {
		var l []api.Entry
		for range d.below(5) {
			l = append(l, api.Entry{Kind: d.below(256), Tick: d.word(), Session: d.word() >> d.below(64), Player: d.below(256), Name: d.bytes(d.below(9)), From: d.bytes(d.below(9)), Seq: d.word(), Data: d.bytes(d.below(60))})
		}
		s := wantWritten(t, l)
		body := []byte(s[:len(s)-32])
		body[d.below(len(body))] ^= 1 << d.below(8)
		if d.one(4) {
			body = append(body, d.bytes(d.below(40))...)
		}
		answers[wantOneForm(t, summed(string(body)))]++
	}
	for _, e := range []api.Errno{api.OK, api.ErrShort, api.ErrLedger, api.ErrRange} {
		if answers[e] < 50 {
			t.Errorf("%v came only %d times", e, answers[e])
		}
	}
}

// wantOneForm asks that what is read is written to the same bytes.
func wantOneForm(t *testing.T, s string) api.Errno {
	t.Helper()
	l, e := book.Read(s)
	if e != api.OK {
		wantUnread(t, "again", s, e)
		return e
	}
	if again, f := book.Write(l); f != api.OK || again != s {
		t.Fatalf("Read(%q) = %+v, which is written as %q, %v", s, l, again, f)
	}
	return e
}

// P19.1, P19.4: any bytes, with a right sum and without, with a right head and without.
func TestAnyBytes(t *testing.T) {
	d := dice(987654321)
	for range 5000 {
		body := d.bytes(d.below(120))
		if d.one(2) {
			body = "JB01" + "\x00\x00\x00" + string([]byte{byte(d.below(4))}) + body
		}
		wantOneForm(t, body)
		wantOneForm(t, summed(body))
	}
}

// P19.4: each byte turned, by each bit and wholly: ErrLedger, the number of entries and the sum among them.
func TestEachByteTurned(t *testing.T) {
	for _, l := range [][]api.Entry{nil, sample()} {
		s := wantWritten(t, l)
		for i := range len(s) {
			for _, by := range []byte{1, 2, 4, 8, 16, 32, 64, 128, 255} {
				turned := []byte(s)
				turned[i] ^= by
				wantUnread(t, "turned", string(turned), api.ErrLedger)
			}
		}
	}
}

// P19.4: cut off at every place: ErrShort below 40 bytes, else ErrLedger, as the sum is another.
func TestCutOff(t *testing.T) {
	s := wantWritten(t, sample())
	for n := range len(s) {
		if n < 40 {
			wantUnread(t, "cut", s[:n], api.ErrShort)
		} else {
			wantUnread(t, "cut", s[:n], api.ErrLedger)
		}
	}
	empty := wantWritten(t, nil)
	for n := range len(empty) {
		wantUnread(t, "cut", empty[:n], api.ErrShort)
	}
	for n := 1; n < len(s)-40; n++ {
		wantUnread(t, "cut ahead", s[n:], api.ErrLedger)
	}
}

// P19.4: cut off at every place ahead of the sum, which is made anew: ErrShort, at an entry's end too; so the sum is not counted with the entries.
func TestCutOffAndSummed(t *testing.T) {
	s := wantWritten(t, sample())
	body := s[:len(s)-32]
	for n := range len(body) {
		wantUnread(t, "cut and summed", summed(body[:n]), api.ErrShort)
	}
	for n := 1; n <= 32; n++ { // the sum's own bytes would fill the last entry up
		wantUnread(t, "cut with a sum's length", summed(body[:len(body)-n]), api.ErrShort)
	}
}

// P19.4: bytes too many, behind the sum and ahead of it; fewer entries said than there are; more.
func TestTooMany(t *testing.T) {
	l := sample()
	for _, l := range [][]api.Entry{nil, l} {
		s := wantWritten(t, l)
		body := s[:len(s)-32]
		for _, more := range []string{"x", "\x00", strings.Repeat("\x00", 31), strings.Repeat("\x00", 32), strings.Repeat("\x00", 1000)} {
			wantUnread(t, "behind", s+more, api.ErrLedger)
			wantUnread(t, "ahead", more+s, api.ErrLedger)
			wantUnread(t, "between", summed(body+more), api.ErrRange)
		}
		wantUnread(t, "sums", s+s[len(s)-32:], api.ErrLedger)
		wantUnread(t, "twice", s+s, api.ErrLedger)
	}
	s := wantWritten(t, l)
	for n := range 8 {
		said := []byte(s[:len(s)-32])
		said[7] = byte(n)
		switch {
		case n < len(l):
			wantUnread(t, "fewer", summed(string(said)), api.ErrRange)
		case n > len(l):
			wantUnread(t, "more", summed(string(said)), api.ErrShort)
		}
	}
	// An entry of no texts has 31 bytes; as many zero bytes are one.
	wantEntries(t, summed("JB01\x00\x00\x00\x02"+strings.Repeat("\x00", 62)), make([]api.Entry, 2))
	wantUnread(t, "61", summed("JB01\x00\x00\x00\x02"+strings.Repeat("\x00", 61)), api.ErrShort)
	wantUnread(t, "63", summed("JB01\x00\x00\x00\x02"+strings.Repeat("\x00", 63)), api.ErrRange)
}

// P19.4: which error comes first, where several apply.
func TestOrder(t *testing.T) {
	s := wantWritten(t, sample())
	body := s[:len(s)-32]
	wantUnread(t, "short, another head", strings.Repeat("x", 39), api.ErrShort)
	wantUnread(t, "short, another sum", s[:39], api.ErrShort)
	wantUnread(t, "short, a right sum", summed("JB01\x00\x00\x00"), api.ErrShort)
	wantUnread(t, "short, another head, a right sum", summed("JB02\x00\x00\x00"), api.ErrShort)
	wantUnread(t, "40 bytes of another head", strings.Repeat("x", 40), api.ErrLedger)
	for _, magic := range []string{"JB02", "JB00", "JD01", "J01\x05", "jb01", "\x00\x00\x00\x00", "xJB0", "B01J"} {
		wantUnread(t, "another head, a right sum", summed(magic+body[4:]), api.ErrLedger)
		wantUnread(t, "another head, cut", summed(magic+body[4:len(body)-1]), api.ErrLedger)
		wantUnread(t, "another head, more", summed(magic+body[4:]+"x"), api.ErrLedger)
		wantUnread(t, "another head, none", summed(magic+"\x00\x00\x00\x00"), api.ErrLedger)
	}
	other := strings.Repeat("s", 32)
	wantUnread(t, "another sum", body+other, api.ErrLedger)
	wantUnread(t, "another sum, cut", body[:len(body)-1]+other, api.ErrLedger)
	wantUnread(t, "another sum, more", body+"x"+other, api.ErrLedger)
	for _, part := range []string{body[4:], body[8:], "", "JB01", body + "x"} {
		sum := summed(part)[len(part):]
		wantUnread(t, "the sum of a part", body+sum, api.ErrLedger)
	}
}

// P19.1: any number of entries may be said: what is not there is not waited for, and takes no room.
func TestManySaid(t *testing.T) {
	for _, count := range []string{"\xff\xff\xff\xff", "\x80\x00\x00\x00", "\x7f\xff\xff\xff", "\x01\x00\x00\x00"} {
		begun := time.Now()
		wantUnread(t, "many said", summed("JB01"+count), api.ErrShort)
		wantUnread(t, "many said", summed("JB01"+count+strings.Repeat("\x00", 31*1000)), api.ErrShort)
		wantUnread(t, "many said", summed("JB01"+count+strings.Repeat("\x00", 31*1000+1)), api.ErrShort)
		if took := time.Since(begun); took > 5*time.Second {
			t.Errorf("%x took %v", count, took)
		}
	}
}

// P19.4: many entries, more than one and two bytes can count.
func TestManyWritten(t *testing.T) {
	for _, n := range []int{255, 256, 257, 65535, 65536, 65537} {
		l := make([]api.Entry, n)
		for i := range l {
			l[i] = api.Entry{Kind: i % 256, Tick: uint64(i), Player: i % 251, Name: "name"[:i%5]}
		}
		wantWritten(t, l)
	}
}

// P19.4 (P0.6): the ledgers that Labels takes are read back, and have the same labels then.
func TestLedgersBack(t *testing.T) {
	d := dice(2718281828)
	for range 30 {
		l := d.ledger(t, 50, map[string]int{})
		read, e := book.Read(wantWritten(t, l))
		if e != api.OK {
			t.Fatal(e)
		}
		want, _ := book.Labels(l)
		if got, e := book.Labels(read); e != api.OK || !sameLabels(got, want) {
			t.Fatalf("%+v, %v, want %+v", got, e, want)
		}
	}
}
