package mac_test

import (
	"encoding/hex"
	"slices"
	"strings"
	"sync"
	"testing"
	"time"

	"joust/mac"
	"joust/sha"
)

// zeros are eight of them: the length of an empty part.
const zeros = "\x00\x00\x00\x00\x00\x00\x00\x00"

// pattern gives n bytes of which no two blocks are alike.
func pattern(n int) string {
	p := make([]byte, n)
	for i := range p {
		p[i] = byte(i*7 + 3)
	}
	return string(p)
}

func sumOf(text string) string {
	sum := sha.Of([]byte(text))
	return string(sum[:])
}

func wantTag(t *testing.T, what, tag, want string) {
	t.Helper()
	if got := hex.EncodeToString([]byte(tag)); got != want {
		t.Errorf("%s: %s, want %s", what, got, want)
	}
}

// P2.1: the chapter's examples 1 to 4.
func TestTagExamples(t *testing.T) {
	for i, x := range []struct{ key, text, tag string }{
		{strings.Repeat("\x0b", 20), "Hi There", "b0344c61d8db38535ca8afceaf0bf12b881dc200c9833da726e9376c2e32cff7"},
		{"Jefe", "what do ya want for nothing?", "5bdcc146bf60754e6a042426089575c75a003f089d2739839dec58b964ec3843"},
		{strings.Repeat("\xaa", 20), strings.Repeat("\xdd", 50), "773ea91e36800e46854db8ebd09181a72959098b3ef8c122d9635514ced565fe"},
		{strings.Repeat("\xaa", 131), "Test Using Larger Than Block-Size Key - Hash Key First", "60e431591ee0b67f0d8a26aacbf5b77f8e0bc6213728c5140546040f0ee37f54"},
	} {
		wantTag(t, "example "+string(rune('1'+i)), mac.Tag(x.key, x.text), x.tag)
	}
}

// P2.1: the chapter's example 5; the two keys were made by another program.
func TestDeriveExample(t *testing.T) {
	apart := mac.Derive("Jefe", "x", "ab", "")
	if apart != mac.Tag("Jefe", "x\x00"+"\x00\x00\x00\x00\x00\x00\x00\x02"+"ab"+zeros) {
		t.Error("Derive is another than the tag of its text")
	}
	if apart == mac.Derive("Jefe", "x", "a", "b") {
		t.Error("ab and nothing are taken for a and b")
	}
	wantTag(t, "ab and nothing", apart, "2a558ab8a230a21aef602a89a31c34818b815259674d689eaae87854870f27d0")
	wantTag(t, "a and b", mac.Derive("Jefe", "x", "a", "b"), "46fe8cc94bc0ba6096fd318933bbd45aff61f05bdc43def7d3d4b9ff5ee135d6")
}

// P2.1: the chapter's example 6.
func TestLastExample(t *testing.T) {
	if mac.Tag("k", "t") != mac.Tag("k\x00", "t") {
		t.Error("a zero byte behind the key makes another tag")
	}
	if !mac.Same("ab", "ab") || mac.Same("ab", "abc") || mac.Same("ab", "aB") {
		t.Error("Same")
	}
}

// P2.1: keys about the pad's length, short and long texts, the empty ones too; the tags were made by another program.
func TestKnownTags(t *testing.T) {
	for _, x := range []struct {
		key, text int
		tag       string
	}{
		{0, 0, "b613679a0814d9ec772f95d778c35fc5ff1697c493715653c6c712144292c5ad"},
		{0, 1, "a6d76548fe8ed070bb909d99999aab3123ea3de416a2d58bcefb8f867962bb86"},
		{0, 600, "f3bcdf105bc5899de92117470d8df71a0fb5828072c88308f886072d7fc9c034"},
		{1, 0, "be8d44d01aa938627809668b7364a21ed8e9fc8cffa64d18846d126789d4cef8"},
		{1, 1, "29482d48f4c7d300c53bd826466ed037f992e20e12c1a378fb843bef991c4186"},
		{1, 600, "0000b5af8f6546a1dd5a3dbda54ed420bc1b8d7ee8d9d6204146e49d8a8c3736"},
		{63, 0, "646aefd3a921995422ef7683d9726a66715f7e764d7e2211478f1c19b2ca13c8"},
		{63, 1, "c6fc1833e35573b1a3375243f1743ef75b558b247fe06e9c36bb2c0f9f4f946b"},
		{63, 600, "272f6947f4d9b89c9d0ea6f3e83e2e7243963d7add14c4f16e3e192f4778a0fb"},
		{64, 0, "58c7e63111455c2bf96038a7f89d0b8003da9a940571640f70d14f4f3f983fc1"},
		{64, 1, "22dab55a607db4dbcd226da72fc092b814943e95bfb6456cdfa4a2879efb8a51"},
		{64, 600, "1bc65da2bc7626e0d7914d93f00a1e3bac8c93ad4be15393b731b71fa67790f8"},
		{65, 0, "34bb3ae87adcec2d42a585be6634ffec56e8cf0caac667a4e398ee1e46015c15"},
		{65, 1, "3a7dba9e4b7fb27d5e14214ff63d2de31ac061fd23877de531f91769d6d9c6e2"},
		{65, 600, "15875d1af32e47ecde922e2c7193c1a0572c2c4c8555d95e863633d168aaea25"},
		{131, 0, "f2183d1fe08f3e8f77e191beb49ed74ccb5d817ec879f9717f1a55e23bc7d72c"},
		{131, 1, "250d0fafc09a5354490df0a7f4817e74097a61915ecf57b3d91a3caee4a7e729"},
		{131, 600, "188574af3b37515ac310fe79e5d01d286298231e9411fc9aced32a6e024d60cf"},
		{600, 0, "4a0de86eb20f45c62fbf75446e3bc2edeace5165ddd103df668ae2e14d51d3c7"},
		{600, 1, "15beef798070200a6d66fe624afe288f7d658388899fe3b3557fa7fdf9b6e7f9"},
		{600, 600, "40026b30e3804473797c2e0c58f4e651ea5bede8633bc527647db3568d0c4a05"},
	} {
		tag := mac.Tag(pattern(x.key), pattern(x.text))
		if got := hex.EncodeToString([]byte(tag)); got != x.tag {
			t.Errorf("key of %d bytes, text of %d: %s, want %s", x.key, x.text, got, x.tag)
		}
	}
}

// P2.1: the sums of the tags of all lengths below 1100 of a text, of a key, of both together; made by another program.
func TestEveryLength(t *testing.T) {
	texts, keys, both := sha.New(), sha.New(), sha.New()
	for n := range 1100 {
		texts.Write([]byte(mac.Tag("key", pattern(n))))
		keys.Write([]byte(mac.Tag(pattern(n), "text")))
	}
	for k := range 140 {
		for n := range 70 {
			both.Write([]byte(mac.Tag(pattern(k), pattern(n))))
		}
	}
	for _, x := range []struct {
		what string
		sums *sha.Hash
		want string
	}{
		{"texts", texts, "f6edfb0c53b656a028ff5a513085f8f50563582c620d02783b636ec7ada03b16"},
		{"keys", keys, "f6beda715aec26f42124be228973bbe5064742ffdeb74080c928f0f5154b16da"},
		{"keys and texts", both, "8fcc4645f2e6bf2ca79b0d199f8e04b06166b803bf08392f343be67679627263"},
	} {
		sum := x.sums.Sum()
		wantTag(t, x.what, string(sum[:]), x.want)
	}
}

// P2.1: key and text are not taken for one another, and every byte of both counts.
func TestEveryByteCounts(t *testing.T) {
	if mac.Tag("a", "b") == mac.Tag("b", "a") || mac.Tag("ab", "") == mac.Tag("a", "b") {
		t.Error("key and text are mixed up")
	}
	for _, n := range []int{1, 63, 64, 65, 131} {
		whole := pattern(n)
		tag := mac.Tag(whole, whole)
		for i := range n {
			other := []byte(whole)
			other[i] ^= 0x80
			if mac.Tag(string(other), whole) == tag || mac.Tag(whole, string(other)) == tag {
				t.Errorf("byte %d of %d does not count", i, n)
			}
		}
	}
}

// P2.1: texts that are alike, and texts that differ in one bit at any place.
func TestSameLength(t *testing.T) {
	for _, n := range []int{0, 1, 2, 7, 8, 9, 31, 32, 33, 64, 300} {
		a := pattern(n)
		if !mac.Same(a, a) || !mac.Same(a, strings.Clone(a)) {
			t.Errorf("%d bytes that are alike", n)
		}
		for i := range n {
			for bit := range 8 {
				b := []byte(a)
				b[i] ^= 1 << bit
				if mac.Same(a, string(b)) || mac.Same(string(b), a) {
					t.Errorf("%d bytes that differ in bit %d of byte %d", n, bit, i)
				}
			}
		}
	}
}

// P2.1: differences that would undo one another, if they were added or xored.
func TestSameManyDifferences(t *testing.T) {
	for _, x := range [][2]string{
		{"ab", "ba"}, {"abc", "cab"}, {"\x00\x00", "\x01\x01"}, {"\x01\x00", "\x00\x01"}, {"\x05\x05", "\x04\x06"},
		{strings.Repeat("\x00", 256), strings.Repeat("\x01", 256)}, {strings.Repeat("\x00", 32), strings.Repeat("\xff", 32)},
	} {
		if mac.Same(x[0], x[1]) || mac.Same(x[1], x[0]) {
			t.Errorf("%q and %q", x[0], x[1])
		}
	}
}

// P2.1: texts of different lengths, of which one begins or ends with the other among them.
func TestSameOtherLength(t *testing.T) {
	for _, x := range [][2]string{
		{"", "a"}, {"", "\x00"}, {"ab", "abc"}, {"bc", "abc"}, {"ab", "ab\x00"}, {"\x00", "\x00\x00"},
		{pattern(32), pattern(33)}, {pattern(44), pattern(300)}, {strings.Repeat("q", 1), strings.Repeat("q", 257)},
	} {
		if mac.Same(x[0], x[1]) || mac.Same(x[1], x[0]) {
			t.Errorf("%q and %q", x[0], x[1])
		}
	}
	if !mac.Same("", "") {
		t.Error("two empty texts")
	}
}

// quickest is the least time that a comparison takes: what else the machine does can't make it less.
func quickest(a, b string) time.Duration {
	least := time.Hour
	for range 5 {
		from := time.Now()
		mac.Same(a, b)
		least = min(least, time.Since(from))
	}
	return least
}

// P2.1: the comparison has no early end, from whichever side it comes: with one it would be many thousand times as quick.
func TestSameLooksAtAllBytes(t *testing.T) {
	const n = 1 << 23
	a := strings.Repeat("a", n)
	whole := quickest(a, strings.Clone(a))
	for what, b := range map[string]string{"first": "b" + a[1:], "last": a[1:] + "b"} {
		if took := quickest(a, b); took < whole/50 {
			t.Errorf("%d bytes that differ in the %s one took %v, alike %v", n, what, took, whole)
		}
	}
}

// P2.1, P2.2: keys that another program derived: no parts, an empty one, parts about 255 bytes, and a long secret.
func TestKnownKeys(t *testing.T) {
	for _, x := range []struct {
		what, key, want string
	}{
		{"no parts", mac.Derive("Jefe", "x"), "383015eaaf8e72e4814b9b3080203e0b3ff9ffc1f377a4f40f013f9c6ace5648"},
		{"nothing at all", mac.Derive("", ""), "6620b31f2924b8c01547745f41825d322336f83ebb13d723678789d554d8a3ef"},
		{"an empty part", mac.Derive("", "", ""), "fecc5ef09c6aa93ddbd645fd2ece6548aae8fdec747e3a4d6de54da7a19da622"},
		{"255 bytes", mac.Derive("Jefe", "x", pattern(255)), "858cd9c12a3ae6c08ae88a2f3dbe1aaa99b8bd709b6a5eb53e9e61e0e2b28149"},
		{"256 bytes", mac.Derive("Jefe", "x", pattern(256)), "e6fa4b0fd90255bea0d62f50297159055c68021a11579dd75ddc5fbd065b42ff"},
		{"70000 bytes and one", mac.Derive("Jefe", "x", pattern(70000), "q"), "8cddd38e44c6f849c6498f33466e6147f1b6d8b3f463cbf28305764bda9953e0"},
		{"a secret of 65 bytes", mac.Derive(pattern(65), "session", pattern(16), pattern(16), pattern(8)), "8181a8a54c4f655295e04aedaabd007d605d88ebbe4d3a60961adb58dcc978cb"},
	} {
		wantTag(t, x.what, x.key, x.want)
	}
}

// P2.1: Derive is the tag of the text that the chapter says.
func TestDeriveIsATag(t *testing.T) {
	long := pattern(0x010203)
	for _, x := range []struct {
		what, key, text string
	}{
		{"no parts", mac.Derive("s", "use"), "use\x00"},
		{"an empty list", mac.Derive("s", "use", []string{}...), "use\x00"},
		{"an empty use", mac.Derive("s", "", "p"), "\x00" + "\x00\x00\x00\x00\x00\x00\x00\x01" + "p"},
		{"an empty part", mac.Derive("s", "use", ""), "use\x00" + zeros},
		{"empty parts about one", mac.Derive("s", "use", "", "p", ""), "use\x00" + zeros + "\x00\x00\x00\x00\x00\x00\x00\x01" + "p" + zeros},
		{"a length of three bytes", mac.Derive("s", "use", long, "p"), "use\x00" + "\x00\x00\x00\x00\x00\x01\x02\x03" + long + "\x00\x00\x00\x00\x00\x00\x00\x01" + "p"},
		{"a use with a zero byte", mac.Derive("s", "u\x00e", "p"), "u\x00e\x00" + "\x00\x00\x00\x00\x00\x00\x00\x01" + "p"},
	} {
		if x.key != mac.Tag("s", x.text) {
			t.Errorf("%s: another than the tag of its text", x.what)
		}
	}
}

// P2.2: no two of these uses and lists of parts have one key; many of them are the same text, if they are only put together.
func TestNoTwoAlike(t *testing.T) {
	lists := [][]string{
		{}, {""}, {"", ""}, {"", "", ""},
		{"ab"}, {"a", "b"}, {"b", "a"}, {"ab", ""}, {"", "ab"}, {"a", "", "b"}, {"", "a", "b"}, {"a", "b", ""},
		{"\x00"}, {"\x00", ""}, {zeros}, {zeros, ""}, {zeros + zeros},
		{"\x00\x00\x00\x00\x00\x00\x00\x01a"}, {"", "\x00\x00\x00\x00\x00\x00\x00\x01a"}, {"a", "\x00\x00\x00\x00\x00\x00\x00\x01a"},
		{pattern(255)}, {pattern(256)}, {pattern(256), pattern(255)}, {pattern(255), pattern(256)}, {pattern(511)},
		{strings.Repeat("q", 1)}, {strings.Repeat("q", 257)}, {strings.Repeat("q", 256)},
	}
	found := map[string][]string{}
	for _, use := range []string{"", "u", "us", "use", "usf", "Use", "use ", "a", "ab"} {
		for _, parts := range lists {
			key := mac.Derive("secret", use, parts...)
			told := append([]string{use}, parts...)
			if other, ok := found[key]; ok {
				t.Errorf("%q and %q have one key", told, other)
			}
			found[key] = told
		}
	}
}

// P2.2: the secret counts too, and is not taken for the use.
func TestSecretCounts(t *testing.T) {
	if mac.Derive("s", "use", "p") == mac.Derive("t", "use", "p") || mac.Derive("s", "t") == mac.Derive("t", "s") || mac.Derive("st", "") == mac.Derive("s", "t") {
		t.Error("two secrets have one key")
	}
}

// P2.3: zero bytes behind a key of at most 64 make no difference; any other byte does, and a zero byte ahead.
func TestZerosBehindTheKey(t *testing.T) {
	for n := range 64 {
		key := pattern(n)
		tag := mac.Tag(key, "text")
		for more := 1; n+more <= 64; more++ {
			longer := key + strings.Repeat("\x00", more)
			if mac.Tag(longer, "text") != tag || mac.Derive(longer, "use", "p") != mac.Derive(key, "use", "p") {
				t.Fatalf("%d zero bytes behind a key of %d", more, n)
			}
		}
		if mac.Tag(key+"\x01", "text") == tag {
			t.Errorf("a byte 1 behind a key of %d bytes makes no difference", n)
		}
		if n > 0 && mac.Tag("\x00"+key, "text") == tag {
			t.Errorf("a zero byte ahead of a key of %d bytes makes no difference", n)
		}
		if mac.Tag(key+strings.Repeat("\x00", 65-n), "text") == tag {
			t.Errorf("a key of %d bytes, made 65 by zeros, was not summed", n)
		}
	}
}

// P2.3: a key of more than 64 bytes has its sum's tags, one of 64 has its own.
func TestLongKeyIsSummed(t *testing.T) {
	for _, n := range []int{65, 66, 127, 128, 129, 131, 1000} {
		key := pattern(n)
		sum := sumOf(key)
		for _, text := range []string{"", "text", pattern(200)} {
			if mac.Tag(key, text) != mac.Tag(sum, text) || mac.Derive(key, text, "p") != mac.Derive(sum, text, "p") {
				t.Errorf("a key of %d bytes has other tags than its sum", n)
			}
			if mac.Tag(key, text) == mac.Tag(key[:64], text) {
				t.Errorf("a key of %d bytes is cut", n)
			}
		}
	}
	for _, n := range []int{0, 1, 32, 63, 64} {
		if mac.Tag(pattern(n), "text") == mac.Tag(sumOf(pattern(n)), "text") {
			t.Errorf("a key of %d bytes is summed", n)
		}
	}
}

// P2.4: the list of parts and the room behind it stay as they are, and what is in that room does not count.
func TestPartsStay(t *testing.T) {
	for n := range 5 {
		all := []string{"a", "", pattern(300), "b", "room", "more room"}
		was := slices.Clone(all)
		key := mac.Derive("s", "use", all[:n]...)
		if !slices.Equal(all, was) {
			t.Errorf("a list of %d parts, or the room behind it, changed: %q", n, all)
		}
		if key != mac.Derive("s", "use", slices.Clone(was[:n])...) {
			t.Errorf("the room behind %d parts counts", n)
		}
	}
}

// P2.4: nothing of the list is kept: written over, it changes neither the key nor later ones.
func TestPartsWrittenOver(t *testing.T) {
	parts := []string{"a", "b"}
	key := mac.Derive("s", "use", parts...)
	was := strings.Clone(key)
	clear(parts)
	if key != was || mac.Derive("s", "use", "a", "b") != was || mac.Derive("s", "use", parts...) == was {
		t.Error("a list that is written over is seen")
	}
}

// P2.1: nothing is kept between calls, so any number of them may go on at a time.
func TestCallsAtOneTime(t *testing.T) {
	tag, key := mac.Tag("k", pattern(1000)), mac.Derive("s", "use", pattern(1000))
	var group sync.WaitGroup
	for i := range 8 {
		group.Go(func() {
			for range 50 {
				mac.Tag(pattern(i), pattern(i))
				if mac.Tag("k", pattern(1000)) != tag || mac.Derive("s", "use", pattern(1000)) != key {
					t.Error("another answer")
					return
				}
			}
		})
	}
	group.Wait()
}
