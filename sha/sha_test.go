package sha_test

import (
	"bytes"
	"encoding/hex"
	"slices"
	"strings"
	"testing"

	"joust/sha"
)

// edges are the lengths at which the padding needs one block more or none, and those beside them.
var edges = []int{0, 1, 54, 55, 56, 57, 62, 63, 64, 65, 118, 119, 120, 121, 127, 128, 129}

// pattern gives n bytes of which no two blocks are alike.
func pattern(n int) []byte {
	p := make([]byte, n)
	for i := range p {
		p[i] = byte(i*7 + 3)
	}
	return p
}

func written(parts ...[]byte) [32]byte {
	h := sha.New()
	for _, p := range parts {
		h.Write(p)
	}
	return h.Sum()
}

func wantSum(t *testing.T, what string, sum [32]byte, want string) {
	t.Helper()
	if got := hex.EncodeToString(sum[:]); got != want {
		t.Errorf("%s: %s, want %s", what, got, want)
	}
}

// P1.1: sums that are known from FIPS 180-4's examples.
func TestKnownTexts(t *testing.T) {
	for _, x := range []struct{ text, sum string }{
		{"", "e3b0c44298fc1c149afbf4c8996fb92427ae41e4649b934ca495991b7852b855"},
		{"abc", "ba7816bf8f01cfea414140de5dae2223b00361a396177a9cb410ff61f20015ad"},
		{"abcdbcdecdefdefgefghfghighijhijkijkljklmklmnlmnomnopnopq", "248d6a61d20638b8e5c026930c3e6039a33ce45964ff2167f6ecedd419db06c1"},
		{"abcdefghbcdefghicdefghijdefghijkefghijklfghijklmghijklmnhijklmnoijklmnopjklmnopqklmnopqrlmnopqrsmnopqrstnopqrstu", "cf5b16a778af8380036ce59e7b0492370b249b11e8f07a51afac45037afee9d1"},
		{strings.Repeat("a", 1000000), "cdc76e5c9914fb9281a1c7e284d73e67f1809a48a497200e046d39ccc7112cd0"},
	} {
		wantSum(t, "Of", sha.Of([]byte(x.text)), x.sum)
		wantSum(t, "Write", written([]byte(x.text)), x.sum)
	}
}

// P1.1: lengths about the padding's edges; the sums were made by another program.
func TestKnownLengths(t *testing.T) {
	for _, x := range []struct {
		n   int
		sum string
	}{
		{0, "e3b0c44298fc1c149afbf4c8996fb92427ae41e4649b934ca495991b7852b855"},
		{1, "084fed08b978af4d7d196a7446a86b58009e636b611db16211b65a9aadff29c5"},
		{32, "ab5f8b5cb9435354c7b58603592d5faf081e17ceb05f7a7c67f4b666f12ca457"},
		{54, "160bbf14b458c877b7049e7cb5771dd653930f97d20bdd8ee795c16062906233"},
		{55, "e7313d333c272e639f790978283f9eb392e843d0f29b7016828bb1daa4aac70b"},
		{56, "4324d65f3c103567f5589c710bc08f8523f929a9272e3af36fc968e52abc6c27"},
		{57, "35df609437dcfea3279283ab79fd554e2bf78f8f7ae2de532d8ee300b09e8f73"},
		{62, "5b50d7a374c35bf46f501a178cceb2cfe649cd8f96c4a21d57377fcbb0eec4ab"},
		{63, "81c80242132f230c3bd41b3e63bbcff16107339549214a99614ff26664625055"},
		{64, "39e3d7b6b5d075d37d053ad89b24b41bef4f3c29760c84447cab3f3be1882241"},
		{65, "aacca6ff74fdbb296d165a45cecfa04e5127bc008770fbbdd48006f2d2fae95e"},
		{118, "2c49b89c5aaaaaa69ae70251cc0803f14afaf1a2caa461fa6b083750bc07ce88"},
		{119, "9ce7368e4daf32341631b492e80359dc9f594b48453cd0dd5bf0b19279cc177e"},
		{120, "7836b787757e95e58b3ca5aec90b1b004e8deba1e50e9675af9cabf1a13a04b5"},
		{121, "1189a98a00c71bc1848ea8bdc9700b442bee0be7c3f45172303f1ab0b6f1617e"},
		{127, "a8d23e75d936f303d248888d9b165ee543f4cbafcad3c9dd2a79bd84faa11d07"},
		{128, "d2742f1f4ac6bb7ca2b239ee18402ba8b3f9f8e652d2a72973c2b9ba11c08cf6"},
		{129, "307f8fc2c1622b92762e818d39a185d4d667ad49a4b07ceae1f4afa008a93ec4"},
		{1000, "1e9bc38cbf860b9ec31918b065f9b52476c549a782e0e7990bed8ce3868d2371"},
		{4096, "7486da8f1e13943fae21a0b043f1e99640d7d8ebafb25266478b5cddae1272b5"},
	} {
		wantSum(t, "Of", sha.Of(pattern(x.n)), x.sum)
		wantSum(t, "Write", written(pattern(x.n)), x.sum)
	}
}

// P1.1: the sum of the sums of all lengths from 0 to 599, made by another program.
func TestEveryLength(t *testing.T) {
	h := sha.New()
	for n := range 600 {
		sum := sha.Of(pattern(n))
		h.Write(sum[:])
	}
	wantSum(t, "sum of sums", h.Sum(), "f6ca03026951132b26cabf4d60c0bf0fa2a339bbd4ea6080904a4b21d33dea2f")
}

// P1.1: from 2^29 bytes on the length in bits needs more than 32 of them.
func TestLongMessage(t *testing.T) {
	if testing.Short() {
		t.Skip("takes seconds")
	}
	t.Parallel()
	h := sha.New()
	zeros := make([]byte, 1<<20)
	for range 1 << 9 {
		h.Write(zeros)
	}
	wantSum(t, "2^29 zero bytes", h.Sum(), "9acca8e8c22201155389f65abbf6bc9723edc7384ead80503839f49dcc56d767")
}

// P1.1: every way to cut an edge's length into three, parts without bytes among them.
func TestThreeParts(t *testing.T) {
	for _, n := range edges {
		p := pattern(n)
		whole := sha.Of(p)
		for i := 0; i <= n; i++ {
			for j := i; j <= n; j++ {
				if written(p[:i], p[i:j], p[j:]) != whole {
					t.Fatalf("%d bytes written, cut at %d and %d", n, i, j)
				}
				if sha.Of(p[:i], p[i:j], p[j:]) != whole {
					t.Fatalf("Of %d bytes, cut at %d and %d", n, i, j)
				}
			}
		}
	}
}

// P1.1: pieces of one length each, from single bytes to more than two blocks.
func TestEqualPieces(t *testing.T) {
	p := pattern(1000)
	whole := sha.Of(p)
	for step := 1; step <= 200; step++ {
		parts := slices.Collect(slices.Chunk(p, step))
		if written(parts...) != whole || sha.Of(parts...) != whole {
			t.Fatalf("pieces of %d bytes", step)
		}
	}
}

// P1.1: a Write of nothing or nil adds no byte, wherever it stands.
func TestNothingWritten(t *testing.T) {
	none := sha.Of()
	if sha.New().Sum() != none || written(nil) != none || written([]byte{}) != none || sha.Of(nil, []byte{}, nil) != none {
		t.Error("no bytes have more than one sum")
	}
	for _, n := range edges {
		p := pattern(n)
		if written(nil, p, []byte{}, nil) != sha.Of(p) || sha.Of([]byte{}, p, nil) != sha.Of(p) {
			t.Errorf("empty parts about %d bytes count", n)
		}
	}
}

// P1.1: the order of the parts counts, and so does a part that is handed in twice.
func TestOrder(t *testing.T) {
	a, b := pattern(70), []byte("another part")
	if sha.Of(a, b) == sha.Of(b, a) {
		t.Error("parts exchanged have one sum")
	}
	if sha.Of(b, b) != sha.Of([]byte("another partanother part")) {
		t.Error("a part handed in twice")
	}
}

// P1.2: Sum between two Writes, at every place, asked twice.
func TestSumBetweenWrites(t *testing.T) {
	p := pattern(200)
	h := sha.New()
	for i := range p {
		if first, again := h.Sum(), h.Sum(); first != again || first != sha.Of(p[:i]) {
			t.Fatalf("Sum behind %d bytes", i)
		}
		h.Write(p[i : i+1])
	}
	if h.Sum() != sha.Of(p) {
		t.Error("Sums between changed the end")
	}
}

// P1.2: an answer that is written over changes nothing.
func TestSumIsACopy(t *testing.T) {
	h := sha.New()
	h.Write(pattern(90))
	sum := h.Sum()
	clear(sum[:])
	if h.Sum() != sha.Of(pattern(90)) {
		t.Error("the answer is the Hash's own memory")
	}
}

// P1.2: two Hashes written to in turns, and one begun between.
func TestTwoHashes(t *testing.T) {
	p, q := pattern(300), bytes.Repeat([]byte("other "), 50)
	a, b := sha.New(), sha.New()
	for i := 0; i < 300; i += 10 {
		a.Write(p[i : i+10])
		if sha.New().Sum() != sha.Of() {
			t.Fatal("a new Hash has bytes already")
		}
		b.Write(q[i : i+10])
		if a.Sum() != sha.Of(p[:i+10]) || b.Sum() != sha.Of(q[:i+10]) {
			t.Fatalf("Hashes mixed behind %d bytes", i+10)
		}
	}
}

// roomy gives n bytes with spare room behind them, and all of it to look at.
func roomy(n int) (p, all []byte) {
	all = pattern(n + 100)
	return all[:n], all
}

// P1.3: Write leaves p and its spare room as they were.
func TestWriteLeavesBytes(t *testing.T) {
	for _, n := range edges {
		p, all := roomy(n)
		h := sha.New()
		h.Write(p)
		h.Sum()
		h.Write([]byte("more"))
		h.Sum()
		if !bytes.Equal(all, pattern(n+100)) {
			t.Errorf("%d bytes or their spare room changed", n)
		}
	}
}

// P1.3: Of leaves the parts, their spare room and the list of them as they were.
func TestOfLeavesParts(t *testing.T) {
	for _, n := range edges {
		p, all := roomy(n)
		q, rest := roomy(n + 1)
		last := []byte("spare")
		list := [][]byte{p, nil, q, last}
		sha.Of(list[:3]...)
		if !bytes.Equal(all, pattern(n+100)) || !bytes.Equal(rest, pattern(n+101)) {
			t.Errorf("parts of %d bytes or their spare room changed", n)
		}
		if len(list[0]) != n || list[1] != nil || len(list[2]) != n+1 || string(list[3]) != "spare" {
			t.Errorf("the list of parts of %d bytes changed", n)
		}
	}
}

// P1.3: parts that lie in one another's spare room are summed as they are.
func TestPartsInOneArray(t *testing.T) {
	p := pattern(150)
	if sha.Of(p[:50], p[50:100], p[100:]) != sha.Of(pattern(150)) || sha.Of(p[:100], p[50:]) != sha.Of(pattern(100), pattern(150)[50:]) {
		t.Error("parts that share an array")
	}
}

// P1.3: p written over behind Write; what was written stays.
func TestWrittenOver(t *testing.T) {
	for _, n := range edges {
		p, all := roomy(n)
		h := sha.New()
		h.Write(p)
		clear(all)
		if h.Sum() != sha.Of(pattern(n)) {
			t.Errorf("%d bytes written over are seen by Sum", n)
		}
		h.Write([]byte("more"))
		if h.Sum() != sha.Of(pattern(n), []byte("more")) {
			t.Errorf("%d bytes written over are seen behind a Write", n)
		}
	}
}

// P1.3: one buffer used for all Writes, as a reader would.
func TestBufferUsedAgain(t *testing.T) {
	p := pattern(500)
	h := sha.New()
	buffer := make([]byte, 37)
	for rest := p; len(rest) > 0; {
		n := copy(buffer, rest)
		h.Write(buffer[:n])
		rest = rest[n:]
	}
	if h.Sum() != sha.Of(p) {
		t.Error("a buffer used again changes the sum")
	}
}
