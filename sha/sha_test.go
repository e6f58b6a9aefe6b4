package sha_test

import (
	"bytes"
	"crypto/sha256"
	"encoding/hex"
	"math/rand"
	"strings"
	"testing"

	"coracle/api"
	"coracle/sha"
)

// Texts whose sums are public, the first byte first.
var known = []struct{ text, sum string }{
	{"", "e3b0c44298fc1c149afbf4c8996fb92427ae41e4649b934ca495991b7852b855"},
	{"a", "ca978112ca1bbdcafac231b39a23dc4da786eff8147c4e72b9807785afee48bb"},
	{"abc", "ba7816bf8f01cfea414140de5dae2223b00361a396177a9cb410ff61f20015ad"},
	{"message digest", "f7846f55cf23e14eebeab5b4e1550cad5b509e3348fbc4efa3a1413d393cb650"},
	{"The quick brown fox jumps over the lazy dog", "d7a8fbb307d7809469ca9abcb0082e4f8d5651e46d3cdb762d02d0bf37c9e592"},
	{"abcdbcdecdefdefgefghfghighijhijkijkljklmklmnlmnomnopnopq", "248d6a61d20638b8e5c026930c3e6039a33ce45964ff2167f6ecedd419db06c1"},
	{"abcdefghbcdefghicdefghijdefghijkefghijklfghijklmghijklmnhijklmnoijklmnopjklmnopqklmnopqrlmnopqrsmnopqrstnopqrstu", "cf5b16a778af8380036ce59e7b0492370b249b11e8f07a51afac45037afee9d1"},
	{strings.Repeat("a", 1000000), "cdc76e5c9914fb9281a1c7e284d73e67f1809a48a497200e046d39ccc7112cd0"},
}

// The lengths around which the closing of a sum takes one block more.
var edges = []int{0, 1, 54, 55, 56, 57, 62, 63, 64, 65, 118, 119, 120, 121, 126, 127, 128, 129, 183, 184, 191, 192, 193, 1000, 4096, 70000}

// some is n bytes that are not alike.
func some(n int, seed int64) []byte {
	b := make([]byte, n)
	rand.New(rand.NewSource(seed)).Read(b)
	return b
}

// reference is the library's sum.
func reference(b []byte) api.Hash { return api.Hash(sha256.Sum256(b)) }

func TestSumKnown(t *testing.T) {
	for _, k := range known {
		want, err := hex.DecodeString(k.sum)
		if err != nil {
			t.Fatal(err)
		}
		if got := sha.Sum([]byte(k.text)); !bytes.Equal(got[:], want) {
			t.Errorf("P2.1: Sum of %.20q (%d bytes): %x, want %s", k.text, len(k.text), got, k.sum)
		}
	}
	if got := sha.Sum([]byte("abc")); !bytes.Equal(got[:4], []byte{0xba, 0x78, 0x16, 0xbf}) {
		t.Errorf("P2.1: the chapter's example: %x", got)
	}
}

func TestSumNothing(t *testing.T) {
	want := reference(nil)
	for i, got := range []api.Hash{sha.Sum(), sha.Sum(nil), sha.Sum([]byte{}), sha.Sum(nil, nil, []byte{}), sha.Sum([][]byte{}...)} {
		if got != want {
			t.Errorf("P2.1: no bytes, way %d: %x", i, got)
		}
	}
}

func TestSumLengths(t *testing.T) {
	for n := range 600 {
		b := some(n, int64(n))
		if got := sha.Sum(b); got != reference(b) {
			t.Errorf("P2.1: Sum of %d bytes: %x", n, got)
		}
	}
	for _, n := range edges {
		for _, fill := range []byte{0, 1, 0x7f, 0x80, 0xff} {
			b := bytes.Repeat([]byte{fill}, n)
			if got := sha.Sum(b); got != reference(b) {
				t.Errorf("P2.1: Sum of %d bytes %#x: %x", n, fill, got)
			}
		}
	}
}

// The count of bits does not fit 8, 16 or 24 bits, so that each of its lower bytes is written.
func TestSumLong(t *testing.T) {
	for _, n := range []int{1 << 5, 1 << 13, 1 << 21, 1<<21 + 1<<13 + 1<<5 + 1, 1 << 24} {
		b := some(n, int64(n))
		if got := sha.Sum(b); got != reference(b) {
			t.Errorf("P2.1: Sum of %d bytes: %x", n, got)
		}
	}
}

// One piece handed in many times: more bits than 32 bits count, from few bytes of memory.
func TestSumCountBeyond32Bits(t *testing.T) {
	if testing.Short() {
		t.Skip("half a gigabyte is summed")
	}
	const size, times = 1 << 24, 33
	piece := some(size, 5)
	pieces := make([][]byte, times)
	ref := sha256.New()
	for i := range pieces {
		pieces[i] = piece
		ref.Write(piece)
	}
	if got := sha.Sum(pieces...); !bytes.Equal(got[:], ref.Sum(nil)) {
		t.Errorf("P2.1: Sum of %d bytes: %x", size*times, got)
	}
}

func TestSumCuts(t *testing.T) {
	for _, n := range edges {
		b := some(n, int64(n)+7)
		want := reference(b)
		for _, at := range append([]int{n / 2, n / 3}, edges...) {
			if at > n {
				continue
			}
			for i, got := range []api.Hash{
				sha.Sum(b[:at], b[at:]),
				sha.Sum(nil, b[:at], nil, []byte{}, b[at:], nil),
				sha.Sum([]byte{}, b[:at], b[at:], []byte{}),
				sha.Sum(b[:at/2], b[at/2:at], b[at:at+(n-at)/2], b[at+(n-at)/2:]),
			} {
				if got != want {
					t.Errorf("P2.2: %d bytes cut at %d, way %d: %x", n, at, i, got)
				}
			}
		}
	}
}

func TestSumCutsOfAllSizes(t *testing.T) {
	b := some(400, 3)
	want := reference(b)
	for size := 1; size <= len(b); size++ {
		var pieces [][]byte
		for rest := b; len(rest) > 0; {
			n := min(size, len(rest))
			pieces = append(pieces, rest[:n], nil)
			rest = rest[n:]
		}
		if got := sha.Sum(pieces...); got != want {
			t.Errorf("P2.2: cut in pieces of %d: %x", size, got)
		}
	}
}

// Unlike bytes have unlike sums, those too that differ in their length alone, or in their order.
func TestSumTellsBytesApart(t *testing.T) {
	seen := map[api.Hash]string{}
	for n := range 200 {
		for _, fill := range []string{"\x00", "\x80", "a"} {
			if n == 0 && fill != "a" {
				continue
			}
			text := strings.Repeat(fill, n)
			h := sha.Sum([]byte(text))
			if old, ok := seen[h]; ok {
				t.Errorf("P2.1: %q and %q have one sum", old, text)
			}
			seen[h] = text
		}
	}
	if sha.Sum([]byte("a"), []byte("b")) == sha.Sum([]byte("b"), []byte("a")) {
		t.Error("P2.1: the order of the pieces is lost")
	}
}

func TestTwice(t *testing.T) {
	for _, n := range edges {
		b := some(n, int64(n)+11)
		inner := reference(b)
		want := reference(inner[:])
		for i, got := range []api.Hash{sha.Twice(b), sha.Twice(b[:n/2], b[n/2:]), sha.Twice(nil, b[:n/3], nil, b[n/3:], []byte{})} {
			if got != want {
				t.Errorf("P2.1, P2.2: Twice of %d bytes, way %d: %x", n, i, got)
			}
		}
	}
	inner := reference(nil)
	if sha.Twice() != reference(inner[:]) {
		t.Error("P2.1: Twice of nothing")
	}
	h := sha.Twice([]byte("hello"))
	if hex.EncodeToString(h[:]) != "9595c9df90075148eb06860365df33584b75bff782a510c6cd4883a419833d50" {
		t.Errorf("P2.1: Twice of hello: %x", h)
	}
}

func TestPair(t *testing.T) {
	hashes := []api.Hash{{}, {0: 1}, {31: 1}, reference([]byte("a")), reference([]byte("b"))}
	for _, a := range hashes {
		for _, b := range hashes {
			both := append(append([]byte{}, a[:]...), b[:]...)
			inner := reference(both)
			if got := sha.Pair(a, b); got != reference(inner[:]) {
				t.Errorf("P2.1: Pair(%x, %x): %x", a, b, got)
			}
			if a != b && sha.Pair(a, b) == sha.Pair(b, a) {
				t.Errorf("P2.1: Pair(%x, %x): the order of the two is lost", a, b)
			}
		}
	}
}

func TestLess(t *testing.T) {
	base := reference([]byte("base"))
	base[0], base[15], base[31] = 100, 100, 100
	for _, at := range []int{0, 15, 31} {
		for _, d := range []byte{1, 28, 155} {
			more := base
			more[at] += d
			if !sha.Less(base, more) || sha.Less(more, base) {
				t.Errorf("P2.1: Less of hashes that part in byte %d, by %d", at, d)
			}
		}
	}
	for _, h := range []api.Hash{{}, base, {0: 255}, {31: 255}} {
		if sha.Less(h, h) {
			t.Errorf("P2.1: Less(h, h) of %x", h)
		}
	}
	if !sha.Less(api.Hash{0: 1, 31: 255}, api.Hash{0: 2}) || sha.Less(api.Hash{0: 2}, api.Hash{0: 1, 31: 255}) {
		t.Error("P2.1: Less: the first byte goes first")
	}
	if !sha.Less(api.Hash{0: 127}, api.Hash{0: 128}) || !sha.Less(api.Hash{}, api.Hash{31: 255}) {
		t.Error("P2.1: Less: bytes have no sign")
	}
}

func TestLessIsByBytes(t *testing.T) {
	var l []api.Hash
	for i := range 60 {
		h := reference([]byte{byte(i)})
		l = append(l, h)
		h[31]++
		l = append(l, h)
		h[16]--
		l = append(l, h)
	}
	for _, a := range l {
		for _, b := range l {
			if sha.Less(a, b) != (string(a[:]) < string(b[:])) {
				t.Errorf("P2.1: Less(%x, %x)", a, b)
			}
		}
	}
}

// backward is h's digits, written by the library.
func backward(h api.Hash) string {
	for i, j := 0, len(h)-1; i < j; i, j = i+1, j-1 {
		h[i], h[j] = h[j], h[i]
	}
	return hex.EncodeToString(h[:])
}

func TestTextAndParse(t *testing.T) {
	l := []api.Hash{{}, {0: 0xab, 31: 1}, {0: 1}, {31: 0xf0}, {15: 0x0f}}
	for i := range 256 {
		var one api.Hash
		one[i%len(one)] = byte(i)
		l = append(l, one, reference([]byte{byte(i)}))
	}
	for _, h := range l {
		text := sha.Text(h)
		if text != backward(h) {
			t.Errorf("P2.1: Text(%x): %s", h, text)
		}
		if back, ok := sha.Parse(text); !ok || back != h {
			t.Errorf("P2.1: Parse(%s): %x, %v", text, back, ok)
		}
	}
	if got := sha.Text(api.Hash{0xab, 31: 1}); got != "01"+strings.Repeat("00", 30)+"ab" {
		t.Errorf("P2.1: Text: %s", got)
	}
}

func TestParseLength(t *testing.T) {
	good := sha.Text(reference([]byte("good")))
	for n := range 200 {
		s := strings.Repeat(good, 4)[:n]
		h, ok := sha.Parse(s)
		if ok != (n == 64) {
			t.Errorf("P2.1: Parse of %d digits: %v", n, ok)
		}
		if !ok && h != (api.Hash{}) {
			t.Errorf("P2.1: Parse of %d digits: %x beside false", n, h)
		}
	}
}

func TestParseWrongSigns(t *testing.T) {
	good := sha.Text(reference([]byte("good")))
	for at := range good {
		for c := range 256 {
			small := c >= '0' && c <= '9' || c >= 'a' && c <= 'f'
			s := good[:at] + string([]byte{byte(c)}) + good[at+1:]
			h, ok := sha.Parse(s)
			if ok != small {
				t.Errorf("P2.1: Parse with byte %#x at %d: %v", c, at, ok)
			}
			if ok && sha.Text(h) != s {
				t.Errorf("P2.1: Parse(%s) is the hash of another text", s)
			}
			if !ok && h != (api.Hash{}) {
				t.Errorf("P2.1: Parse with byte %#x at %d: %x beside false", c, at, h)
			}
		}
	}
	for _, s := range []string{strings.ToUpper(good), " " + good[1:], good[:63] + " ", " " + good, good + "\n", "0x" + good[2:], "0x" + good, strings.Repeat("ä", 32)} {
		if h, ok := sha.Parse(s); ok || h != (api.Hash{}) {
			t.Errorf("P2.1: Parse(%q): %x, %v", s, h, ok)
		}
	}
}

// What is handed in stays as it was, its spare room too, and the same bytes have the same sum each time.
func TestNothingChanges(t *testing.T) {
	for _, n := range edges {
		room := some(n+100, int64(n)+13)
		before := bytes.Clone(room)
		pieces := [][]byte{room[:n/2], nil, room[n/2 : n]}
		want := reference(before[:n])
		for range 2 {
			if sha.Sum(pieces...) != want {
				t.Errorf("P2.1: Sum of %d bytes, again", n)
			}
			sha.Twice(pieces...)
		}
		if !bytes.Equal(room, before) || len(pieces) != 3 || pieces[1] != nil || len(pieces[0])+len(pieces[2]) != n {
			t.Errorf("P2.1: Sum of %d bytes changed what was handed in", n)
		}
	}
}
