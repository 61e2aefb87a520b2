package mac

import (
	"bytes"
	"crypto/hmac"
	"crypto/sha256"
	"encoding/hex"
	"math/rand"
	"shamrock/sha"
	"strings"
	"testing"
)

// random is n bytes.
func random(r *rand.Rand, n int) []byte {
	b := make([]byte, n)
	r.Read(b)
	return b
}

// library is what the library says that Mac of b by key is.
func library(key, b []byte) []byte {
	h := hmac.New(sha256.New, key)
	h.Write(b)
	return h.Sum(nil)
}

// check fails the test if Mac of b by key is not what the library says.
func check(t *testing.T, key, b []byte) {
	t.Helper()
	if got, want := Mac(key, b), library(key, b); !bytes.Equal(got, want) {
		t.Fatalf("of %d bytes by %d: %x, want %x", len(b), len(key), got, want)
	}
}

// P7.1: tags that others have written down: the chapter's example, and those of
// RFC 4231 (the fifth is told there by its first 16 bytes alone).
func TestKnown(t *testing.T) {
	counted := make([]byte, 25)
	for i := range counted {
		counted[i] = byte(i + 1)
	}
	for _, c := range []struct{ key, text, want string }{
		{"", "", "b613679a0814d9ec772f95d778c35fc5ff1697c493715653c6c712144292c5ad"},
		{"key", "The quick brown fox jumps over the lazy dog", "f7bc83f430538424b13298e6aa6fb143ef4d59a14946175997479dbc2d1a3cd8"},
		{strings.Repeat("\x0b", 20), "Hi There", "b0344c61d8db38535ca8afceaf0bf12b881dc200c9833da726e9376c2e32cff7"},
		{"Jefe", "what do ya want for nothing?", "5bdcc146bf60754e6a042426089575c75a003f089d2739839dec58b964ec3843"},
		{strings.Repeat("\xaa", 20), strings.Repeat("\xdd", 50), "773ea91e36800e46854db8ebd09181a72959098b3ef8c122d9635514ced565fe"},
		{string(counted), strings.Repeat("\xcd", 50), "82558a389a443c0ea4cc819899f2083a85f0faa3e578f8077a2e3ff46729665b"},
		{strings.Repeat("\x0c", 20), "Test With Truncation", "a3b6167473100ee06e0c796c2955552b"},
		{
			strings.Repeat("\xaa", 131), "Test Using Larger Than Block-Size Key - Hash Key First",
			"60e431591ee0b67f0d8a26aacbf5b77f8e0bc6213728c5140546040f0ee37f54",
		},
		{
			strings.Repeat("\xaa", 131),
			"This is a test using a larger than block-size key and a larger than block-size data. The key needs to be hashed before being used by the HMAC algorithm.",
			"9b09ffa71b942fcb27635fbcd5b0e944bfdc63644f0713938a7f51535c3a35e2",
		},
	} {
		got := hex.EncodeToString(Mac([]byte(c.key), []byte(c.text)))
		if len(got) != 64 || !strings.HasPrefix(got, c.want) {
			t.Errorf("%q by %q: %s, want %s", c.text, c.key, got, c.want)
		}
	}
}

// P7.1: every length of keys through two blocks, with texts of every length
// around a block's end, and of any kind of bytes: those that xor to 0 among them.
func TestLengths(t *testing.T) {
	r := rand.New(rand.NewSource(1))
	for n := range 2*blockSize + 3 {
		for _, m := range []int{0, 1, 31, 32, 55, 56, 63, 64, 65, 119, 120, 128} {
			check(t, random(r, n), random(r, m))
		}
		for _, x := range []byte{0, 54, 92, 128, 255} {
			check(t, bytes.Repeat([]byte{x}, n), bytes.Repeat([]byte{x}, n))
		}
	}
	for m := range 3 * blockSize {
		check(t, random(r, 32), random(r, m))
	}
	for range 200 {
		check(t, random(r, r.Intn(3000)), random(r, r.Intn(3000)))
	}
}

// P7.1: a key of 64 bytes is itself, one of 65 its sum; noughts behind a key
// that is shorter than a block change nothing, and those behind a block do.
func TestKeyEdges(t *testing.T) {
	r := rand.New(rand.NewSource(2))
	key, text := random(r, blockSize+1), random(r, 40)
	if !bytes.Equal(Mac(key, text), Mac(sha.Sum(key), text)) {
		t.Error("a key of 65 bytes: not by its sum")
	}
	if bytes.Equal(Mac(key[:blockSize], text), Mac(sha.Sum(key[:blockSize]), text)) {
		t.Error("a key of 64 bytes: by its sum")
	}
	for n := range blockSize {
		filled := make([]byte, blockSize+1)
		copy(filled, key[:n])
		if want := Mac(key[:n], text); !bytes.Equal(Mac(filled[:blockSize], text), want) || bytes.Equal(Mac(filled, text), want) {
			t.Errorf("a key of %d bytes: not filled up to 64", n)
		}
	}
}

// P7.1: each bit of the key counts, and each of the text.
func TestEachBitCounts(t *testing.T) {
	r := rand.New(rand.NewSource(3))
	for _, n := range []int{20, blockSize, blockSize + 20} {
		key, text := random(r, n), random(r, 70)
		seen := map[string]int{string(Mac(key, text)): -1}
		for i := range 8 * (len(key) + len(text)) {
			at, b := i/8, key
			if at >= len(key) {
				at, b = at-len(key), text
			}
			b[at] ^= 1 << (i % 8)
			check(t, key, text)
			tag := string(Mac(key, text))
			if was, ok := seen[tag]; ok {
				t.Fatalf("bits %d and %d: the same tag", was, i)
			}
			seen[tag] = i
			b[at] ^= 1 << (i % 8)
		}
	}
}

// P7.2: bytes are the same as themselves and their copies, of whatever length.
func TestSameOfSame(t *testing.T) {
	r := rand.New(rand.NewSource(4))
	for n := range 200 {
		b := random(r, n)
		if !Same(b, b) || !Same(b, bytes.Clone(b)) {
			t.Fatalf("%d bytes are not the same as themselves", n)
		}
	}
	for x := range 256 {
		for y := range 256 {
			if Same([]byte{byte(x)}, []byte{byte(y)}) != (x == y) {
				t.Fatalf("%d and %d", x, y)
			}
		}
	}
}

// P7.2: bytes that differ in one bit, at whichever place, are not the same; nor
// are those of which two or all differ, by what would weigh out in a sum.
func TestSameOfUnlike(t *testing.T) {
	r := rand.New(rand.NewSource(5))
	for _, n := range []int{1, 2, 31, 32, 33, 64} {
		a := random(r, n)
		for i := range 8 * n {
			b := bytes.Clone(a)
			b[i/8] ^= 1 << (i % 8)
			if Same(a, b) || Same(b, a) {
				t.Fatalf("%d bytes, bit %d unlike: the same", n, i)
			}
		}
		for x := 1; x < 256; x++ {
			b := bytes.Clone(a)
			for i := range b {
				b[i] ^= byte(x)
			}
			if Same(a, b) {
				t.Fatalf("%d bytes, all unlike by %d: the same", n, x)
			}
		}
		for i := range n {
			for j := range i {
				b := bytes.Clone(a)
				b[i], b[j] = b[i]^128, b[j]^128
				if Same(a, b) {
					t.Fatalf("%d bytes, %d and %d unlike: the same", n, i, j)
				}
			}
		}
	}
	if Same([]byte{1, 2}, []byte{2, 1}) {
		t.Error("in another order: the same")
	}
}

// P7.2: what begins, or ends, as the other is not the same as it, noughts behind
// it included.
func TestSameOfLengths(t *testing.T) {
	r := rand.New(rand.NewSource(6))
	whole := append(random(r, 70), make([]byte, 70)...)
	for n := range len(whole) {
		for m := range len(whole) {
			if Same(whole[:n], whole[:m]) != (n == m) {
				t.Fatalf("the first %d, and %d, bytes", n, m)
			}
		}
		if n > 0 && (Same(whole, whole[n:]) || Same(whole[n:], whole)) {
			t.Fatalf("all but the first %d bytes", n)
		}
	}
	long := make([]byte, 300)
	if Same(long, long[:300-256]) || Same(long[:256], nil) {
		t.Error("lengths that differ by 256: the same")
	}
}

// R1, R4: nil is as good as empty.
func TestNil(t *testing.T) {
	if !Same(nil, nil) || !Same(nil, []byte{}) || !Same([]byte{}, nil) || !Same([]byte{}, []byte{}) {
		t.Error("nothing is not the same as nothing")
	}
	if Same(nil, []byte{0}) || Same([]byte{0}, nil) {
		t.Error("a nought is the same as nothing")
	}
	text := []byte("text")
	if !bytes.Equal(Mac(nil, text), Mac([]byte{}, text)) || !bytes.Equal(Mac(text, nil), Mac(text, []byte{})) {
		t.Error("nil is not as empty")
	}
	check(t, nil, nil)
}

// R4: neither key nor text is changed, nor the spare room of either, which
// counts for nothing; what is answered shares no memory with them, nor with
// another answer. The two may be pieces of one another.
func TestMemory(t *testing.T) {
	r := rand.New(rand.NewSource(7))
	for n := range 3 * blockSize {
		for _, m := range []int{0, 1, 40, 64, 100} {
			keyRoom, textRoom := random(r, n+200), random(r, m+200)
			wasKey, wasText := bytes.Clone(keyRoom), bytes.Clone(textRoom)
			want := library(wasKey[:n], wasText[:m])
			first, second := Mac(keyRoom[:n], textRoom[:m]), Mac(keyRoom[:n], textRoom[:m])
			clear(first[:cap(first)])
			if !bytes.Equal(second, want) {
				t.Fatalf("%d by %d bytes: %x, want %x", m, n, second, want)
			}
			clear(second[:cap(second)])
			Same(keyRoom[:n], textRoom[:n])
			if !bytes.Equal(keyRoom, wasKey) || !bytes.Equal(textRoom, wasText) {
				t.Fatalf("%d by %d bytes: what is handed in is changed", m, n)
			}
			check(t, keyRoom[:n], keyRoom[n/2:n+100])
			check(t, keyRoom[n:n+100], keyRoom[:n])
		}
	}
}

// R5: nothing is kept: the same bytes have the same tag, whatever came between.
func TestSameAnswers(t *testing.T) {
	r := rand.New(rand.NewSource(8))
	key, text := random(r, 40), random(r, 100)
	want := Mac(key, text)
	for n := range 150 {
		Mac(random(r, n), random(r, n))
		if got := Mac(key, text); !Same(got, want) || Same(got, random(r, 32)) {
			t.Fatalf("%x, and later %x", want, got)
		}
	}
}
