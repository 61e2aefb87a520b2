package sha

import (
	"bytes"
	"crypto/sha256"
	"encoding/hex"
	"math/rand"
	"strings"
	"testing"
)

// random is n bytes.
func random(r *rand.Rand, n int) []byte {
	b := make([]byte, n)
	r.Read(b)
	return b
}

// check fails the test if Sum of b is not what the library says.
func check(t *testing.T, b []byte) {
	t.Helper()
	want := sha256.Sum256(b)
	if got := Sum(b); !bytes.Equal(got, want[:]) {
		t.Fatalf("of %d bytes: %x, want %x", len(b), got, want)
	}
}

// P6.1: sums that others have written down: the chapter's example, FIPS 180-4's
// of one block, of two, and of a million bytes, and some around a block's end.
func TestKnown(t *testing.T) {
	for _, c := range []struct{ text, want string }{
		{"", "e3b0c44298fc1c149afbf4c8996fb92427ae41e4649b934ca495991b7852b855"},
		{"a", "ca978112ca1bbdcafac231b39a23dc4da786eff8147c4e72b9807785afee48bb"},
		{"abc", "ba7816bf8f01cfea414140de5dae2223b00361a396177a9cb410ff61f20015ad"},
		{
			"abcdbcdecdefdefgefghfghighijhijkijkljklmklmnlmnomnopnopq",
			"248d6a61d20638b8e5c026930c3e6039a33ce45964ff2167f6ecedd419db06c1",
		},
		{
			"abcdefghbcdefghicdefghijdefghijkefghijklfghijklmghijklmnhijklmnoijklmnopjklmnopqklmnopqrlmnopqrsmnopqrstnopqrstu",
			"cf5b16a778af8380036ce59e7b0492370b249b11e8f07a51afac45037afee9d1",
		},
		{strings.Repeat("a", 1000000), "cdc76e5c9914fb9281a1c7e284d73e67f1809a48a497200e046d39ccc7112cd0"},
		{strings.Repeat("\x00", 55), "02779466cdec163811d078815c633f21901413081449002f24aa3e80f0b88ef7"},
		{strings.Repeat("\x00", 56), "d4817aa5497628e7c77e6b606107042bbba3130888c5f47a375e6179be789fbb"},
		{strings.Repeat("\x00", 64), "f5a5fd42d16a20302798ef6ed309979b43003d2320d9f0e8ea9831a92759fb4b"},
	} {
		if got := hex.EncodeToString(Sum([]byte(c.text))); got != c.want {
			t.Errorf("of %d bytes: %s, want %s", len(c.text), got, c.want)
		}
	}
}

// P6.1: every length through some blocks' ends, of bytes of any kind, of
// noughts, of ones, and of the very bytes that come behind the last one.
func TestLengths(t *testing.T) {
	r := rand.New(rand.NewSource(1))
	for n := range 4*blockSize + 2 {
		for range 4 {
			check(t, random(r, n))
		}
		for _, x := range []byte{0, 1, 127, 128, 255} {
			check(t, bytes.Repeat([]byte{x}, n))
		}
	}
}

// P6.1: greater lengths, around the ends of blocks: those whose bits need a
// second byte to be told, and a third, among them.
func TestGreatLengths(t *testing.T) {
	r := rand.New(rand.NewSource(2))
	for _, n := range []int{1 << 10, 1 << 13, 1 << 16, 1 << 20} {
		for _, off := range []int{-64, -9, -8, -1, 0, 1, 55, 56, 63} {
			check(t, random(r, n+off))
		}
	}
	for range 200 {
		check(t, random(r, r.Intn(5000)))
	}
}

// P6.1: a length whose bits need more than 32 bits to be told.
func TestLengthBeyondWord(t *testing.T) {
	if testing.Short() {
		t.Skip("takes some seconds")
	}
	b := make([]byte, 1<<29+3)
	b[5], b[1<<29], b[1<<29+2] = 1, 2, 3
	check(t, b)
}

// P6.1: each byte of the input counts, and each bit of it.
func TestEachBitCounts(t *testing.T) {
	r := rand.New(rand.NewSource(3))
	b := random(r, 2*blockSize+17)
	seen := map[string]int{string(Sum(b)): -1}
	for i := range 8 * len(b) {
		b[i/8] ^= 1 << (i % 8)
		check(t, b)
		sum := string(Sum(b))
		if at, ok := seen[sum]; ok {
			t.Fatalf("bits %d and %d: the same sum", at, i)
		}
		seen[sum] = i
		b[i/8] ^= 1 << (i % 8)
	}
}

// P6.1: what comes behind the last byte, by the chapter's words, for each
// rest of a block, with lengths at the ends of each of its eight bytes.
func TestEnding(t *testing.T) {
	r := rand.New(rand.NewSource(4))
	for n := range blockSize {
		rest := random(r, n)
		for _, blocks := range []uint64{0, 1, 1 << 2, 1 << 10, 1 << 18, 1 << 23, 1<<25 - 1, 1 << 26, 1 << 50} {
			size := blocks*blockSize + uint64(n)
			want := append(bytes.Clone(rest), 128)
			for len(want)%64 != 56 {
				want = append(want, 0)
			}
			for shift := 56; shift >= 0; shift -= 8 {
				want = append(want, byte(8*size>>shift))
			}
			if got := ending(rest, size); !bytes.Equal(got, want) {
				t.Fatalf("of %d bytes, %d in all: %x, want %x", n, size, got, want)
			}
		}
	}
}

// R1: nil is as good as empty.
func TestNil(t *testing.T) {
	if !bytes.Equal(Sum(nil), Sum([]byte{})) || len(Sum(nil)) != 32 {
		t.Errorf("of nil %x, of none %x", Sum(nil), Sum([]byte{}))
	}
}

// R4: b is not changed, nor the spare room of it, which counts for nothing;
// what is answered shares no memory with it, nor with another answer.
func TestMemory(t *testing.T) {
	r := rand.New(rand.NewSource(5))
	for n := range 3 * blockSize {
		room := random(r, n+200)
		was := bytes.Clone(room)
		want := sha256.Sum256(was[:n])
		first, second := Sum(room[:n]), Sum(room[:n])
		if !bytes.Equal(room, was) {
			t.Fatalf("of %d bytes: what is handed in is changed", n)
		}
		first = first[:cap(first)]
		clear(first)
		if !bytes.Equal(second, want[:]) {
			t.Fatalf("of %d bytes: %x, want %x", n, second, want)
		}
		clear(second[:cap(second)])
		if !bytes.Equal(room, was) {
			t.Fatalf("of %d bytes: the answer shares memory with what is handed in", n)
		}
		check(t, room[:n])
	}
}

// R5: nothing is kept: the same bytes have the same sum, whatever came between.
func TestSameAnswers(t *testing.T) {
	r := rand.New(rand.NewSource(6))
	b := random(r, 100)
	want := Sum(b)
	for n := range 150 {
		Sum(random(r, n))
		if got := Sum(b); !bytes.Equal(got, want) {
			t.Fatalf("%x, and later %x", want, got)
		}
	}
}
