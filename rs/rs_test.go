package rs

import (
	"bytes"
	"math"
	"math/rand"
	"testing"

	"shamrock/gf"
)

// product is that of two bytes, by chapter 1's words.
func product(a, b byte) byte {
	p := byte(0)
	for ; b > 0; b >>= 1 {
		if b&1 == 1 {
			p ^= a
		}
		high := a & 0x80
		a <<= 1
		if high != 0 {
			a ^= 0x1b
		}
	}
	return p
}

// slowValues is p's values at xs, each power by as many products.
func slowValues(p, xs []byte) []byte {
	var ys []byte
	for _, x := range xs {
		sum, power := byte(0), byte(1)
		for _, c := range p {
			sum ^= product(c, power)
			power = product(power, x)
		}
		ys = append(ys, sum)
	}
	return ys
}

// bare is p without noughts at its end.
func bare(p []byte) []byte {
	return bytes.TrimRight(p, "\x00")
}

// random is a polynomial of n bytes, some of them 0, and at times its last.
func random(r *rand.Rand, n int) []byte {
	p := make([]byte, n)
	for i := range p {
		if r.Intn(4) > 0 {
			p[i] = byte(r.Intn(256))
		}
	}
	return p
}

// ofDegree is a polynomial whose Degree is d.
func ofDegree(r *rand.Rand, d int) []byte {
	return append(random(r, d), byte(1+r.Intn(255)))
}

// someXs is n bytes, no two the same.
func someXs(r *rand.Rand, n int) []byte {
	xs := make([]byte, n)
	for i, x := range r.Perm(256)[:n] {
		xs[i] = byte(x)
	}
	return xs
}

// check fails the test if Decode does not answer just p and true.
func check(t *testing.T, f *gf.Field, xs, ys []byte, d int, p []byte) {
	t.Helper()
	got, ok := Decode(f, xs, ys, d)
	if !ok || !bytes.Equal(got, p) {
		t.Fatalf("Decode(%v, %v, %d) = %v, %t, want %v, true", xs, ys, d, got, ok, p)
	}
}

// checkNone fails the test if Decode does not answer nothing and false.
func checkNone(t *testing.T, f *gf.Field, xs, ys []byte, d int) {
	t.Helper()
	got, ok := Decode(f, xs, ys, d)
	if ok || len(got) != 0 {
		t.Fatalf("Decode(%v, %v, %d) = %v, %t, want nothing and false", xs, ys, d, got, ok)
	}
}

// P4.1: no polynomial, no bytes, noughts at the end, bytes that come twice.
func TestEncodeEdges(t *testing.T) {
	f := gf.New()
	for _, c := range []struct{ p, xs, ys []byte }{
		{nil, nil, nil},
		{[]byte{}, []byte{}, nil},
		{[]byte{9, 1}, nil, nil},
		{nil, []byte{0, 1, 255}, []byte{0, 0, 0}},
		{[]byte{0, 0}, []byte{0, 1, 255}, []byte{0, 0, 0}},
		{[]byte{7}, []byte{0, 1, 255}, []byte{7, 7, 7}},
		{[]byte{9, 1}, []byte{1, 2, 3, 4}, []byte{8, 11, 10, 13}},
		{[]byte{9, 1, 0, 0}, []byte{4, 3, 2, 1}, []byte{13, 10, 11, 8}},
		{[]byte{9, 1}, []byte{0, 4, 0, 4}, []byte{9, 13, 9, 13}},
	} {
		if ys := Encode(f, c.p, c.xs); !bytes.Equal(ys, c.ys) {
			t.Errorf("Encode(%v, %v) = %v, want %v", c.p, c.xs, ys, c.ys)
		}
	}
}

// P4.1: any polynomials at any bytes, more of both than the field has.
func TestEncode(t *testing.T) {
	f := gf.New()
	r := rand.New(rand.NewSource(1))
	for _, n := range []int{1, 2, 3, 10, 255, 256, 257, 600} {
		for range 20 {
			p, xs := random(r, r.Intn(n+1)), random(r, n)
			if ys, want := Encode(f, p, xs), slowValues(p, xs); !bytes.Equal(ys, want) {
				t.Fatalf("Encode(%v, %v) = %v, want %v", p, xs, ys, want)
			}
		}
	}
}

// P4.2: the chapter's examples, and what it says of few values.
func TestDecodeExamples(t *testing.T) {
	f := gf.New()
	check(t, f, []byte{1, 2, 3}, []byte{5, 5, 5}, 0, []byte{5})
	checkNone(t, f, []byte{1, 2, 3}, []byte{5, 5, 6}, 0)
	check(t, f, []byte{1, 2, 3}, []byte{5, 5, 5}, 2, []byte{5})
	check(t, f, []byte{0}, []byte{0}, 0, nil)
	check(t, f, []byte{255}, []byte{9}, 0, []byte{9})
	check(t, f, []byte{4, 0, 9}, []byte{0, 0, 0}, 1, nil)
	check(t, f, []byte{0, 255}, []byte{0, 255}, 1, []byte{0, 1})
	checkNone(t, f, []byte{0, 255}, []byte{0, 255}, 0)
}

// P4.2: d 0 by all pairs of values; d 1 by all its polynomials at three
// places, and a value that is turned.
func TestDecodeSmall(t *testing.T) {
	f := gf.New()
	for _, xs := range [][]byte{{0, 1}, {255, 7}} {
		for y := range 1 << 16 {
			ys := []byte{byte(y), byte(y >> 8)}
			if ys[0] == ys[1] {
				check(t, f, xs, ys, 0, bare(ys[:1]))
			} else {
				checkNone(t, f, xs, ys, 0)
			}
		}
	}
	xs := []byte{3, 200, 0}
	for c := range 1 << 16 {
		p := []byte{byte(c), byte(c >> 8)}
		ys := slowValues(p, xs)
		check(t, f, xs, ys, 1, bare(p))
		ys[c%3] ^= byte(1 + c%255)
		checkNone(t, f, xs, ys, 1)
	}
}

// P4.2: a polynomial comes back from its values, by every d from its Degree
// on to one less than their number, and by no other.
func TestDecodeEveryD(t *testing.T) {
	f := gf.New()
	r := rand.New(rand.NewSource(2))
	for _, n := range []int{1, 2, 3, 4, 5, 8, 17, 40} {
		for degree := -1; degree < n; degree++ {
			var p []byte
			if degree >= 0 {
				p = ofDegree(r, degree)
			}
			xs := someXs(r, n)
			ys := slowValues(p, xs)
			for d := -2; d <= n+2; d++ {
				if d >= 0 && d >= degree && d < n {
					check(t, f, xs, ys, d, p)
				} else {
					checkNone(t, f, xs, ys, d)
				}
			}
		}
	}
}

// P4.2: one wrong value at whichever place is seen, if there are more values
// than d + 1; with just d + 1, each value is some polynomial's.
func TestDecodeWrongValue(t *testing.T) {
	f := gf.New()
	r := rand.New(rand.NewSource(3))
	for _, n := range []int{2, 3, 5, 9, 30} {
		for d := range n {
			xs := someXs(r, n)
			for i := range n {
				ys := slowValues(random(r, d+1), xs)
				ys[i] ^= byte(1 + r.Intn(255))
				if d < n-1 {
					checkNone(t, f, xs, ys, d)
					continue
				}
				p, ok := Decode(f, xs, ys, d)
				if !ok || len(p) > n || !bytes.Equal(p, bare(p)) || !bytes.Equal(slowValues(p, xs), ys) {
					t.Fatalf("Decode(%v, %v, %d) = %v, %t", xs, ys, d, p, ok)
				}
			}
		}
	}
}

// P4.2: values at all bytes of the field, and at all but one.
func TestDecodeWhole(t *testing.T) {
	f := gf.New()
	r := rand.New(rand.NewSource(4))
	for _, n := range []int{255, 256} {
		for _, degree := range []int{0, 1, 100, n - 2, n - 1} {
			p, xs := ofDegree(r, degree), someXs(r, n)
			ys := slowValues(p, xs)
			check(t, f, xs, ys, degree, p)
			check(t, f, xs, ys, n-1, p)
			checkNone(t, f, xs, ys, degree-1)
			checkNone(t, f, xs, ys, n)
			if degree < n-1 {
				ys[r.Intn(n)] ^= 1
				checkNone(t, f, xs, ys, degree)
			}
		}
	}
}

// P4.2: other lengths, bytes that are there twice, with one value or two,
// d at its ends, too few, none, and more than there are bytes.
func TestDecodeRefuses(t *testing.T) {
	f := gf.New()
	r := rand.New(rand.NewSource(5))
	all := someXs(r, 256)
	for _, c := range []struct {
		xs, ys []byte
		d      int
	}{
		{nil, nil, 0},
		{[]byte{}, []byte{}, 0},
		{nil, nil, -1},
		{nil, nil, math.MinInt},
		{nil, nil, math.MaxInt},
		{[]byte{1}, nil, 0},
		{nil, []byte{1}, 0},
		{[]byte{1, 2}, []byte{5, 5, 5}, 0},
		{[]byte{1, 2, 3}, []byte{5, 5}, 0},
		{[]byte{1, 1}, []byte{5, 5}, 0},
		{[]byte{1, 1}, []byte{5, 6}, 1},
		{[]byte{0, 3, 0}, []byte{0, 0, 0}, 0},
		{[]byte{255, 3, 4, 255}, []byte{7, 7, 7, 7}, 1},
		{[]byte{1, 2}, []byte{5, 5}, -1},
		{[]byte{1, 2}, []byte{0, 0}, -1},
		{[]byte{1, 2}, []byte{5, 5}, math.MinInt},
		{[]byte{1, 2}, []byte{5, 5}, 2},
		{[]byte{1, 2}, []byte{5, 5}, math.MaxInt},
		{append(bytes.Clone(all), 77), make([]byte, 257), 0},
		{append(bytes.Clone(all), 77), make([]byte, 257), 256},
		{make([]byte, 100000), make([]byte, 100000), 3},
	} {
		checkNone(t, f, c.xs, c.ys, c.d)
	}
}

// roomy is p in a list with spare room, and that room, whole.
func roomy(p []byte) (list, room []byte) {
	room = append(bytes.Clone(p), bytes.Repeat([]byte{0xa5}, 600)...)
	return room[:len(p)], room
}

// spoil fills an answer and its spare room with what no answer has.
func spoil(a []byte) {
	a = a[:cap(a)]
	for i := range a {
		a[i] = 0x5a
	}
}

// R4: no call changes what it is given, nor the spare room of it; what is
// answered, its spare room included, shares no memory with that, nor with
// another answer.
func TestMemory(t *testing.T) {
	f := gf.New()
	r := rand.New(rand.NewSource(6))
	for n := 1; n < 12; n++ {
		p, pRoom := roomy(ofDegree(r, n-1))
		xs, xsRoom := roomy(someXs(r, n))
		ys, ysRoom := roomy(slowValues(p, xs))
		was := bytes.Join([][]byte{pRoom, xsRoom, ysRoom}, nil)
		values, others := Encode(f, p, xs), Encode(f, p, xs)
		back, _ := Decode(f, xs, ys, n-1)
		again, _ := Decode(f, xs, ys, n-1)
		Decode(f, xs, ys, n-2)
		Decode(f, xs, ys, n)
		spoil(values)
		spoil(back)
		if !bytes.Equal(others, ys) || !bytes.Equal(again, p) {
			t.Fatalf("of %v at %v: two answers share memory", p, xs)
		}
		spoil(others)
		spoil(again)
		if !bytes.Equal(bytes.Join([][]byte{pRoom, xsRoom, ysRoom}, nil), was) {
			t.Fatal("a call changes, or answers, what it is given")
		}
	}
	// One list as both: its values at itself, and the polynomial x.
	xs, room := roomy([]byte{2, 1, 9})
	was := bytes.Clone(room)
	spoil(Encode(f, xs, xs))
	check(t, f, xs, xs, 1, []byte{0, 1})
	if !bytes.Equal(room, was) {
		t.Error("a call changes, or answers, a list that it is given twice")
	}
}

// R5: the same calls have the same answers, by any field that New made.
func TestSameAnswers(t *testing.T) {
	r := rand.New(rand.NewSource(7))
	p, xs := ofDegree(r, 20), someXs(r, 50)
	first := Encode(gf.New(), p, xs)
	for range 3 {
		if ys := Encode(gf.New(), p, xs); !bytes.Equal(ys, first) {
			t.Fatalf("Encode = %v, then %v", first, ys)
		}
		check(t, gf.New(), xs, first, 20, p)
	}
}
