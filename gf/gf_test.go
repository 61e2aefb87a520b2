package gf

import (
	"math"
	"testing"
	"time"
)

// product works by the chapter's words alone: the product of two polynomials
// over the bits, less multiples of x^8 + x^4 + x^3 + x + 1.
func product(a, b byte) byte {
	p := 0
	for i := 0; i < 8; i++ {
		if b>>i&1 == 1 {
			p ^= int(a) << i
		}
	}
	for i := 14; i >= 8; i-- {
		if p>>i&1 == 1 {
			p ^= 0x11b << (i - 8)
		}
	}
	return byte(p)
}

// inverse looks for it among all bytes; 0, if there is none.
func inverse(a byte) byte {
	for b := 0; b < 256; b++ {
		if product(a, byte(b)) == 1 {
			return byte(b)
		}
	}
	return 0
}

// power is a times itself, n factors, by squares.
func power(a byte, n uint64) byte {
	p := byte(1)
	for ; n > 0; n >>= 1 {
		if n&1 == 1 {
			p = product(p, a)
		}
		a = product(a, a)
	}
	return p
}

// signedPower is what P1.2 says of any n.
func signedPower(a byte, n int) byte {
	if n >= 0 {
		return power(a, uint64(n))
	}
	return inverse(power(a, -uint64(n)))
}

// ends fails the test if do does not end soon.
func ends(t *testing.T, do func()) {
	t.Helper()
	done := make(chan bool)
	go func() {
		defer close(done)
		do()
	}()
	select {
	case <-done:
	case <-time.After(time.Minute):
		t.Fatal("a call does not end")
	}
}

// P1.1, the chapter's examples.
func TestMulExamples(t *testing.T) {
	f := New()
	if p := f.Mul(2, 128); p != 27 {
		t.Errorf("Mul(2, 128) = %d, want 27", p)
	}
	if p := f.Mul(83, 202); p != 1 {
		t.Errorf("Mul(83, 202) = %d, want 1", p)
	}
}

// P1.1, Mul: all pairs.
func TestMul(t *testing.T) {
	f := New()
	for a := 0; a < 256; a++ {
		for b := 0; b < 256; b++ {
			if p, want := f.Mul(byte(a), byte(b)), product(byte(a), byte(b)); p != want {
				t.Fatalf("Mul(%d, %d) = %d, want %d", a, b, p, want)
			}
		}
	}
}

// P1.1, Inv: all bytes, 0 with them.
func TestInv(t *testing.T) {
	f := New()
	for a := 0; a < 256; a++ {
		i, ok := f.Inv(byte(a))
		if want := inverse(byte(a)); i != want || ok != (a != 0) {
			t.Errorf("Inv(%d) = %d, %t, want %d, %t", a, i, ok, want, a != 0)
		}
	}
}

// P1.1, Div: all pairs; by 0 nothing but 0 and false, 0 by another true.
func TestDiv(t *testing.T) {
	f := New()
	for b := 0; b < 256; b++ {
		i := inverse(byte(b))
		for a := 0; a < 256; a++ {
			q, ok := f.Div(byte(a), byte(b))
			if want := product(byte(a), i); q != want || ok != (b != 0) {
				t.Fatalf("Div(%d, %d) = %d, %t, want %d, %t", a, b, q, ok, want, b != 0)
			}
		}
	}
}

// P1.2, n at 0: 1, of 0 too.
func TestPowZeroFactors(t *testing.T) {
	f := New()
	for a := 0; a < 256; a++ {
		if p := f.Pow(byte(a), 0); p != 1 {
			t.Errorf("Pow(%d, 0) = %d, want 1", a, p)
		}
	}
}

// P1.2, 0 to any power but 0.
func TestPowOfZero(t *testing.T) {
	f := New()
	for _, n := range []int{1, 2, 254, 255, 256, 510, math.MaxInt, -1, -2, -254, -255, -256, -510, math.MinInt} {
		if p := f.Pow(0, n); p != 0 {
			t.Errorf("Pow(0, %d) = %d, want 0", n, p)
		}
	}
}

// P1.2, n factors one by one, and their inverses, past where powers go round.
func TestPow(t *testing.T) {
	f := New()
	for a := 0; a < 256; a++ {
		p := byte(1)
		for n := 1; n <= 1100; n++ {
			p = product(p, byte(a))
			if got := f.Pow(byte(a), n); got != p {
				t.Fatalf("Pow(%d, %d) = %d, want %d", a, n, got, p)
			}
			got := f.Pow(byte(a), -n)
			if a == 0 && got != 0 || a != 0 && product(got, p) != 1 {
				t.Fatalf("Pow(%d, %d) = %d, no inverse of %d", a, -n, got, p)
			}
		}
	}
}

// P1.2 and R7: the ends of int, and of smaller kinds, of all bytes.
func TestPowAtEnds(t *testing.T) {
	f := New()
	var near []int
	for d := 0; d < 300; d++ {
		near = append(near, math.MaxInt-d, math.MinInt+d)
	}
	for _, n := range []int{math.MaxInt8, math.MaxInt16, math.MaxInt32, math.MinInt8, math.MinInt16, math.MinInt32} {
		near = append(near, n-1, n, -n)
	}
	ends(t, func() {
		for a := 0; a < 256; a++ {
			for _, n := range near {
				if p, want := f.Pow(byte(a), n), signedPower(byte(a), n); p != want {
					t.Errorf("Pow(%d, %d) = %d, want %d", a, n, p, want)
					return
				}
			}
		}
	})
}

// The powers are all elements but 0, once each, and stop when they are told.
func TestPowers(t *testing.T) {
	seen := map[byte]int{}
	for i, p := range powers {
		if want := power(3, uint64(i)); p != want {
			t.Errorf("power %d is %d, want %d", i, p, want)
		}
		seen[p]++
	}
	if len(seen) != order || seen[0] != 0 {
		t.Errorf("%d powers, 0 %d times", len(seen), seen[0])
	}
	n := 0
	for range powers {
		n++
		if n == 3 {
			break
		}
	}
	if n != 3 {
		t.Errorf("%d powers behind a break at 3", n)
	}
}

// R4 and R5: fields are apart, answer alike, and no call changes one.
func TestFieldsAreApart(t *testing.T) {
	f, g := New(), New()
	if f == g {
		t.Fatal("one field twice")
	}
	before := *g
	g.Mul(7, 9)
	g.Inv(0)
	g.Div(5, 0)
	g.Div(200, 3)
	g.Pow(0, -1)
	g.Pow(255, math.MinInt)
	if *g != before || *f != *g || *New() != before {
		t.Error("a call has changed a field")
	}
	*g = Field{}
	if p := f.Mul(2, 128); p != 27 {
		t.Errorf("Mul(2, 128) = %d behind another field's end, want 27", p)
	}
}
