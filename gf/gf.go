// Package gf is layer 1: the field of 256 elements. See shared/doc/01-gf.md.
package gf

const (
	// order is how many elements have an inverse: the exponents of the
	// generator go round after that many.
	order = 255
	// reduction is what is left of x^8, less x^8 + x^4 + x^3 + x + 1.
	reduction = 0x1b
)

// Field is the field, by the powers of one generator: products of elements
// are sums of exponents.
type Field struct {
	exp [order]byte // by exponent
	log [256]int    // by element; that of 0 means nothing
}

// New makes the field.
func New() *Field {
	f := &Field{}
	for i, p := range powers {
		f.exp[i] = p
		f.log[p] = i
	}
	return f
}

// powers tells each exponent below order, and that power of x + 1, which is
// a generator (x is none: its powers are but 51 elements).
func powers(yield func(int, byte) bool) {
	p := byte(1)
	for i := range order {
		if !yield(i, p) {
			return
		}
		p ^= double(p)
	}
}

// double is x times a.
func double(a byte) byte {
	if a&0x80 != 0 {
		return a<<1 ^ reduction
	}
	return a << 1
}

// Mul is the product of a and b.
func (f *Field) Mul(a, b byte) byte {
	if a == 0 || b == 0 {
		return 0
	}
	return f.exp[(f.log[a]+f.log[b])%order]
}

// Inv is the inverse of a; false, if a is 0.
func (f *Field) Inv(a byte) (byte, bool) {
	return f.Div(1, a)
}

// Div is a times the inverse of b; false, if b is 0.
func (f *Field) Div(a, b byte) (byte, bool) {
	if b == 0 {
		return 0, false
	}
	if a == 0 {
		return 0, true
	}
	return f.exp[(f.log[a]+order-f.log[b])%order], true
}

// Pow is a to the power n, which may be below 0; of 0 then 0.
func (f *Field) Pow(a byte, n int) byte {
	if n == 0 {
		return 1
	}
	if a == 0 {
		return 0
	}
	// Taking the remainder first keeps the product small and n's lower end
	// away from a change of sign.
	e := n % order
	if e < 0 {
		e += order
	}
	return f.exp[f.log[a]*e%order]
}
