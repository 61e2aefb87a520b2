package poly

import (
	"bytes"
	"math/rand"
	"testing"

	"shamrock/gf"
)

// product is that of two bytes, by chapter 1's words.
func product(a, b byte) byte {
	p := byte(0)
	for ; b > 0; b >>= 1 {
		if b&1 == 1 {
			p ^= a
		}
		high := a & 0x80
		a <<= 1
		if high != 0 {
			a ^= 0x1b
		}
	}
	return p
}

// slowMul is the product of two polynomials, with noughts at its end or not.
func slowMul(p, q []byte) []byte {
	out := make([]byte, len(p)+len(q))
	for i, a := range p {
		for j, b := range q {
			out[i+j] ^= product(a, b)
		}
	}
	return out
}

// slowAdd is the sum of two polynomials, with noughts at its end or not.
func slowAdd(p, q []byte) []byte {
	out := make([]byte, len(p)+len(q))
	for i, a := range p {
		out[i] ^= a
	}
	for i, b := range q {
		out[i] ^= b
	}
	return out
}

// slowEval is the value at x, each power by as many products.
func slowEval(p []byte, x byte) byte {
	sum := byte(0)
	for i, c := range p {
		for range i {
			c = product(c, x)
		}
		sum ^= c
	}
	return sum
}

// bare is p without noughts at its end.
func bare(p []byte) []byte {
	return bytes.TrimRight(p, "\x00")
}

// random is a polynomial of n bytes, some of them 0, and at times its last.
func random(r *rand.Rand, n int) []byte {
	p := make([]byte, n)
	for i := range p {
		if r.Intn(4) > 0 {
			p[i] = byte(r.Intn(256))
		}
	}
	return p
}

// someXs is n bytes, no two the same.
func someXs(r *rand.Rand, n int) []byte {
	xs := make([]byte, n)
	for i, x := range r.Perm(256)[:n] {
		xs[i] = byte(x)
	}
	return xs
}

// small tells all polynomials of n bytes at most out of 0, 1, 2, 255, those
// with noughts at their end too.
func small(n int) [][]byte {
	all := [][]byte{nil}
	for from := 0; n > 0; n-- {
		to := len(all)
		for _, p := range all[from:to] {
			for _, c := range []byte{0, 1, 2, 255} {
				all = append(all, append(bytes.Clone(p), c))
			}
		}
		from = to
	}
	return all
}

// want fails the test if got is not just the bytes of p, bare.
func want(t *testing.T, what string, got, p []byte) {
	t.Helper()
	if !bytes.Equal(got, bare(p)) {
		t.Fatalf("%s = %v, want %v", what, got, bare(p))
	}
}

// P2.1, Degree: none, noughts alone, noughts at the end, within, ahead.
func TestDegree(t *testing.T) {
	for _, c := range []struct {
		p []byte
		d int
	}{
		{nil, -1},
		{[]byte{}, -1},
		{[]byte{0}, -1},
		{make([]byte, 1000), -1},
		{[]byte{1}, 0},
		{[]byte{255, 0, 0}, 0},
		{[]byte{0, 1}, 1},
		{[]byte{7, 0, 128, 0}, 2},
		{[]byte{0, 0, 0, 9}, 3},
		{append(make([]byte, 999), 1), 999},
	} {
		if d := Degree(c.p); d != c.d {
			t.Errorf("Degree(%v) = %d, want %d", c.p, d, c.d)
		}
	}
}

// P2.1, Eval: at all bytes; at 0 that is the byte of the power 0.
func TestEval(t *testing.T) {
	f := gf.New()
	r := rand.New(rand.NewSource(1))
	ps := [][]byte{nil, {0}, {9}, {0, 1}, {0, 0, 0}, {5, 0, 1, 0}, random(r, 40), random(r, 300)}
	for _, p := range ps {
		for x := 0; x < 256; x++ {
			if v, w := Eval(f, p, byte(x)), slowEval(p, byte(x)); v != w {
				t.Fatalf("Eval(%v, %d) = %d, want %d", p, x, v, w)
			}
		}
	}
	if v := Eval(f, []byte{7, 3}, 0); v != 7 {
		t.Errorf("Eval(7 3, 0) = %d, want 7", v)
	}
}

// P2.1, Add and Mul: all pairs of small polynomials, bare of noughts.
func TestAddMulSmall(t *testing.T) {
	f := gf.New()
	for _, p := range small(3) {
		for _, q := range small(3) {
			want(t, "Add", Add(p, q), slowAdd(p, q))
			want(t, "Mul", Mul(f, p, q), slowMul(p, q))
		}
	}
}

// P2.1, Add and Mul: longer ones, and what is told of a polynomial and itself.
func TestAddMulLong(t *testing.T) {
	f := gf.New()
	r := rand.New(rand.NewSource(2))
	for range 300 {
		p, q := random(r, r.Intn(70)), random(r, r.Intn(70))
		want(t, "Add", Add(p, q), slowAdd(p, q))
		want(t, "Mul", Mul(f, p, q), slowMul(p, q))
		want(t, "Add of one twice", Add(p, p), nil)
		want(t, "Add of nothing", Add(nil, p), p)
		want(t, "Mul by 0", Mul(f, p, []byte{0, 0}), nil)
		want(t, "Mul by 1", Mul(f, []byte{1, 0}, p), p)
	}
}

// checkDiv fails the test if P2.2 does not hold of p and d.
func checkDiv(t *testing.T, f *gf.Field, p, d []byte) {
	t.Helper()
	q, r, ok := Div(f, p, d)
	if len(bare(d)) == 0 {
		if ok || len(q) != 0 || len(r) != 0 {
			t.Fatalf("Div(%v, %v) = %v, %v, %t, want nothing and false", p, d, q, r, ok)
		}
		return
	}
	if !ok || len(r) >= len(bare(d)) || len(r) != len(bare(r)) || len(q) != len(bare(q)) {
		t.Fatalf("Div(%v, %v) = %v, %v, %t", p, d, q, r, ok)
	}
	if back := bare(slowAdd(slowMul(q, d), r)); !bytes.Equal(back, bare(p)) {
		t.Fatalf("Div(%v, %v) = %v, %v: back comes %v", p, d, q, r, back)
	}
}

// P2.2: all pairs of small polynomials, 0 and noughts at the end with them.
func TestDivSmall(t *testing.T) {
	f := gf.New()
	for _, p := range small(4) {
		for _, d := range small(3) {
			checkDiv(t, f, p, d)
		}
	}
}

// P2.2: longer ones, by shorter and by longer; no rest of a product.
func TestDivLong(t *testing.T) {
	f := gf.New()
	r := rand.New(rand.NewSource(3))
	for range 500 {
		p, d := random(r, r.Intn(80)), random(r, r.Intn(40))
		checkDiv(t, f, p, d)
		if len(bare(d)) == 0 {
			continue
		}
		q, rest, ok := Div(f, slowMul(p, d), d)
		want(t, "Div of a product", q, p)
		want(t, "rest of a product", rest, nil)
		if !ok {
			t.Fatal("Div of a product: false")
		}
	}
}

// P2.3, Roots: the chapter's example, none, some, one many times, all bytes.
func TestRoots(t *testing.T) {
	f := gf.New()
	every := make([]byte, 256)
	for i := range every {
		every[i] = byte(i)
	}
	// The product over all bytes is x^256 less x.
	all := make([]byte, 257)
	all[1], all[256] = 1, 1
	// A sum's power 256 is the sum of the powers.
	twice := make([]byte, 257)
	twice[0], twice[256] = 7, 1
	for _, c := range []struct{ xs, p []byte }{
		{nil, []byte{1}},
		{[]byte{}, []byte{1}},
		{[]byte{3}, []byte{3, 1}},
		{[]byte{0}, []byte{0, 1}},
		{[]byte{0, 0, 0}, []byte{0, 0, 0, 1}},
		{[]byte{5, 5}, []byte{product(5, 5), 0, 1}},
		{[]byte{1, 2}, []byte{2, 3, 1}},
		{every, all},
		{bytes.Repeat([]byte{7}, 256), twice},
	} {
		want(t, "Roots", Roots(f, c.xs), c.p)
	}
}

// P2.3, Roots: 0 at just those bytes, 1 at the greatest power.
func TestRootsAreRoots(t *testing.T) {
	f := gf.New()
	r := rand.New(rand.NewSource(4))
	for range 30 {
		xs := random(r, r.Intn(60))
		p := Roots(f, xs)
		if len(p) != len(xs)+1 || p[len(xs)] != 1 {
			t.Fatalf("Roots(%v) = %v", xs, p)
		}
		for x := 0; x < 256; x++ {
			if zero := slowEval(p, byte(x)) == 0; zero != bytes.Contains(xs, []byte{byte(x)}) {
				t.Fatalf("Roots(%v) = %v, at %d 0: %t", xs, p, x, zero)
			}
		}
	}
}

// P2.3, Through: the chapter's example and the edges.
func TestThroughExamples(t *testing.T) {
	f := gf.New()
	for _, c := range []struct{ xs, ys, p []byte }{
		{[]byte{1, 2}, []byte{5, 5}, []byte{5}},
		{nil, nil, nil},
		{[]byte{}, nil, nil},
		{[]byte{0}, []byte{0}, nil},
		{[]byte{0}, []byte{9}, []byte{9}},
		{[]byte{255}, []byte{9}, []byte{9}},
		{[]byte{4, 0, 9}, []byte{0, 0, 0}, nil},
		{[]byte{1, 2, 3}, []byte{1, 2, 3}, []byte{0, 1}},
	} {
		p, ok := Through(f, c.xs, c.ys)
		if !ok {
			t.Fatalf("Through(%v, %v): false", c.xs, c.ys)
		}
		want(t, "Through", p, c.p)
	}
}

// P2.3, Through: any values, in any order of xs, up to all 256 bytes; a
// polynomial comes back from its own values.
func TestThrough(t *testing.T) {
	f := gf.New()
	r := rand.New(rand.NewSource(5))
	for _, n := range []int{1, 2, 3, 4, 5, 8, 17, 60, 255, 256} {
		xs, ys := someXs(r, n), random(r, n)
		p, ok := Through(f, xs, ys)
		if !ok || len(p) > n || len(p) != len(bare(p)) {
			t.Fatalf("Through(%v, %v) = %v, %t", xs, ys, p, ok)
		}
		for i, x := range xs {
			if v := slowEval(p, x); v != ys[i] {
				t.Fatalf("Through(%v, %v) is %d at %d, want %d", xs, ys, v, x, ys[i])
			}
		}
		own := random(r, r.Intn(n+1))
		for i, x := range xs {
			ys[i] = slowEval(own, x)
		}
		p, ok = Through(f, xs, ys)
		if !ok {
			t.Fatal("Through of own values: false")
		}
		want(t, "Through of own values", p, own)
	}
}

// P2.3, Through: other lengths, bytes that are there twice, the same values
// or not, and more bytes than there are.
func TestThroughRefuses(t *testing.T) {
	f := gf.New()
	r := rand.New(rand.NewSource(6))
	all := someXs(r, 256)
	for _, c := range []struct{ xs, ys []byte }{
		{[]byte{1}, nil},
		{nil, []byte{1}},
		{[]byte{1, 2}, []byte{1, 2, 3}},
		{[]byte{1, 2, 3}, []byte{1, 2}},
		{[]byte{1, 1}, []byte{5, 5}},
		{[]byte{1, 1}, []byte{5, 6}},
		{[]byte{0, 3, 0}, []byte{0, 0, 0}},
		{[]byte{255, 3, 4, 255}, []byte{1, 2, 3, 4}},
		{[]byte{1, 1}, []byte{5}},
		{append(bytes.Clone(all), 77), make([]byte, 257)},
		{make([]byte, 100000), make([]byte, 100000)},
	} {
		if p, ok := Through(f, c.xs, c.ys); ok || len(p) != 0 {
			t.Errorf("Through(%v, %v) = %v, %t, want nothing and false", c.xs, c.ys, p, ok)
		}
	}
}

// roomy is p in a list with spare room, and that room, whole.
func roomy(p []byte) (list, room []byte) {
	room = append(bytes.Clone(p), bytes.Repeat([]byte{0xa5}, 600)...)
	return room[:len(p)], room
}

// R4: no call changes what it is given, nor the spare room of it; what is
// answered, its spare room included, shares no memory with that, nor with
// another answer.
func TestMemory(t *testing.T) {
	f := gf.New()
	r := rand.New(rand.NewSource(7))
	calls := []func(p, q []byte) [][]byte{
		func(p, q []byte) [][]byte { return [][]byte{Add(p, q), Add(q, p), Add(p, nil), Add(nil, p)} },
		func(p, q []byte) [][]byte { return [][]byte{Mul(f, p, q), Mul(f, p, []byte{1}), Mul(f, []byte{1}, p)} },
		func(p, q []byte) [][]byte { a, b, _ := Div(f, p, q); return [][]byte{a, b} },
		func(p, q []byte) [][]byte { a, b, _ := Div(f, q, p); return [][]byte{a, b} },
		func(p, q []byte) [][]byte { a, b, _ := Div(f, p, []byte{1}); return [][]byte{a, b} },
		func(p, q []byte) [][]byte { return [][]byte{Roots(f, p), Roots(f, p), Roots(f, nil), Roots(f, nil)} },
		func(p, q []byte) [][]byte { a, _ := Through(f, p, q); b, _ := Through(f, q, p); return [][]byte{a, b} },
		func(p, q []byte) [][]byte { Degree(p); Eval(f, p, 3); return nil },
	}
	for i, call := range calls {
		for range 50 {
			n := r.Intn(9)
			p0, q0 := append(someXs(r, n), 0, 0), append(someXs(r, n/2), 1)
			if r.Intn(2) == 0 {
				p0, q0 = someXs(r, n), someXs(r, n)
			}
			p, pRoom := roomy(p0)
			q, qRoom := roomy(q0)
			pWas, qWas := bytes.Clone(pRoom), bytes.Clone(qRoom)
			answers := call(p, q)
			checkApart(t, i, answers)
			if !bytes.Equal(pRoom, pWas) || !bytes.Equal(qRoom, qWas) {
				t.Fatalf("call %d changes, or answers, what it is given: %v, %v", i, p0, q0)
			}
		}
	}
}

// checkApart fills each answer, with its spare room, in turn, and fails the
// test if another one of them has changed by it.
func checkApart(t *testing.T, call int, answers [][]byte) {
	t.Helper()
	for i, a := range answers {
		a = a[:cap(a)]
		for j := range a {
			a[j] = byte(0x10 + i)
		}
	}
	for i, a := range answers {
		a = a[:cap(a)]
		if n := bytes.Count(a, []byte{byte(0x10 + i)}); n != len(a) {
			t.Fatalf("call %d: answer %d shares memory with another", call, i)
		}
	}
}

// R5: the same calls have the same answers.
func TestSameAnswers(t *testing.T) {
	r := rand.New(rand.NewSource(8))
	xs, ys := someXs(r, 50), random(r, 50)
	f, g := gf.New(), gf.New()
	first, _ := Through(f, xs, ys)
	for range 3 {
		again, _ := Through(g, xs, ys)
		want(t, "Through once more", again, first)
	}
}

// The powers go on from 1, as many as are asked for, and stop when told.
func TestPowers(t *testing.T) {
	f := gf.New()
	for _, n := range []int{0, 1, 2, 300} {
		count := 0
		for i, p := range powers(f, 3, n) {
			if i != count || p != slowEval(append(make([]byte, i), 1), 3) {
				t.Fatalf("power %d of 3 is told as power %d, %d", count, i, p)
			}
			count++
		}
		if count != n {
			t.Errorf("%d powers, want %d", count, n)
		}
	}
	count := 0
	for range powers(f, 2, 10) {
		count++
		if count == 4 {
			break
		}
	}
	if count != 4 {
		t.Errorf("%d powers behind a break at 4", count)
	}
}

// The pieces are 0 at all of xs but at their own, and stop when told.
func TestPieces(t *testing.T) {
	f := gf.New()
	xs := []byte{9, 0, 255, 3}
	count := 0
	for i, piece := range pieces(f, xs) {
		for j, x := range xs {
			if zero := slowEval(piece, x) == 0; zero != (i != j) {
				t.Errorf("piece %d at %d is 0: %t", i, x, zero)
			}
		}
		count++
	}
	if count != len(xs) {
		t.Errorf("%d pieces, want %d", count, len(xs))
	}
	for i := range pieces(f, xs) {
		if i == 1 {
			break
		}
		if i > 1 {
			t.Error("a piece behind a break")
		}
	}
}
