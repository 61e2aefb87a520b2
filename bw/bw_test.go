package bw

import (
	"bytes"
	"math"
	"math/rand"
	"slices"
	"testing"

	"shamrock/gf"
)

// product is that of two bytes, by chapter 1's words.
func product(a, b byte) byte {
	p := byte(0)
	for ; b > 0; b >>= 1 {
		if b&1 == 1 {
			p ^= a
		}
		high := a & 0x80
		a <<= 1
		if high != 0 {
			a ^= 0x1b
		}
	}
	return p
}

// inverse is a to the power 254.
func inverse(a byte) byte {
	p := byte(1)
	for range 254 {
		p = product(p, a)
	}
	return p
}

// slowValues is p's values at xs.
func slowValues(p, xs []byte) []byte {
	ys := make([]byte, len(xs))
	for i, x := range xs {
		power := byte(1)
		for _, c := range p {
			ys[i] ^= product(c, power)
			power = product(power, x)
		}
	}
	return ys
}

// rootsOf is the product of x less each of xs.
func rootsOf(xs []byte) []byte {
	p := []byte{1}
	for _, x := range xs {
		p = timesRoot(p, x)
	}
	return p
}

// timesRoot is p times x less z.
func timesRoot(p []byte, z byte) []byte {
	out := make([]byte, len(p)+1)
	for k, c := range p {
		out[k] ^= product(c, z)
		out[k+1] ^= c
	}
	return out
}

// slowThrough is the polynomial, with noughts at its end or not, that has the
// values ys at xs.
func slowThrough(xs, ys []byte) []byte {
	sum := make([]byte, len(xs))
	for i, x := range xs {
		piece, below := []byte{ys[i]}, byte(1)
		for j, z := range xs {
			if i == j {
				continue
			}
			piece, below = timesRoot(piece, z), product(below, x^z)
		}
		below = inverse(below)
		for k, c := range piece {
			sum[k] ^= product(c, below)
		}
	}
	return sum
}

// bare is p without noughts at its end.
func bare(p []byte) []byte {
	return bytes.TrimRight(p, "\x00")
}

// places is where ys are not p's values at xs.
func places(p, xs, ys []byte) []int {
	var at []int
	for i, y := range slowValues(p, xs) {
		if ys[i] != y {
			at = append(at, i)
		}
	}
	return at
}

// isAgreed tells whether a polynomial of a Degree of d at most, with so many
// wrong values of n, is agreed on.
func isAgreed(n, wrong, d, e int) bool {
	return n-wrong >= d+1+e && wrong <= e
}

// choices calls do with each choice of n of the places from at to below total.
func choices(at, total, n int, chosen []int, do func([]int)) {
	if n == 0 {
		do(chosen)
		return
	}
	for i := at; i <= total-n; i++ {
		choices(i+1, total, n-1, append(chosen, i), do)
	}
}

// slowDecode looks for what is agreed on among the polynomials through any
// d + 1 of the values: one that is agreed on has more than d of its own.
func slowDecode(xs, ys []byte, d, e int) (p []byte, wrong []int, ok bool) {
	choices(0, len(xs), d+1, nil, func(chosen []int) {
		var sx, sy []byte
		for _, i := range chosen {
			sx, sy = append(sx, xs[i]), append(sy, ys[i])
		}
		q := bare(slowThrough(sx, sy))
		if at := places(q, xs, ys); isAgreed(len(xs), len(at), d, e) {
			p, wrong, ok = q, at, true
		}
	})
	return p, wrong, ok
}

// random is a polynomial of n bytes, some of them 0, and at times its last.
func random(r *rand.Rand, n int) []byte {
	p := make([]byte, n)
	for i := range p {
		if r.Intn(4) > 0 {
			p[i] = byte(r.Intn(256))
		}
	}
	return p
}

// someXs is n bytes, no two the same.
func someXs(r *rand.Rand, n int) []byte {
	xs := make([]byte, n)
	for i, x := range r.Perm(256)[:n] {
		xs[i] = byte(x)
	}
	return xs
}

// turn changes n of ys, and tells their places, rising.
func turn(r *rand.Rand, ys []byte, n int) []int {
	at := r.Perm(len(ys))[:n]
	slices.Sort(at)
	for _, i := range at {
		ys[i] ^= byte(1 + r.Intn(255))
	}
	return at
}

// check fails the test if Decode does not answer just p, wrong and true.
func check(t *testing.T, f *gf.Field, xs, ys []byte, d, e int, p []byte, wrong []int) {
	t.Helper()
	got, at, ok := Decode(f, xs, ys, d, e)
	if !ok || !bytes.Equal(got, p) || !slices.Equal(at, wrong) {
		t.Fatalf("Decode(%v, %v, %d, %d) = %v, %v, %t, want %v, %v, true", xs, ys, d, e, got, at, ok, p, wrong)
	}
}

// checkNone fails the test if Decode does not answer nothing and false.
func checkNone(t *testing.T, f *gf.Field, xs, ys []byte, d, e int) {
	t.Helper()
	got, at, ok := Decode(f, xs, ys, d, e)
	if ok || len(got) != 0 || len(at) != 0 {
		t.Fatalf("Decode(%v, %v, %d, %d) = %v, %v, %t, want nothing, nothing and false", xs, ys, d, e, got, at, ok)
	}
}

// checkSlow fails the test if Decode does not answer as slowDecode does; it
// tells whether that found one.
func checkSlow(t *testing.T, f *gf.Field, xs, ys []byte, d, e int) bool {
	t.Helper()
	p, wrong, ok := slowDecode(xs, ys, d, e)
	if ok {
		check(t, f, xs, ys, d, e, p, wrong)
	} else {
		checkNone(t, f, xs, ys, d, e)
	}
	return ok
}

// P5.1: the chapter's example, and chapter 11's of too few and of enough.
func TestExamples(t *testing.T) {
	f := gf.New()
	check(t, f, []byte{1, 2, 3}, []byte{5, 5, 6}, 0, 1, []byte{5}, []int{2})
	check(t, f, []byte{1, 2, 3}, []byte{6, 5, 5}, 0, 1, []byte{5}, []int{0})
	check(t, f, []byte{1, 2, 3}, []byte{5, 5, 5}, 0, 1, []byte{5}, nil)
	checkNone(t, f, []byte{1, 2, 3}, []byte{5, 5, 6}, 0, 0)
	checkNone(t, f, []byte{1, 2, 3}, []byte{4, 5, 6}, 0, 1)
	check(t, f, []byte{1, 2, 3}, []byte{1, 2, 3}, 1, 1, []byte{0, 1}, nil)
	checkNone(t, f, []byte{1, 2, 3}, []byte{1, 2, 4}, 1, 1)
	check(t, f, []byte{1, 2, 3, 4, 5}, []byte{1, 2, 4, 4, 5}, 1, 1, []byte{0, 1}, []int{2})
}

// P5.1, the polynomial 0: no bytes of it, with wrong values and without.
func TestZero(t *testing.T) {
	f := gf.New()
	check(t, f, []byte{9}, []byte{0}, 0, 0, nil, nil)
	check(t, f, []byte{0, 1, 2}, []byte{0, 0, 9}, 0, 1, nil, []int{2})
	check(t, f, []byte{0, 1, 2, 3, 4}, []byte{255, 0, 0, 0, 1}, 0, 2, nil, []int{0, 4})
	check(t, f, []byte{0, 1, 2, 3, 4, 5}, []byte{0, 7, 0, 0, 0, 0}, 3, 1, nil, []int{1})
	checkNone(t, f, []byte{0, 1, 2, 3, 4}, []byte{0, 7, 0, 0, 0}, 3, 1)
}

// P5.1: all words of few values out of few bytes, by every d and e, against a
// look through all choices of values.
func TestSmallWords(t *testing.T) {
	f := gf.New()
	some := []byte{0, 1, 2, 255}
	for n := 1; n <= 5; n++ {
		xs := []byte{0, 1, 2, 3, 255}[:n]
		for w := range 1 << (2 * n) {
			ys := make([]byte, n)
			for i := range ys {
				ys[i] = some[w>>(2*i)&3]
			}
			for d := range n {
				for e := 0; e <= n-d; e++ {
					checkSlow(t, f, xs, ys, d, e)
				}
			}
		}
	}
}

// P5.1: a polynomial's values of which none, one, .., all are wrong, by every
// d and e, against a look through all choices of values.
func TestLooking(t *testing.T) {
	f := gf.New()
	r := rand.New(rand.NewSource(1))
	found, other := 0, 0
	for n := 1; n <= 8; n++ {
		for d := range n {
			for e := 0; e <= n-d; e++ {
				for count := range n + 1 {
					xs, p := someXs(r, n), random(r, d+1)
					ys := slowValues(p, xs)
					turn(r, ys, count)
					if checkSlow(t, f, xs, ys, d, e) {
						found++
					} else {
						other++
					}
				}
			}
		}
	}
	if found == 0 || other == 0 {
		t.Errorf("%d words with a polynomial, %d without", found, other)
	}
}

// P5.1: what lies between two polynomials is neither's, if it is too far from
// both, and the nearer one's, if it is near enough.
func TestBetween(t *testing.T) {
	f := gf.New()
	r := rand.New(rand.NewSource(2))
	for n := 3; n <= 9; n++ {
		for d := range min(n-1, 4) {
			xs := someXs(r, n)
			one, two := slowValues(random(r, d+1), xs), slowValues(random(r, d+1), xs)
			for part := range n + 1 {
				ys := append(bytes.Clone(one[:part]), two[part:]...)
				for e := range n {
					checkSlow(t, f, xs, ys, d, e)
				}
			}
		}
	}
}

// P5.1, P5.2: each number of wrong values at the edges: the greatest e that so
// many values bear, one wrong value more, and one value less.
func TestEdgesOfAgreed(t *testing.T) {
	f := gf.New()
	r := rand.New(rand.NewSource(3))
	for range 300 {
		d, e := r.Intn(20), r.Intn(12)
		n := d + 1 + e + r.Intn(e+3)
		xs, p := someXs(r, n), random(r, d+1)
		most := min(e, n-d-1-e)
		for count := 0; count <= most; count++ {
			ys := slowValues(p, xs)
			at := turn(r, ys, count)
			check(t, f, xs, ys, d, e, bare(p), at)
		}
		ys := slowValues(p, xs)
		turn(r, ys, most+1)
		if got, _, ok := Decode(f, xs, ys, d, e); ok && bytes.Equal(got, bare(p)) {
			t.Fatalf("Decode(%v, %v, %d, %d) finds %v with %d wrong", xs, ys, d, e, p, most+1)
		}
		few := d + e
		checkNone(t, f, xs[:few], slowValues(p, xs[:few]), d, e)
	}
}

// P5.1: no more wrong values than e, though there are values enough to find
// the polynomial with more; no fewer right ones than d + 1 + e, though fewer
// would do to tell it.
func TestBothBounds(t *testing.T) {
	f := gf.New()
	r := rand.New(rand.NewSource(4))
	for d := range 10 {
		for e := range 10 {
			xs, p := someXs(r, d+1+2*e+20), random(r, d+1)
			ys := slowValues(p, xs)
			at := turn(r, ys, e+1)
			checkNone(t, f, xs, ys, d, e)
			check(t, f, xs, ys, d, e+1, bare(p), at)
			for short := 1; short <= e; short++ {
				n := d + 1 + 2*e - short
				word := slowValues(p, xs[:n])
				at := turn(r, word, e-short)
				check(t, f, xs[:n], word, d, e, bare(p), at)
				more := slowValues(p, xs[:n])
				turn(r, more, e-short+1)
				checkNone(t, f, xs[:n], more, d, e)
			}
		}
	}
}

// P5.1: the Degree is d at most: a polynomial of a greater one is not agreed
// on, though it has all values.
func TestDegreeBound(t *testing.T) {
	f := gf.New()
	r := rand.New(rand.NewSource(5))
	for degree := 1; degree < 30; degree++ {
		p := append(random(r, degree), byte(1+r.Intn(255)))
		for e := range 8 {
			xs := someXs(r, degree+1+2*e+r.Intn(5))
			ys := slowValues(p, xs)
			check(t, f, xs, ys, degree, e, p, nil)
			checkNone(t, f, xs, ys, degree-1, e)
			checkNone(t, f, xs, ys, 0, e)
		}
	}
}

// P5.2: ys are a polynomial's values but for e of them at most, anywhere, and
// there are d + 1 + 2e or more; up to as many as there may be.
func TestFound(t *testing.T) {
	f := gf.New()
	r := rand.New(rand.NewSource(6))
	for _, n := range []int{1, 2, 3, 7, 30, 100, 254, 255} {
		for range 6 {
			e := r.Intn((n + 1) / 2)
			d := r.Intn(n - 2*e)
			xs, p := someXs(r, n), random(r, d+1)
			for _, count := range []int{0, e / 2, e} {
				ys := slowValues(p, xs)
				at := turn(r, ys, count)
				check(t, f, xs, ys, d, e, bare(p), at)
			}
		}
	}
}

// P5.2: d + 1 + e or more are right, at most e wrong, fewer than d + 1 + 2e in
// all or not.
func TestFoundAmongFew(t *testing.T) {
	f := gf.New()
	r := rand.New(rand.NewSource(7))
	for range 200 {
		d, e := r.Intn(40), r.Intn(40)
		count := r.Intn(e + 1)
		xs, p := someXs(r, d+1+e+count+r.Intn(2)), random(r, d+1)
		ys := slowValues(p, xs)
		at := turn(r, ys, count)
		check(t, f, xs, ys, d, e, bare(p), at)
	}
}

// P5.1, P5.2: 255 values, with d and e at their ends.
func TestMostValues(t *testing.T) {
	f := gf.New()
	r := rand.New(rand.NewSource(8))
	for _, c := range []struct{ d, e, count int }{
		{254, 0, 0},
		{0, 127, 127},
		{0, 254, 0},
		{0, 200, 54},
		{252, 1, 1},
		{100, 77, 77},
		{127, 127, 0},
		{1, 126, 126},
	} {
		for _, lost := range []byte{0, 255, 77} {
			xs := slices.DeleteFunc(someXs(r, 256), func(x byte) bool { return x == lost })
			p := append(random(r, c.d), 9)
			ys := slowValues(p, xs)
			at := turn(r, ys, c.count)
			check(t, f, xs, ys, c.d, c.e, p, at)
			checkNone(t, f, xs, ys, c.d, 255-c.d)
			if c.d > 0 {
				checkNone(t, f, xs, ys, c.d-1, c.e)
			}
			turn(r, ys, 255)
			if got, _, ok := Decode(f, xs, ys, c.d, c.e); ok && len(places(got, xs, ys)) > c.e {
				t.Fatalf("d %d, e %d: found in noise", c.d, c.e)
			}
		}
	}
}

// P5.1: the wrong values are all together, first, last, or all the same.
func TestWrongTogether(t *testing.T) {
	f := gf.New()
	r := rand.New(rand.NewSource(9))
	xs, p := someXs(r, 21), random(r, 7)
	for from := range 15 {
		for _, y := range []byte{0, 1, 255} {
			ys := slowValues(p, xs)
			copy(ys[from:], bytes.Repeat([]byte{y}, 7))
			check(t, f, xs, ys, 6, 7, bare(p), places(p, xs, ys))
		}
	}
}

// P5.1: the order of the values is of no account but for their places.
func TestAnyOrder(t *testing.T) {
	f := gf.New()
	r := rand.New(rand.NewSource(10))
	p, xs := random(r, 4), someXs(r, 14)
	ys := slowValues(p, xs)
	turn(r, ys, 5)
	for range 50 {
		r.Shuffle(len(xs), func(i, j int) {
			xs[i], xs[j] = xs[j], xs[i]
			ys[i], ys[j] = ys[j], ys[i]
		})
		check(t, f, xs, ys, 3, 5, bare(p), places(p, xs, ys))
	}
}

// P5.1: other lengths, bytes that are there twice, with one value or two, d
// and e at their ends, none, and more than 255.
func TestRefuses(t *testing.T) {
	f := gf.New()
	r := rand.New(rand.NewSource(11))
	all := someXs(r, 256)
	noughts := make([]byte, 1000)
	for _, c := range []struct {
		xs, ys []byte
		d, e   int
	}{
		{nil, nil, 0, 0},
		{[]byte{}, []byte{}, 0, 0},
		{nil, nil, -1, 0},
		{nil, nil, 255, 255},
		{[]byte{1}, nil, 0, 0},
		{nil, []byte{1}, 0, 0},
		{[]byte{1, 2}, []byte{5, 5, 5}, 0, 0},
		{[]byte{1, 2, 3}, []byte{5, 5}, 0, 0},
		{[]byte{1, 2, 3, 4}, []byte{5, 5, 5}, 0, 1},
		{[]byte{1, 1}, []byte{5, 5}, 0, 0},
		{[]byte{1, 1, 2, 3, 4}, []byte{5, 6, 5, 5, 5}, 0, 1},
		{[]byte{0, 3, 0}, []byte{0, 0, 0}, 0, 0},
		{[]byte{255, 3, 4, 255}, []byte{7, 7, 7, 7}, 1, 1},
		{[]byte{1, 2}, []byte{5, 5}, -1, 0},
		{[]byte{1, 2}, []byte{0, 0}, -1, 0},
		{[]byte{1, 2}, []byte{0, 0}, -1, 1},
		{[]byte{1, 2}, []byte{5, 5}, 0, -1},
		{[]byte{1, 2}, []byte{5, 5}, 1, -1},
		{[]byte{1, 2}, []byte{5, 5}, 2, -1},
		{[]byte{1, 2}, []byte{5, 5}, -1, -1},
		{[]byte{1, 2}, []byte{5, 5}, 2, 0},
		{[]byte{1, 2}, []byte{5, 5}, 0, 2},
		{[]byte{1, 2}, []byte{5, 5}, 255, 0},
		{[]byte{1, 2}, []byte{5, 5}, 0, 255},
		{[]byte{1, 2}, []byte{5, 5}, 256, 0},
		{[]byte{1, 2}, []byte{5, 5}, 0, 256},
		{all[:255], noughts[:255], 255, 0},
		{all[:255], noughts[:255], 0, 255},
		{all[:255], noughts[:255], 256, 0},
		{all[:255], noughts[:255], 0, 256},
		{all, noughts[:256], 0, 0},
		{all, noughts[:256], 255, 0},
		{all, noughts[:256], 3, 40},
		{append(bytes.Clone(all), 77), noughts[:257], 0, 1},
		{noughts, noughts, 3, 1},
	} {
		checkNone(t, f, c.xs, c.ys, c.d, c.e)
	}
}

// P5.1 and R1: d and e at the ends of int, one or both: sums of them go round.
func TestEndsOfInt(t *testing.T) {
	f := gf.New()
	far := []int{math.MinInt, math.MinInt + 1, -1, 0, 256, math.MaxInt32, math.MaxInt - 1, math.MaxInt}
	for _, d := range far {
		for _, e := range far {
			if d == 0 && e == 0 {
				continue
			}
			checkNone(t, f, nil, nil, d, e)
			checkNone(t, f, []byte{1}, []byte{5}, d, e)
			checkNone(t, f, []byte{1, 2, 3, 4}, []byte{5, 5, 5, 5}, d, e)
		}
	}
}

// roomy is p in a list with spare room, and that room, whole.
func roomy(p []byte) (list, room []byte) {
	room = append(bytes.Clone(p), bytes.Repeat([]byte{0xa5}, 600)...)
	return room[:len(p)], room
}

// spoil fills a list and its spare room with what no answer has.
func spoil[T byte | int](a []T) {
	a = a[:cap(a)]
	for i := range a {
		a[i] = 0x5a
	}
}

// R4: no call changes what it is given, nor the spare room of it; what is
// answered, its spare room included, shares no memory with that, nor with
// another answer.
func TestMemory(t *testing.T) {
	f := gf.New()
	r := rand.New(rand.NewSource(12))
	for e := range 6 {
		p := append(random(r, 3), 8)
		xs, xsRoom := roomy(someXs(r, 4+2*e))
		word := slowValues(p, xs)
		at := turn(r, word, e)
		ys, ysRoom := roomy(word)
		was := append(bytes.Clone(xsRoom), ysRoom...)
		first, firstAt, _ := Decode(f, xs, ys, 3, e)
		second, secondAt, _ := Decode(f, xs, ys, 3, e)
		checkNone(t, f, xs, ys, 2, e)
		spoil(first)
		spoil(firstAt)
		if !bytes.Equal(second, p) || !slices.Equal(secondAt, at) {
			t.Fatalf("of %v at %v: two answers share memory", p, xs)
		}
		spoil(second)
		spoil(secondAt)
		if !bytes.Equal(append(bytes.Clone(xsRoom), ysRoom...), was) {
			t.Fatal("a call changes, or answers, what it is given")
		}
	}
	// One list as both is the polynomial x.
	xs, room := roomy([]byte{2, 1, 9, 0})
	was := bytes.Clone(room)
	check(t, f, xs, xs, 1, 1, []byte{0, 1}, nil)
	if !bytes.Equal(room, was) {
		t.Error("a call changes a list that it is given twice")
	}
}

// R5: the same calls have the same answers, by any field that New made.
func TestSameAnswers(t *testing.T) {
	r := rand.New(rand.NewSource(13))
	p, xs := random(r, 20), someXs(r, 50)
	ys := slowValues(p, xs)
	at := turn(r, ys, 15)
	for range 3 {
		check(t, gf.New(), xs, ys, 19, 15, bare(p), at)
	}
}

// The rests go down to 0, each of them second, by its factor, and a multiple of
// first; they stop when told, and come again from the beginning.
func TestRests(t *testing.T) {
	f := gf.New()
	xs, second := []byte{1, 2, 3, 5, 8, 13, 21}, []byte{5, 3, 5, 8, 9}
	first := rootsOf(xs)
	all := rests(f, first, second)
	for range 2 {
		before, count := len(first), 0
		for rest, factor := range all {
			if len(rest) >= before || len(factor) == 0 {
				t.Fatalf("rest %d: %v, %v", count, rest, factor)
			}
			before = len(rest)
			count++
			// Where first is 0, rest is just the product of factor and second.
			values, factors := slowValues(rest, xs), slowValues(factor, xs)
			for i, y := range slowValues(second, xs) {
				if values[i] != product(factors[i], y) {
					t.Fatalf("rest %v is not %v by second at %d", rest, factor, xs[i])
				}
			}
		}
		if before != 0 || count < 3 {
			t.Errorf("%d rests, the last one of %d bytes", count, before)
		}
	}
	for range all {
		break
	}
	count := 0
	for rest, factor := range rests(f, first, nil) {
		if len(rest) != 0 || !bytes.Equal(factor, []byte{1}) {
			t.Errorf("rest %v, %v of 0", rest, factor)
		}
		count++
	}
	if count != 1 {
		t.Errorf("%d rests of 0", count)
	}
}

// The other places come rising, and stop when told.
func TestOthers(t *testing.T) {
	f := gf.New()
	xs, ys := []byte{1, 2, 3, 4}, []byte{5, 6, 5, 7}
	var at []int
	for i := range others(f, []byte{5}, xs, ys) {
		at = append(at, i)
	}
	if !slices.Equal(at, []int{1, 3}) {
		t.Errorf("other places %v", at)
	}
	for i := range others(f, []byte{5}, xs, ys) {
		if i != 1 {
			t.Errorf("place %d behind a break", i)
		}
		break
	}
}
