package open

import (
	"bytes"
	"math"
	"math/rand"
	"slices"
	"testing"

	"shamrock/api"
	"shamrock/deal"
	"shamrock/gf"
)

// small is params that may be, of so few holders that all choices of them can
// be gone through.
func small() []api.Params {
	return []api.Params{
		{N: 2, T: 1, K: 1, E: 0, Room: 1},
		{N: 4, T: 1, K: 1, E: 0, Room: 9},
		{N: 4, T: 1, K: 1, E: 1, Room: 9},
		{N: 5, T: 1, K: 2, E: 1, Room: 9},
		{N: 6, T: 2, K: 1, E: 1, Room: 9},
		{N: 6, T: 1, K: 1, E: 2, Room: 9},
		{N: 7, T: 2, K: 3, E: 1, Room: 512},
		{N: 8, T: 1, K: 3, E: 2, Room: 9},
	}
}

// great is params at the ends of what may be.
func great() []api.Params {
	return []api.Params{
		{N: 254, T: 1, K: 1, E: 126, Room: 9},
		{N: 254, T: 253, K: 1, E: 0, Room: 9},
		{N: 128, T: 1, K: 127, E: 0, Room: 9},
		{N: 200, T: 40, K: 55, E: 20, Room: 9},
		{N: 253, T: 1, K: 2, E: 3, Room: 9},
	}
}

// slowField has all products and inverses, by chapter 1's words.
type slowField struct {
	mul [256][256]byte
	inv [256]byte
}

func newSlow() *slowField {
	s := &slowField{}
	for a := range 256 {
		for b := range 256 {
			s.mul[a][b] = product(a, b)
			if s.mul[a][b] == 1 {
				s.inv[a] = byte(b)
			}
		}
	}
	return s
}

// product is that of a and b, bit by bit.
func product(a, b int) byte {
	sum := 0
	for i := range 8 {
		if b>>i&1 == 1 {
			sum ^= a << i
		}
	}
	for i := 14; i >= 8; i-- {
		if sum>>i&1 == 1 {
			sum ^= 0x11b << (i - 8)
		}
	}
	return byte(sum)
}

// value is q's value at x.
func (s *slowField) value(q []byte, x byte) byte {
	sum := byte(0)
	for i := len(q) - 1; i >= 0; i-- {
		sum = s.mul[sum][x] ^ q[i]
	}
	return sum
}

// through is the polynomial, without noughts at its end, that has the values
// ys at xs.
func (s *slowField) through(xs, ys []byte) []byte {
	sum := make([]byte, len(xs))
	for i := range xs {
		piece := []byte{ys[i]}
		for j := range xs {
			if i == j {
				continue
			}
			next := make([]byte, len(piece)+1)
			for k, c := range piece {
				c = s.mul[c][s.inv[xs[i]^xs[j]]]
				next[k] ^= s.mul[c][xs[j]]
				next[k+1] ^= c
			}
			piece = next
		}
		for k, c := range piece {
			sum[k] ^= c
		}
	}
	return bare(sum)
}

// bare is q without noughts at its end.
func bare(q []byte) []byte {
	return bytes.TrimRight(q, "\x00")
}

// choices calls do with each choice of n of the places from at to below total.
func choices(at, total, n int, chosen []int, do func([]int)) {
	if n == 0 {
		do(chosen)
		return
	}
	for i := at; i <= total-n; i++ {
		choices(i+1, total, n-1, append(chosen, i), do)
	}
}

// found is what Find answers.
type found struct {
	polys [][]byte
	wrong []int
	ok    bool
}

// slowFind is what Find answers of shares that are enough: of each column it
// looks among the polynomials through any T + K of the values.
func (s *slowField) slowFind(p api.Params, cols int, from []int, shares [][]byte) found {
	out := found{ok: true}
	bad := map[int]int{}
	for i := range cols {
		q, places, ok := s.slowColumn(p, i, from, shares)
		if !ok {
			return found{}
		}
		out.polys = append(out.polys, q)
		for _, place := range places {
			bad[from[place]]++
		}
	}
	for holder := range p.N {
		if bad[holder] > 0 {
			out.wrong = append(out.wrong, holder)
		}
	}
	return out
}

// slowColumn is the polynomial that is agreed on of column i, and the places
// of the shares that have something else.
func (s *slowField) slowColumn(p api.Params, i int, from []int, shares [][]byte) (q []byte, places []int, ok bool) {
	choices(0, len(from), p.T+p.K, nil, func(chosen []int) {
		var xs, ys []byte
		for _, place := range chosen {
			xs, ys = append(xs, byte(from[place]+1)), append(ys, shares[place][i])
		}
		try := s.through(xs, ys)
		var off []int
		for place, holder := range from {
			if s.value(try, byte(holder+1)) != shares[place][i] {
				off = append(off, place)
			}
		}
		if len(from)-len(off) >= p.T+p.K+p.E && len(off) <= p.E {
			q, places, ok = try, off, true
		}
	})
	return q, places, ok
}

func same(a, b [][]byte) bool {
	return slices.EqualFunc(a, b, bytes.Equal)
}

// check fails the test if Find does not answer want.
func check(t *testing.T, f *gf.Field, p api.Params, cols int, from []int, shares [][]byte, want found) {
	t.Helper()
	polys, wrong, ok := Find(f, p, cols, from, shares)
	if ok != want.ok || !same(polys, want.polys) || !slices.Equal(wrong, want.wrong) {
		t.Fatalf("Find(%+v, %d, %v, %v): %v, %v, %v, want %+v", p, cols, from, shares, polys, wrong, ok, want)
	}
}

// refused fails the test if not all three calls answer nothing and false of
// these shares; size has cols columns.
func refused(t *testing.T, f *gf.Field, p api.Params, size, cols int, from []int, shares [][]byte) {
	t.Helper()
	check(t, f, p, cols, from, shares, found{})
	if data, wrong, ok := Open(f, p, size, from, shares); ok || len(data) != 0 || len(wrong) != 0 {
		t.Fatalf("Open(%+v, %d, %v, %v): %v, %v, %v", p, size, from, shares, data, wrong, ok)
	}
	if share, ok := At(f, p, cols, from, shares, 0); ok || len(share) != 0 {
		t.Fatalf("At(%+v, %d, %v, %v): %v, %v", p, cols, from, shares, share, ok)
	}
}

func bytesOf(r *rand.Rand, n int) []byte {
	b := make([]byte, n)
	r.Read(b)
	return b
}

// some is a polynomial of n bytes, some of them 0, and at times its last.
func some(r *rand.Rand, n int) []byte {
	q := bytesOf(r, n)
	for i := range q {
		if r.Intn(4) == 0 {
			q[i] = 0
		}
	}
	return q
}

// someOf is n holders, in any order.
func someOf(r *rand.Rand, p api.Params, n int) []int {
	return r.Perm(p.N)[:n]
}

// valuesOf is the shares of polys of the holders of from.
func (s *slowField) valuesOf(polys [][]byte, from []int) [][]byte {
	shares := make([][]byte, len(from))
	for i, holder := range from {
		for _, q := range polys {
			shares[i] = append(shares[i], s.value(q, byte(holder+1)))
		}
	}
	return shares
}

// polysOf is cols polynomials of the degree at most, bare.
func polysOf(r *rand.Rand, p api.Params, cols int) [][]byte {
	polys := make([][]byte, cols)
	for i := range polys {
		polys[i] = bare(some(r, p.T+p.K))
	}
	return polys
}

// turn changes byte col of n of shares, and tells whose they are.
func turn(r *rand.Rand, from []int, shares [][]byte, col, n int) []int {
	var who []int
	for _, place := range r.Perm(len(shares))[:n] {
		shares[place][col] ^= byte(1 + r.Intn(255))
		who = append(who, from[place])
	}
	return who
}

// shareOf is a document's shares by tape r, of the holders of from.
func shareOf(f *gf.Field, r *rand.Rand, p api.Params, data []byte, from []int) [][]byte {
	cols := (len(data) + p.K - 1) / p.K
	all, _ := deal.Share(f, p, data, bytesOf(r, cols*p.T))
	shares := make([][]byte, len(from))
	for i, holder := range from {
		shares[i] = all[holder]
	}
	return shares
}

// P11.1: the chapter's example.
func TestExample(t *testing.T) {
	f, r := gf.New(), rand.New(rand.NewSource(1))
	p := api.Params{N: 5, T: 1, K: 1, E: 1, Room: 1}
	data := []byte{7}
	three, five := []int{0, 2, 4}, []int{0, 1, 2, 3, 4}
	shares := shareOf(f, r, p, data, three)
	if got, wrong, ok := Open(f, p, 1, three, shares); !ok || !bytes.Equal(got, data) || len(wrong) != 0 {
		t.Error(got, wrong, ok)
	}
	shares[1][0] ^= 1
	refused(t, f, p, 1, 1, three, shares)
	shares = shareOf(f, r, p, data, five)
	shares[1][0] ^= 1
	if got, wrong, ok := Open(f, p, 1, five, shares); !ok || !bytes.Equal(got, data) || !slices.Equal(wrong, []int{1}) {
		t.Error(got, wrong, ok)
	}
}

// P11.1: as many shares as may be or not, some of them turned, against a look
// through all choices.
func TestFindSlow(t *testing.T) {
	f, s, r := gf.New(), newSlow(), rand.New(rand.NewSource(2))
	yes, no := 0, 0
	for _, p := range small() {
		for n := p.T + p.K + p.E; n <= p.N; n++ {
			for range 150 {
				from, cols := someOf(r, p, n), r.Intn(4)
				shares := s.valuesOf(polysOf(r, p, cols), from)
				for i := range cols {
					turn(r, from, shares, i, r.Intn(min(n, p.E+1)+1))
				}
				want := s.slowFind(p, cols, from, shares)
				check(t, f, p, cols, from, shares, want)
				if want.ok {
					yes++
				} else {
					no++
				}
			}
		}
	}
	if yes < 500 || no < 500 {
		t.Error("too few of a kind", yes, no)
	}
}

// P11.1: bytes without any rule: mostly none is agreed on.
func TestFindNoise(t *testing.T) {
	f, s, r := gf.New(), newSlow(), rand.New(rand.NewSource(3))
	for _, p := range small() {
		for range 100 {
			n := p.T + p.K + p.E + r.Intn(p.N-p.T-p.K-p.E+1)
			from := someOf(r, p, n)
			shares := make([][]byte, n)
			for i := range shares {
				// Few values, so that now and then some agree.
				shares[i] = []byte{byte(r.Intn(2)), byte(r.Intn(2))}
			}
			check(t, f, p, 2, from, shares, s.slowFind(p, 2, from, shares))
		}
	}
}

// P11.1: with E turned, T + K + 2 E shares tell all, and one fewer nothing; so
// do T + K + E that are all right, and one more that are turned nothing.
func TestFindEdges(t *testing.T) {
	f, s, r := gf.New(), newSlow(), rand.New(rand.NewSource(4))
	for _, p := range append(small(), great()...) {
		least := p.T + p.K + p.E
		polys := polysOf(r, p, 2)
		from := someOf(r, p, least+p.E)
		shares := s.valuesOf(polys, from)
		who := turn(r, from, shares, 1, p.E)
		slices.Sort(who)
		check(t, f, p, 2, from, shares, found{polys, who, true})
		if p.E > 0 {
			// One of those that are right goes.
			i := slices.IndexFunc(from, func(holder int) bool { return !slices.Contains(who, holder) })
			check(t, f, p, 2, slices.Delete(slices.Clone(from), i, i+1), slices.Delete(slices.Clone(shares), i, i+1), found{})
		}
		from = someOf(r, p, least)
		shares = s.valuesOf(polys, from)
		check(t, f, p, 2, from, shares, found{polys, nil, true})
		if p.E > 0 {
			shares[0][0] ^= 8
			check(t, f, p, 2, from, shares, found{})
		}
	}
}

// P11.1: more shares than need be do not make up for more than E wrong ones.
func TestFindTooManyWrong(t *testing.T) {
	f, s, r := gf.New(), newSlow(), rand.New(rand.NewSource(5))
	for _, p := range []api.Params{{N: 30, T: 2, K: 2, E: 0, Room: 1}, {N: 30, T: 2, K: 2, E: 1, Room: 1}, {N: 30, T: 1, K: 3, E: 4, Room: 1}} {
		polys := polysOf(r, p, 3)
		from := someOf(r, p, p.N)
		for _, n := range []int{p.E, p.E + 1, p.E + 2, p.N} {
			shares := s.valuesOf(polys, from)
			who := turn(r, from, shares, 2, n)
			slices.Sort(who)
			want := found{polys, who, true}
			if n > p.E {
				want = found{}
			}
			check(t, f, p, 3, from, shares, want)
		}
	}
}

// P11.1: E wrong ones are borne in each column: in all they may be more; one
// that is wrong in many columns is told once; all are told rising.
func TestFindWrongByColumns(t *testing.T) {
	f, s := gf.New(), newSlow()
	p := api.Params{N: 7, T: 1, K: 2, E: 1, Room: 1}
	polys := [][]byte{{1, 2, 3}, {}, {9}, {0, 0, 4}}
	from := []int{6, 3, 0, 5, 1, 4}
	turned := func(places ...int) [][]byte {
		shares := s.valuesOf(polys, from)
		for col, place := range places {
			if place >= 0 {
				shares[place][col] ^= 255
			}
		}
		return shares
	}
	check(t, f, p, 4, from, turned(), found{polys, nil, true})
	check(t, f, p, 4, from, turned(0, 5, 2, 1), found{polys, []int{0, 3, 4, 6}, true})
	check(t, f, p, 4, from, turned(0, 0, 0, 0), found{polys, []int{6}, true})
	check(t, f, p, 4, from, turned(1, 0, 1, 0), found{polys, []int{3, 6}, true})
	check(t, f, p, 4, from, turned(-1, -1, -1, 2), found{polys, []int{0}, true})
	both := turned(-1, -1, 4, -1)
	both[3][2] ^= 1
	check(t, f, p, 4, from, both, found{})
}

// P11.1: the degree is T + K - 1: values of one that is higher by one are not
// agreed on, in whichever column they stand.
func TestFindDegree(t *testing.T) {
	f, s, r := gf.New(), newSlow(), rand.New(rand.NewSource(6))
	for _, p := range append(small(), great()...) {
		if p.N == p.T+p.K {
			continue // whatever N values are, they have such a polynomial
		}
		from := someOf(r, p, p.N)
		for col := range 3 {
			polys := polysOf(r, p, 3)
			polys[col] = append(bytesOf(r, p.T+p.K-1), 5)
			check(t, f, p, 3, from, s.valuesOf(polys, from), found{polys, nil, true})
			polys[col] = append(bytesOf(r, p.T+p.K), 5)
			check(t, f, p, 3, from, s.valuesOf(polys, from), found{})
		}
	}
}

// P11.1: of 0 columns, and of an object of 0 bytes: nothing, nobody, and true.
func TestNoColumns(t *testing.T) {
	f, r := gf.New(), rand.New(rand.NewSource(7))
	for _, p := range append(small(), great()...) {
		for n := p.T + p.K + p.E; n <= p.N; n++ {
			from, shares := someOf(r, p, n), make([][]byte, n)
			check(t, f, p, 0, from, shares, found{ok: true})
			if data, wrong, ok := Open(f, p, 0, from, shares); !ok || len(data) != 0 || len(wrong) != 0 {
				t.Fatal(p, n, data, wrong, ok)
			}
			if share, ok := At(f, p, 0, from, shares, p.N-1); !ok || len(share) != 0 {
				t.Fatal(p, n, share, ok)
			}
		}
		n := p.T + p.K + p.E - 1
		refused(t, f, p, 0, 0, someOf(r, p, n), make([][]byte, n))
	}
}

// P11.1: of 0 columns, too, shares may be not enough, though no polynomial is
// looked for.
func TestNoColumnsRefused(t *testing.T) {
	f, r := gf.New(), rand.New(rand.NewSource(19))
	for _, p := range append(small(), great()...) {
		from, shares := someOf(r, p, p.N), make([][]byte, p.N)
		refused(t, f, p, 0, 0, nil, nil)
		refused(t, f, p, 0, 0, nil, shares)
		refused(t, f, p, 0, 0, from, nil)
		refused(t, f, p, 0, 0, from[1:], shares)
		refused(t, f, p, 0, 0, from, shares[1:])
		refused(t, f, p, 0, 0, from, append(slices.Clone(shares), nil))
		refused(t, f, p, 0, 0, slices.Concat(from, from), slices.Concat(shares, shares))
		was := from[p.N-1]
		for _, other := range []int{math.MinInt, -1, p.N, was + 256, was - 256, math.MaxInt, from[0], from[p.N-2]} {
			from[p.N-1] = other
			refused(t, f, p, 0, 0, from, shares)
		}
		from[p.N-1] = was
		shares[0] = []byte{0}
		refused(t, f, p, 0, 0, from, shares)
	}
}

// P11.1: too few shares, fewer or more shares than holders, none at all.
func TestNotEnough(t *testing.T) {
	f, r := gf.New(), rand.New(rand.NewSource(8))
	for _, p := range append(small(), great()...) {
		size := p.K + 1
		from := someOf(r, p, p.N)
		shares := shareOf(f, r, p, bytesOf(r, size), from)
		for n := range p.T + p.K + p.E {
			refused(t, f, p, size, 2, from[:n], shares[:n])
		}
		refused(t, f, p, size, 2, nil, nil)
		refused(t, f, p, size, 2, from, nil)
		refused(t, f, p, size, 2, nil, shares)
		refused(t, f, p, size, 2, from, shares[1:])
		refused(t, f, p, size, 2, from[1:], shares)
		refused(t, f, p, size, 2, from, append(slices.Clone(shares), []byte{1, 2}))
	}
}

// P11.1: holders that come twice, and numbers that are no holder's, those with
// a holder's point modulo 256 too, at each place.
func TestNoHolders(t *testing.T) {
	f, s, r := gf.New(), newSlow(), rand.New(rand.NewSource(9))
	for _, p := range append(small(), great()[0]) {
		from := someOf(r, p, p.N)
		shares := shareOf(f, r, p, []byte{1}, from)
		for place := range from {
			if p.N > 20 && place%60 > 0 {
				continue
			}
			was := from[place]
			for _, other := range []int{math.MinInt, -256, -2, -1, p.N, p.N + 1, 254, 255, 256, was + 256, was - 256, math.MaxInt, from[(place+1)%p.N], from[(place+p.N-1)%p.N]} {
				if other == was {
					continue
				}
				from[place] = other
				refused(t, f, p, 1, 1, from, shares)
			}
			from[place] = was
		}
		// More parts than there are holders, each one right by itself.
		refused(t, f, p, 1, 1, slices.Concat(from, from), slices.Concat(shares, shares))
		check(t, f, p, 1, from, shares, s.firstOf(p, from, shares))
	}
}

// firstOf is what Find answers of one column of shares that are all right.
func (s *slowField) firstOf(p api.Params, from []int, shares [][]byte) found {
	var xs, ys []byte
	for i := range p.T + p.K {
		xs, ys = append(xs, byte(from[i]+1)), append(ys, shares[i][0])
	}
	return found{[][]byte{s.through(xs, ys)}, nil, true}
}

// P11.1: a share that is longer or shorter than cols, at each place, and a
// number of columns that no share has.
func TestShareLengths(t *testing.T) {
	f, r := gf.New(), rand.New(rand.NewSource(10))
	for _, p := range small() {
		size := 2*p.K + 1
		from := someOf(r, p, p.N)
		shares := shareOf(f, r, p, bytesOf(r, size), from)
		for place, was := range shares {
			for _, other := range [][]byte{nil, {}, was[:2], append(bytes.Clone(was), 0)} {
				shares[place] = other
				refused(t, f, p, size, 3, from, shares)
			}
			shares[place] = was
		}
		for _, cols := range []int{math.MinInt, -3, -1, 0, 2, 4, 256, math.MaxInt} {
			check(t, f, p, cols, from, shares, found{})
			if share, ok := At(f, p, cols, from, shares, 0); ok || len(share) != 0 {
				t.Fatal(p, cols, share, ok)
			}
		}
		for _, n := range []int{0, p.K, 2 * p.K, 3*p.K + 1, api.MaxData} {
			if data, wrong, ok := Open(f, p, n, from, shares); ok || len(data) != 0 || len(wrong) != 0 {
				t.Fatal(p, n, data, wrong, ok)
			}
		}
	}
}

// P11.2: documents of all sizes come back, from any holders that are enough,
// in any order, with E of each column turned where there are E more.
func TestOpenSizes(t *testing.T) {
	f, r := gf.New(), rand.New(rand.NewSource(11))
	for _, p := range small() {
		for size := range api.MaxData + 1 {
			data := bytesOf(r, size)
			n := p.T + p.K + p.E + r.Intn(p.N-p.T-p.K-p.E+1)
			from := someOf(r, p, n)
			shares := shareOf(f, r, p, data, from)
			var who []int
			for col := range shares[0] {
				who = append(who, turn(r, from, shares, col, min(p.E, n-p.T-p.K-p.E))...)
			}
			slices.Sort(who)
			who = slices.Compact(who)
			got, wrong, ok := Open(f, p, size, from, shares)
			if !ok || !bytes.Equal(got, data) || !slices.Equal(wrong, who) {
				t.Fatalf("%+v, %v: %v, %v, %v, want %v, %v", p, from, got, wrong, ok, data, who)
			}
		}
	}
}

// P11.2: at the ends of what params may be, and of sizes.
func TestOpenGreat(t *testing.T) {
	f, r := gf.New(), rand.New(rand.NewSource(12))
	for _, p := range great() {
		for _, size := range []int{1, api.MaxData - 1, api.MaxData} {
			if p.K < 50 && size > 1 {
				size = 2*p.K + 1
			}
			data := bytesOf(r, size)
			from := someOf(r, p, p.T+p.K+2*p.E)
			shares := shareOf(f, r, p, data, from)
			who := turn(r, from, shares, 0, p.E)
			slices.Sort(who)
			got, wrong, ok := Open(f, p, size, from, shares)
			if !ok || !bytes.Equal(got, data) || !slices.Equal(wrong, who) {
				t.Fatalf("%+v: %v, %v, %v, want %v, %v", p, got, wrong, ok, data, who)
			}
		}
	}
}

// P11.2: sizes that are none, with shares of as many bytes as they would have
// columns.
func TestOpenSizeRefused(t *testing.T) {
	f := gf.New()
	for _, p := range append(small(), great()...) {
		from := make([]int, p.N)
		for i := range from {
			from[i] = i
		}
		for _, size := range []int{math.MinInt, -257, -256, -p.K, -1, 257, 258, 512, 1 << 12} {
			shares := make([][]byte, p.N)
			for i := range shares {
				shares[i] = make([]byte, max(0, (size+p.K-1)/p.K))
			}
			if data, wrong, ok := Open(f, p, size, from, shares); ok || len(data) != 0 || len(wrong) != 0 {
				t.Fatal(p, size, len(data), wrong, ok)
			}
		}
		if _, _, ok := Open(f, p, math.MaxInt, from, make([][]byte, p.N)); ok {
			t.Fatal(p)
		}
	}
}

// P11.2: the values at the points of secrets, in order, also where those behind
// the document's end are not 0: what size tells is told, no more.
func TestOpenValues(t *testing.T) {
	f, s, r := gf.New(), newSlow(), rand.New(rand.NewSource(13))
	for _, p := range append(small(), great()...) {
		polys := polysOf(r, p, 2)
		from := someOf(r, p, p.T+p.K+p.E)
		var all []byte
		for _, q := range polys {
			for x := p.N + 1; x <= p.N+p.K; x++ {
				all = append(all, s.value(q, byte(x)))
			}
		}
		for size := p.K + 1; size <= 2*p.K; size++ {
			if p.K > 10 && size%20 > 0 {
				continue
			}
			got, wrong, ok := Open(f, p, min(size, api.MaxData), from, s.valuesOf(polys, from))
			if !ok || !bytes.Equal(got, all[:size]) || len(wrong) != 0 {
				t.Fatalf("%+v, %d: %v, %v, %v, want %v", p, size, got, wrong, ok, all)
			}
		}
	}
}

// P11.2: each holder's share comes back, whether it is among from or not, and
// though its own is wrong.
func TestAt(t *testing.T) {
	f, s, r := gf.New(), newSlow(), rand.New(rand.NewSource(14))
	for _, p := range append(small(), great()[3:]...) {
		for _, n := range []int{p.T + p.K + p.E, p.T + p.K + 2*p.E} {
			polys := polysOf(r, p, 3)
			from := someOf(r, p, n)
			shares := s.valuesOf(polys, from)
			for col := range polys {
				turn(r, from, shares, col, min(p.E, n-p.T-p.K-p.E))
			}
			for target := 0; target < p.N; target += 1 + p.N/20 {
				want := s.valuesOf(polys, []int{target})[0]
				if got, ok := At(f, p, 3, from, shares, target); !ok || !bytes.Equal(got, want) {
					t.Fatalf("%+v, %v, %d: %v, %v, want %v", p, from, target, got, ok, want)
				}
			}
			for _, target := range []int{math.MinInt, -256, -255, -2, -1, p.N, p.N + 1, 254, 255, 256, 257, math.MaxInt} {
				if got, ok := At(f, p, 3, from, shares, target); ok || len(got) != 0 {
					t.Fatalf("%+v, %d: %v, %v", p, target, got, ok)
				}
			}
		}
	}
}

// P11.2: At answers nothing where Find does.
func TestAtNotAgreed(t *testing.T) {
	f, s, r := gf.New(), newSlow(), rand.New(rand.NewSource(15))
	for _, p := range small() {
		if p.N == p.T+p.K {
			continue
		}
		polys := polysOf(r, p, 2)
		polys[1] = append(bytesOf(r, p.T+p.K), 1)
		from := someOf(r, p, p.N)
		refused(t, f, p, 2*p.K, 2, from, s.valuesOf(polys, from))
	}
}

// P1, by P11.2: where more than E are turned, what is told is nothing, or what
// another document's shares, but for E of them, would be: no answer has more
// than E wrong ones of a column.
func TestNoMoreThanE(t *testing.T) {
	f, r := gf.New(), rand.New(rand.NewSource(16))
	for _, p := range small() {
		for range 300 {
			from := someOf(r, p, p.N)
			shares := shareOf(f, r, p, bytesOf(r, 1), from)
			turn(r, from, shares, 0, r.Intn(p.N+1))
			if _, wrong, ok := Open(f, p, 1, from, shares); ok && len(wrong) > p.E {
				t.Fatal(p, wrong)
			}
		}
	}
}

// roomy is a copy of list with spare room behind it, and all of that memory.
func roomy[E any](list []E, spare E) (short, all []E) {
	all = append(slices.Clone(list), spare, spare, spare, spare)
	return all[:len(list)], all
}

// fill puts x into all of list's memory, its spare room too.
func fill[E any](list []E, x E) {
	list = list[:cap(list)]
	for i := range list {
		list[i] = x
	}
}

// cloned is a copy of rows and of what they have.
func cloned(rows [][]byte) [][]byte {
	out := make([][]byte, len(rows))
	for i, row := range rows {
		out[i] = bytes.Clone(row)
	}
	return out
}

// R4: nothing handed in is changed, spare room included.
func TestNotChanged(t *testing.T) {
	f, s, r := gf.New(), newSlow(), rand.New(rand.NewSource(17))
	for _, p := range small() {
		from, allFrom := roomy(someOf(r, p, p.N), 1)
		values := s.valuesOf(polysOf(r, p, 3), from)
		turn(r, from, values, 1, p.E)
		var whole [][]byte
		for i := range values {
			var all []byte
			values[i], all = roomy(values[i], 201)
			whole = append(whole, all)
		}
		shares, allShares := roomy(values, []byte{7})
		wasFrom, wasWhole, wasShares := slices.Clone(allFrom), cloned(whole), cloned(allShares)
		polys, wrong, ok := Find(f, p, 3, from, shares)
		data, bad, okOpen := Open(f, p, 3*p.K, from, shares)
		share, okAt := At(f, p, 3, from, shares, 0)
		if !ok || !okOpen || !okAt {
			t.Fatal(p)
		}
		for _, q := range polys {
			fill(q, 99)
		}
		fill(polys, []byte{98})
		fill(wrong, 97)
		fill(bad, 97)
		fill(data, 96)
		fill(share, 95)
		if !slices.Equal(allFrom, wasFrom) || !same(whole, wasWhole) || !same(allShares, wasShares) {
			t.Fatalf("%+v: changed", p)
		}
	}
}

// R4, R5: nothing is kept, no two answers, and no two lists of one, have memory
// in common, and the same call answers the same once more.
func TestNotKept(t *testing.T) {
	f, s, r := gf.New(), newSlow(), rand.New(rand.NewSource(18))
	for _, p := range small() {
		from := someOf(r, p, p.N)
		polys := polysOf(r, p, 3)
		polys[2] = bytes.Clone(polys[0])
		shares := s.valuesOf(polys, from)
		who := turn(r, from, shares, 1, p.E)
		slices.Sort(who)
		wasFrom, wasShares := slices.Clone(from), cloned(shares)
		got, wrong, _ := Find(f, p, 3, from, shares)
		data, bad, _ := Open(f, p, 3*p.K, from, shares)
		share, _ := At(f, p, 3, from, shares, 0)
		wantData, wantShare := bytes.Clone(data), bytes.Clone(share)
		for i := range shares {
			fill(shares[i], 66)
		}
		fill(from, 0)
		for i := range got {
			if !same(got[i:], polys[i:]) {
				t.Fatalf("%+v: %v, want %v", p, got[i:], polys[i:])
			}
			fill(got[i], 99)
		}
		if !slices.Equal(wrong, who) || !slices.Equal(bad, who) || !bytes.Equal(data, wantData) || !bytes.Equal(share, wantShare) {
			t.Fatalf("%+v: %v, %v, %v, %v", p, wrong, bad, data, share)
		}
		check(t, f, p, 3, wasFrom, wasShares, found{polys, who, true})
		if data, _, _ := Open(gf.New(), p, 3*p.K, wasFrom, wasShares); !bytes.Equal(data, wantData) {
			t.Fatalf("%+v: another answer", p)
		}
	}
}
