package deal

import (
	"bytes"
	"math"
	"math/big"
	"math/rand"
	"slices"
	"testing"

	"shamrock/api"
	"shamrock/gf"
	"shamrock/poly"
	"shamrock/stripe"
)

var kinds = []int{api.KindPut, api.KindRefresh, api.KindRecover, api.KindAudit}

// some is params that may be, small ones and those at the ends of what may be.
func some() []api.Params {
	return []api.Params{
		{N: 2, T: 1, K: 1, E: 0, Room: 1},
		{N: 3, T: 1, K: 1, E: 0, Room: 9},
		{N: 5, T: 1, K: 2, E: 1, Room: 9},
		{N: 5, T: 2, K: 3, E: 0, Room: 512},
		{N: 6, T: 2, K: 1, E: 1, Room: 9},
		{N: 9, T: 3, K: 2, E: 2, Room: 9},
		{N: 12, T: 1, K: 5, E: 1, Room: 9},
		{N: 254, T: 1, K: 1, E: 126, Room: 9},
		{N: 254, T: 253, K: 1, E: 0, Room: 9},
		{N: 128, T: 1, K: 127, E: 0, Room: 9},
		{N: 200, T: 40, K: 55, E: 20, Room: 9},
	}
}

// slowMul is the product of a and b, bit by bit.
func slowMul(a, b byte) byte {
	sum := 0
	for i := range 8 {
		if b>>i&1 == 1 {
			sum ^= int(a) << i
		}
	}
	for i := 14; i >= 8; i-- {
		if sum>>i&1 == 1 {
			sum ^= 0x11b << (i - 8)
		}
	}
	return byte(sum)
}

// slowField has all products and inverses, by slowMul.
type slowField struct {
	mul [256][256]byte
	inv [256]byte
}

func newSlow() *slowField {
	s := &slowField{}
	for a := range 256 {
		for b := range 256 {
			s.mul[a][b] = slowMul(byte(a), byte(b))
			if s.mul[a][b] == 1 {
				s.inv[a] = byte(b)
			}
		}
	}
	return s
}

// value is the value of u at x.
func (s *slowField) value(u []byte, x byte) byte {
	sum := byte(0)
	for i := len(u) - 1; i >= 0; i-- {
		sum = s.mul[sum][x] ^ u[i]
	}
	return sum
}

// less is the product of x less each of roots.
func (s *slowField) less(x byte, roots ...byte) byte {
	product := byte(1)
	for _, root := range roots {
		product = s.mul[product][x^root]
	}
	return product
}

// secret is the value at x of what has the bytes of col at N + 1, ...
func (s *slowField) secret(p api.Params, col []byte, x byte) byte {
	sum := byte(0)
	for i := range p.K {
		piece := col[i]
		for j := range p.K {
			if j != i {
				a, b := byte(p.N+1+i), byte(p.N+1+j)
				piece = s.mul[piece][s.mul[x^b][s.inv[a^b]]]
			}
		}
		sum ^= piece
	}
	return sum
}

// secrets is N + 1 to N + K.
func secrets(p api.Params) []byte {
	var points []byte
	for x := p.N + 1; x <= p.N+p.K; x++ {
		points = append(points, byte(x))
	}
	return points
}

// slow is what Share, Zeros, Blinds or Masks answers, value by value.
func (s *slowField) slow(p api.Params, kind, target, cols, per int, data, rnd []byte) [][]byte {
	roots := map[int][]byte{api.KindPut: secrets(p), api.KindRefresh: secrets(p), api.KindRecover: {byte(target + 1)}}[kind]
	shares := make([][]byte, p.N)
	for i := range cols {
		u := rnd[i*per : (i+1)*per]
		col := make([]byte, p.K)
		if kind == api.KindPut {
			copy(col, data[i*p.K:])
		}
		for holder := range shares {
			x := byte(holder + 1)
			shares[holder] = append(shares[holder], s.secret(p, col, x)^s.mul[s.less(x, roots...)][s.value(u, x)])
		}
	}
	return shares
}

// dealt is what the call of that kind answers.
func dealt(f *gf.Field, p api.Params, kind, target, cols int, data, rnd []byte) ([][]byte, bool) {
	switch kind {
	case api.KindPut:
		return Share(f, p, data, rnd)
	case api.KindRefresh:
		return Zeros(f, p, cols, rnd)
	case api.KindRecover:
		return Blinds(f, p, target, cols, rnd)
	}
	return Masks(f, p, cols, rnd)
}

// perColumn is how many random bytes a column takes.
func perColumn(p api.Params, kind int) int {
	return map[int]int{api.KindPut: p.T, api.KindRefresh: p.T, api.KindRecover: p.T + p.K - 1, api.KindAudit: p.T + p.K}[kind]
}

func random8(r *rand.Rand, n int) []byte {
	b := make([]byte, n)
	r.Read(b)
	return b
}

func same(a, b [][]byte) bool {
	return slices.EqualFunc(a, b, bytes.Equal)
}

// refused fails the test if not nothing and false was answered.
func refused(t *testing.T, shares [][]byte, ok bool, what ...any) {
	t.Helper()
	if ok || len(shares) != 0 {
		t.Fatal(append(what, "want nothing, false, got", shares, ok)...)
	}
}

// P10.1: the chapter's example.
func TestExample(t *testing.T) {
	p := api.Params{N: 3, T: 1, K: 1, E: 0, Room: 1}
	if n := Need(p, api.KindAudit, 2); n != 4 {
		t.Error(n)
	}
	if x := Point(0); x != 1 {
		t.Error(x)
	}
	if s := Secrets(p); !bytes.Equal(s, []byte{4}) {
		t.Error(s)
	}
}

// mayBe is the chapter's words by numbers that have no ends.
func mayBe(p api.Params) bool {
	n := func(x int) *big.Int { return big.NewInt(int64(x)) }
	least := new(big.Int).Add(n(p.T), n(p.K))
	least.Add(least, n(p.E)).Add(least, n(p.E))
	points := new(big.Int).Add(n(p.N), n(p.K))
	return p.T >= 1 && p.K >= 1 && p.E >= 0 && p.Room >= 1 && p.Room <= 512 && n(p.N).Cmp(least) >= 0 && points.Cmp(n(255)) <= 0
}

// P10.1: all small params, and all out of numbers at the ends.
func TestGood(t *testing.T) {
	check := func(p api.Params) {
		if got, want := Good(p), mayBe(p); got != want {
			t.Fatalf("Good(%+v): %v, want %v", p, got, want)
		}
	}
	for n := -1; n < 10; n++ {
		for tt := -1; tt < 8; tt++ {
			for k := -1; k < 8; k++ {
				for e := -1; e < 4; e++ {
					for room := range 2 {
						check(api.Params{N: n, T: tt, K: k, E: e, Room: room})
					}
				}
			}
		}
	}
	ends := []int{math.MinInt, math.MinInt + 1, math.MinInt / 2, math.MinInt/2 - 1, -256, -1, 0, 1, 2, 126, 127, 128, 253, 254, 255, 256, math.MaxInt/2 - 1, math.MaxInt / 2, math.MaxInt/2 + 1, math.MaxInt - 254, math.MaxInt - 1, math.MaxInt}
	for _, n := range ends {
		for _, tt := range ends {
			for _, k := range ends {
				for _, e := range ends {
					check(api.Params{N: n, T: tt, K: k, E: e, Room: 7})
				}
			}
		}
	}
	for _, room := range []int{math.MinInt, -1, 0, 1, 2, 511, 512, 513, math.MaxInt} {
		check(api.Params{N: 2, T: 1, K: 1, Room: room})
	}
}

// P10.1: the edges by name, so that the model is not wrong along with Good.
func TestGoodEdges(t *testing.T) {
	for _, p := range some() {
		if !Good(p) {
			t.Errorf("%+v may be", p)
		}
	}
	for _, p := range []api.Params{
		{}, {N: 2, T: 1, K: 1, Room: 0}, {N: 2, T: 1, K: 1, Room: 513}, {N: 2, T: 0, K: 1, Room: 1}, {N: 2, T: 1, K: 0, Room: 1},
		{N: 4, T: 1, K: 1, E: -1, Room: 1}, {N: 1, T: 1, K: 1, Room: 1}, {N: 3, T: 1, K: 1, E: 1, Room: 1}, {N: 255, T: 1, K: 1, Room: 1},
		{N: 129, T: 1, K: 127, Room: 1}, {N: 128, T: 2, K: 127, Room: 1}, {N: 5, T: math.MaxInt, K: 1, Room: 1}, {N: 5, T: 1, K: 1, E: 1 << 62, Room: 1},
	} {
		if Good(p) {
			t.Errorf("%+v may not be", p)
		}
	}
}

// P10.1: holders' points, any number's modulo 256.
func TestPoint(t *testing.T) {
	for holder := -600; holder < 600; holder++ {
		if got, want := Point(holder), byte((holder+1+1024)%256); got != want {
			t.Fatalf("Point(%d): %d, want %d", holder, got, want)
		}
	}
	for holder, want := range map[int]byte{math.MaxInt: 0, math.MaxInt - 1: 255, math.MinInt: 1, math.MinInt + 1: 2} {
		if got := Point(holder); got != want {
			t.Errorf("Point(%d): %d, want %d", holder, got, want)
		}
	}
}

// P10.1: points in the order of the holders, none left out.
func TestPoints(t *testing.T) {
	p := api.Params{N: 9, T: 3, K: 2, E: 2, Room: 9}
	for _, holders := range [][]int{nil, {}, {0}, {8}, {8, 0, 3}, {4, 4, 1, 4}, {0, 1, 2, 3, 4, 5, 6, 7, 8}, {-1, 255, 256, math.MaxInt, math.MinInt}} {
		var want []byte
		for _, holder := range holders {
			want = append(want, Point(holder))
		}
		was := slices.Clone(holders)
		if got := Points(p, holders); !bytes.Equal(got, want) || !slices.Equal(holders, was) {
			t.Errorf("Points(%v): %v, want %v", holders, got, want)
		}
	}
}

// P10.1: the points of secrets, and that no holder has one of them.
func TestSecrets(t *testing.T) {
	for _, p := range some() {
		got := Secrets(p)
		if !bytes.Equal(got, secrets(p)) {
			t.Errorf("Secrets(%+v): %v", p, got)
		}
		for holder := range p.N {
			if x := Point(holder); x == 0 || bytes.IndexByte(got, x) >= 0 {
				t.Errorf("%+v: holder %d has a secret's point", p, holder)
			}
		}
		got[0] = 77
		if !bytes.Equal(Secrets(p), secrets(p)) {
			t.Error("an answer is kept")
		}
	}
}

// P10.1: random bytes by kinds, and 0 of those that are none.
func TestNeed(t *testing.T) {
	for _, p := range some() {
		for _, cols := range []int{0, 1, 2, 3, 255, 4095, 4096} {
			for _, kind := range kinds {
				if got, want := Need(p, kind, cols), cols*perColumn(p, kind); got != want {
					t.Errorf("Need(%+v, %d, %d): %d, want %d", p, kind, cols, got, want)
				}
			}
			for _, kind := range []int{0, -1, 5, 6, 255, 257, math.MinInt, math.MaxInt} {
				if got := Need(p, kind, cols); got != 0 {
					t.Errorf("Need(%+v, %d, %d): %d, want 0", p, kind, cols, got)
				}
			}
		}
	}
}

// P10.2, P10.3: shares, value by value.
func TestDealt(t *testing.T) {
	f, s, r := gf.New(), newSlow(), rand.New(rand.NewSource(10))
	for _, p := range some() {
		for _, cols := range []int{0, 1, 2, 5} {
			if p.N > 20 && cols > 2 {
				continue
			}
			for _, kind := range kinds {
				target := r.Intn(p.N)
				data := random8(r, cols*p.K)
				rnd := random8(r, cols*perColumn(p, kind))
				got, ok := dealt(f, p, kind, target, cols, data, rnd)
				if want := s.slow(p, kind, target, cols, perColumn(p, kind), data, rnd); !ok || !same(got, want) {
					t.Fatalf("%+v kind %d cols %d: %v, %v, want %v", p, kind, cols, got, ok, want)
				}
			}
		}
	}
}

// P10.2: a document that does not fill its last column is shared as if noughts
// followed; one of no bytes has a share of none with each holder.
func TestShareSizes(t *testing.T) {
	f, s, r := gf.New(), newSlow(), rand.New(rand.NewSource(11))
	for _, p := range some()[:7] {
		for size := range 3*p.K + 2 {
			data := random8(r, size)
			cols := (size + p.K - 1) / p.K
			rnd := random8(r, cols*p.T)
			full := append(bytes.Clone(data), make([]byte, cols*p.K-size)...)
			got, ok := Share(f, p, data, rnd)
			if want := s.slow(p, api.KindPut, 0, cols, p.T, full, rnd); !ok || len(got) != p.N || !same(got, want) {
				t.Fatalf("%+v, %d bytes: %v, %v, want %v", p, size, got, ok, want)
			}
			for _, share := range got {
				if len(share) != stripe.Columns(size, p.K) {
					t.Fatalf("%+v, %d bytes: a share of %d", p, size, len(share))
				}
			}
		}
	}
}

// P10.2, P10.3: as many columns as are promised.
func TestManyColumns(t *testing.T) {
	f, s, r := gf.New(), newSlow(), rand.New(rand.NewSource(12))
	const cols = 1 << 12
	for _, p := range []api.Params{{N: 2, T: 1, K: 1, Room: 1}, {N: 6, T: 2, K: 2, E: 1, Room: 1}} {
		for _, kind := range kinds {
			data := random8(r, cols*p.K)
			rnd := random8(r, cols*perColumn(p, kind))
			got, ok := dealt(f, p, kind, 1, cols, data, rnd)
			if !ok || !same(got, s.slow(p, kind, 1, cols, perColumn(p, kind), data, rnd)) {
				t.Fatalf("%+v kind %d", p, kind)
			}
		}
	}
}

// P10.2: any T + K shares tell the polynomial, it has the document at the points
// of secrets, and what it has beside is Z times the random bytes.
func TestShareTells(t *testing.T) {
	f, r := gf.New(), rand.New(rand.NewSource(13))
	for _, p := range some() {
		data, rnd := random8(r, p.K), random8(r, p.T)
		shares, _ := Share(f, p, data, rnd)
		who := r.Perm(p.N)[:p.T+p.K]
		var ys []byte
		for _, holder := range who {
			ys = append(ys, shares[holder][0])
		}
		q, _ := poly.Through(f, Points(p, who), ys)
		for i, x := range Secrets(p) {
			if poly.Eval(f, q, x) != data[i] {
				t.Fatalf("%+v: secret %d", p, i)
			}
		}
		u, _, _ := poly.Div(f, q, poly.Roots(f, secrets(p)))
		if !bytes.Equal(poly.Add(u, nil), poly.Add(rnd, nil)) {
			t.Fatalf("%+v: %v, want %v", p, u, rnd)
		}
	}
}

// P2, by P10.2: T holders have each pair of values just once, whatever the
// document is, when the random bytes are all there can be.
func TestShareHides(t *testing.T) {
	f := gf.New()
	p := api.Params{N: 5, T: 2, K: 2, E: 0, Room: 9}
	for _, data := range [][]byte{{0, 0}, {9, 200}} {
		for _, pair := range [][2]int{{0, 1}, {1, 4}} {
			var seen [256][256]int
			for u := range 1 << 16 {
				shares, _ := Share(f, p, data, []byte{byte(u), byte(u >> 8)})
				seen[shares[pair[0]][0]][shares[pair[1]][0]]++
			}
			for a := range seen {
				for b, n := range seen[a] {
					if n != 1 {
						t.Fatalf("%v, holders %v: %d %d %d times", data, pair, a, b, n)
					}
				}
			}
		}
	}
}

// P10.3: renewed shares tell the same document; blinded ones the same share of
// the target.
func TestZerosAndBlindsKeep(t *testing.T) {
	f, r := gf.New(), rand.New(rand.NewSource(14))
	for _, p := range some() {
		data, target := random8(r, p.K), r.Intn(p.N)
		shares, _ := Share(f, p, data, random8(r, p.T))
		zeros, _ := Zeros(f, p, 1, random8(r, Need(p, api.KindRefresh, 1)))
		blinds, ok := Blinds(f, p, target, 1, random8(r, Need(p, api.KindRecover, 1)))
		if !ok || blinds[target][0] != 0 {
			t.Fatalf("%+v: the target's is %v", p, blinds[target])
		}
		var ys []byte
		who := make([]int, p.N)
		for holder := range who {
			who[holder] = holder
			y, _ := Sum(shares[holder], zeros[holder])
			ys = append(ys, y...)
		}
		q, _ := poly.Through(f, Points(p, who), ys)
		if poly.Degree(q) > p.T+p.K-1 {
			t.Fatalf("%+v: degree %d", p, poly.Degree(q))
		}
		for i, x := range Secrets(p) {
			if poly.Eval(f, q, x) != data[i] {
				t.Fatalf("%+v: secret %d", p, i)
			}
		}
	}
}

// P10.2, P10.3: one random byte too many, too few, those of another kind, of
// another number of columns.
func TestRandomRefused(t *testing.T) {
	f, r := gf.New(), rand.New(rand.NewSource(15))
	for _, p := range some()[:7] {
		for cols := range 4 {
			for _, kind := range kinds {
				need := cols * perColumn(p, kind)
				for n := range need + 12 {
					if n == need {
						continue
					}
					shares, ok := dealt(f, p, kind, 0, cols, random8(r, cols*p.K), random8(r, n))
					refused(t, shares, ok, p, kind, cols, n)
				}
				if need > 0 {
					shares, ok := dealt(f, p, kind, 0, cols, random8(r, cols*p.K), nil)
					refused(t, shares, ok, p, kind, cols, "nil")
				}
			}
		}
	}
}

// P10.3: targets that are no holders, with random bytes that would do.
func TestTargetRefused(t *testing.T) {
	f := gf.New()
	for _, p := range some() {
		for cols := range 2 {
			rnd := make([]byte, Need(p, api.KindRecover, cols))
			for _, target := range []int{math.MinInt, -257, -256, -2, -1, p.N, p.N + 1, p.N + p.K, 255, 256, math.MaxInt} {
				shares, ok := Blinds(f, p, target, cols, rnd)
				refused(t, shares, ok, p, target)
			}
			for _, target := range []int{0, p.N - 1} {
				if shares, ok := Blinds(f, p, target, cols, rnd); !ok || len(shares) != p.N {
					t.Fatalf("%+v target %d: %v", p, target, ok)
				}
			}
		}
	}
}

// P10.4: byte by byte, and refused where they are not as many.
func TestSum(t *testing.T) {
	r := rand.New(rand.NewSource(16))
	for n := range 40 {
		a, b := random8(r, n), random8(r, n)
		got, ok := Sum(a, b)
		if !ok || len(got) != n {
			t.Fatalf("Sum(%v, %v): %v, %v", a, b, got, ok)
		}
		for i := range n {
			if got[i] != a[i]^b[i] {
				t.Fatalf("Sum(%v, %v): %v", a, b, got)
			}
		}
		for m := range 40 {
			if got, ok := Sum(a, make([]byte, m)); ok != (n == m) || !ok && len(got) != 0 {
				t.Fatalf("Sum of %d and %d: %v, %v", n, m, got, ok)
			}
		}
	}
	for _, none := range [][2][]byte{{nil, nil}, {nil, {}}, {{}, nil}} {
		if got, ok := Sum(none[0], none[1]); !ok || len(got) != 0 {
			t.Errorf("Sum of nothing: %v, %v", got, ok)
		}
	}
}

// roomy is b with spare room behind it, and all of that memory.
func roomy(b []byte) (list, all []byte) {
	all = append(bytes.Clone(b), 201, 202, 203, 204, 205, 206, 207, 208)
	return all[:len(b)], all
}

// fill puts x into all of b's memory, its spare room too.
func fill(b []byte, x byte) {
	b = b[:cap(b)]
	for i := range b {
		b[i] = x
	}
}

// R4, R5: nothing handed in is changed or kept, no two shares have memory in
// common, and the same call answers the same once more.
func TestMemory(t *testing.T) {
	f, r := gf.New(), rand.New(rand.NewSource(17))
	for _, p := range some()[:7] {
		for _, kind := range kinds {
			for _, cols := range []int{1, 3} {
				data, allData := roomy(random8(r, cols*p.K-p.K/2))
				rnd, allRnd := roomy(random8(r, cols*perColumn(p, kind)))
				wasData, wasRnd := bytes.Clone(allData), bytes.Clone(allRnd)
				want, _ := dealt(f, p, kind, 0, cols, data, rnd)
				got, _ := dealt(f, p, kind, 0, cols, data, rnd)
				if !same(got, want) {
					t.Fatalf("%+v kind %d: another answer", p, kind)
				}
				for i := range got {
					fill(got[i], 99)
					if !same(got[i+1:], want[i+1:]) {
						t.Fatalf("%+v kind %d: share %d has memory of a later one", p, kind, i)
					}
				}
				if !bytes.Equal(allData, wasData) || !bytes.Equal(allRnd, wasRnd) {
					t.Fatalf("%+v kind %d: changed", p, kind)
				}
				data, rnd = bytes.Clone(data), bytes.Clone(rnd)
				again, _ := dealt(gf.New(), p, kind, 0, cols, data, rnd)
				fill(allData, 77)
				fill(allRnd, 77)
				if !same(again, want) {
					t.Fatalf("%+v kind %d: kept", p, kind)
				}
			}
		}
	}
}

// R4: the same of Sum.
func TestSumMemory(t *testing.T) {
	a, allA := roomy([]byte{1, 2})
	b, allB := roomy([]byte{3, 2})
	wasA, wasB := bytes.Clone(allA), bytes.Clone(allB)
	got, _ := Sum(a, b)
	fill(got, 99)
	if !bytes.Equal(allA, wasA) || !bytes.Equal(allB, wasB) {
		t.Error("changed")
	}
	if got, _ := Sum(a, a); !bytes.Equal(got, []byte{0, 0}) {
		t.Error(got)
	}
}

// Holders and columns are gone through again from the first, and no more of
// them are told than are asked for.
func TestToldOneByOne(t *testing.T) {
	all := holders(4)
	for range 2 {
		n := 0
		for holder, point := range all {
			if holder != n || point != byte(n+1) {
				t.Fatal(holder, point)
			}
			if n++; n == 2 {
				break
			}
		}
		if n != 2 {
			t.Fatal(n)
		}
	}
	cols := multiples(gf.New(), []byte{2}, []byte{1, 0, 0, 1, 5, 5}, 2)
	want := [][]byte{{2, 1}, {0, 2, 1}}
	for range 2 {
		var got [][]byte
		for i, q := range cols {
			if i != len(got) {
				t.Fatal(i)
			}
			if got = append(got, q); i == 1 {
				break
			}
		}
		if !same(got, want) {
			t.Fatal(got)
		}
	}
}
