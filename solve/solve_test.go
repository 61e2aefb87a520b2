package solve

import (
	"bytes"
	"math/rand"
	"testing"

	"shamrock/gf"
)

// product is that of two bytes, by chapter 1's words.
func product(a, b byte) byte {
	p := byte(0)
	for ; b > 0; b >>= 1 {
		if b&1 == 1 {
			p ^= a
		}
		high := a & 0x80
		a <<= 1
		if high != 0 {
			a ^= 0x1b
		}
	}
	return p
}

// pair is a column of two rows.
type pair [2]byte

func (p pair) plus(b byte, q pair) pair {
	return pair{p[0] ^ product(b, q[0]), p[1] ^ product(b, q[1])}
}

// span is all sums of columns, each times a byte, gone through one by one,
// with the bytes of those columns that were not free when they came.
type span map[pair][]byte

// slowSpan is the span of columns, and which of them are not free.
func slowSpan(columns []pair) (span, []int) {
	all := span{pair{}: nil}
	var leads []int
	for c, column := range columns {
		if _, free := all[column]; free {
			continue
		}
		leads = append(leads, c)
		more := span{}
		for sum, bytes := range all {
			for b := range 256 {
				more[sum.plus(byte(b), column)] = append(append([]byte{}, bytes...), byte(b))
			}
		}
		all = more
	}
	return all, leads
}

// slowSolve is the answer to two rows, by looking rhs up among all sums.
func slowSolve(columns []pair, all span, leads []int, rhs pair) ([]byte, bool) {
	bytes, ok := all[rhs]
	if !ok {
		return nil, false
	}
	x := make([]byte, len(columns))
	for i, c := range leads {
		x[c] = bytes[i]
	}
	return x, true
}

// check fails the test if Solve does not answer just x and ok.
func check(t *testing.T, f *gf.Field, rows [][]byte, rhs, x []byte, ok bool) {
	t.Helper()
	got, gotOK := Solve(f, rows, rhs)
	if gotOK != ok || !bytes.Equal(got, x) {
		t.Fatalf("Solve(%v, %v) = %v, %t, want %v, %t", rows, rhs, got, gotOK, x, ok)
	}
}

// checkRank fails the test if Rank does not answer n.
func checkRank(t *testing.T, f *gf.Field, rows [][]byte, n int) {
	t.Helper()
	if got := Rank(f, rows); got != n {
		t.Fatalf("Rank(%v) = %d, want %d", rows, got, n)
	}
}

// P3.1: the chapter's examples, and edges: no rows, rows of no bytes, noughts,
// more rows than columns, more columns than rows, a row twice.
func TestSolve(t *testing.T) {
	f := gf.New()
	for _, c := range []struct {
		rows [][]byte
		rhs  []byte
		x    []byte
		ok   bool
	}{
		{[][]byte{{1, 1}, {0, 2}}, []byte{3, 4}, []byte{1, 2}, true},
		{[][]byte{{1, 1}, {1, 1}}, []byte{3, 4}, nil, false},
		{[][]byte{{1, 1}, {1, 1}}, []byte{3, 3}, []byte{3, 0}, true},
		{nil, nil, nil, true},
		{[][]byte{}, []byte{}, nil, true},
		{[][]byte{{}}, []byte{0}, nil, true},
		{[][]byte{nil, {}, nil}, []byte{0, 0, 0}, nil, true},
		{[][]byte{nil, {}, nil}, []byte{0, 0, 1}, nil, false},
		{[][]byte{{}}, []byte{7}, nil, false},
		{[][]byte{{0}}, []byte{0}, []byte{0}, true},
		{[][]byte{{0}}, []byte{255}, nil, false},
		{[][]byte{{0, 0, 0}}, []byte{0}, []byte{0, 0, 0}, true},
		{[][]byte{{0, 0, 1}}, []byte{9}, []byte{0, 0, 9}, true},
		{[][]byte{{2, 3, 1}}, []byte{4}, []byte{2, 0, 0}, true},
		{[][]byte{{2}}, []byte{1}, []byte{141}, true},
		{[][]byte{{83}, {83}}, []byte{1, 1}, []byte{202}, true},
		{[][]byte{{83}, {83}}, []byte{1, 0}, nil, false},
		{[][]byte{{0}, {5}, {0}}, []byte{0, 5, 0}, []byte{1}, true},
		{[][]byte{{0}, {5}, {0}}, []byte{0, 5, 1}, nil, false},
		{[][]byte{{0, 1}, {1, 0}}, []byte{8, 9}, []byte{9, 8}, true},
		{[][]byte{{1, 0, 1}, {0, 0, 1}}, []byte{4, 6}, []byte{2, 0, 6}, true},
		{[][]byte{{0, 1, 5}, {0, 0, 2}}, []byte{7, 2}, []byte{0, 2, 1}, true},
	} {
		check(t, f, c.rows, c.rhs, c.x, c.ok)
	}
}

// P3.1: false and nothing, if rows are not right, or rhs is not as long.
func TestSolveRefuses(t *testing.T) {
	f := gf.New()
	for _, c := range []struct {
		rows [][]byte
		rhs  []byte
	}{
		{[][]byte{{1, 1}, {1}}, []byte{3, 4}},
		{[][]byte{{1}, {1, 1}}, []byte{3, 4}},
		{[][]byte{{1}, {1, 0}}, []byte{3, 3}},
		{[][]byte{{1}, {}}, []byte{0, 0}},
		{[][]byte{{}, {1}}, []byte{0, 0}},
		{[][]byte{nil, {0}}, []byte{0, 0}},
		{[][]byte{{1, 2}, {3, 4}, {5, 6, 7}}, []byte{0, 0, 0}},
		{[][]byte{{1, 2}, {3, 4}, {5}}, []byte{0, 0, 0}},
		{nil, []byte{0}},
		{[][]byte{{1}}, nil},
		{[][]byte{{}}, nil},
		{[][]byte{{1, 0}, {0, 1}}, []byte{1}},
		{[][]byte{{1, 0}, {0, 1}}, []byte{1, 2, 0}},
		{[][]byte{{1, 1}, {1, 1}}, []byte{1, 1, 1, 1}},
	} {
		check(t, f, c.rows, c.rhs, nil, false)
	}
}

// P3.2: the edges, and rows that are not right.
func TestRank(t *testing.T) {
	f := gf.New()
	for _, c := range []struct {
		rows [][]byte
		n    int
	}{
		{nil, 0},
		{[][]byte{{}}, 0},
		{[][]byte{nil, nil}, 0},
		{[][]byte{{0, 0}, {0, 0}}, 0},
		{[][]byte{{1}}, 1},
		{[][]byte{{255}, {254}, {3}}, 1},
		{[][]byte{{0, 0, 7, 0}}, 1},
		{[][]byte{{9, 8, 7, 6}}, 1},
		{[][]byte{{1, 1}, {0, 2}}, 2},
		{[][]byte{{1, 1}, {1, 1}}, 1},
		{[][]byte{{1, 2, 3}, {2, 4, 6}, {0, 0, 1}}, 2},
		{[][]byte{{0, 1, 0}, {0, 0, 1}, {1, 0, 0}}, 3},
		{[][]byte{{1, 1}, {1}}, 0},
		{[][]byte{{1}, {1, 1}}, 0},
		{[][]byte{{}, {1}}, 0},
		{[][]byte{{1, 2}, {3, 4}, {5, 6, 7}}, 0},
	} {
		checkRank(t, f, c.rows, c.n)
	}
}

// P3.1, P3.2: two rows, against all sums of their columns gone through.
func TestTwoRows(t *testing.T) {
	f := gf.New()
	r := rand.New(rand.NewSource(1))
	some := []byte{0, 0, 1, 2, 3, 141, 255}
	for range 60 {
		columns := make([]pair, r.Intn(5))
		rows := [][]byte{nil, nil}
		for c := range columns {
			columns[c] = pair{some[r.Intn(len(some))], some[r.Intn(len(some))]}
			rows[0] = append(rows[0], columns[c][0])
			rows[1] = append(rows[1], columns[c][1])
		}
		all, leads := slowSpan(columns)
		checkRank(t, f, rows, len(leads))
		for range 40 {
			rhs := pair{some[r.Intn(len(some))], byte(r.Intn(256))}
			x, ok := slowSolve(columns, all, leads, rhs)
			check(t, f, rows, rhs[:], x, ok)
		}
	}
}

// mixed is n columns of n bytes of which none is free, whatever their order:
// those that are 1 at one place and 0 elsewhere, with multiples of rows added
// to other rows, and rows in another order.
func mixed(r *rand.Rand, n int) [][]byte {
	rows := make([][]byte, n)
	for i, at := range r.Perm(n) {
		rows[i] = make([]byte, n)
		rows[i][at] = 1
	}
	for range 4 * n {
		i, j, b := r.Intn(n), r.Intn(n), byte(r.Intn(256))
		if i != j {
			for c := range rows[i] {
				rows[i][c] ^= product(b, rows[j][c])
			}
		}
	}
	columns := make([][]byte, n)
	for c := range columns {
		for i := range rows {
			columns[c] = append(columns[c], rows[i][c])
		}
	}
	return columns
}

// add adds b times column to sum.
func add(sum []byte, b byte, column []byte) {
	for i, c := range column {
		sum[i] ^= product(b, c)
	}
}

// P3.1, P3.2: many rows and columns of which is known, by the way they are
// made, which columns are free, and what the solution is.
func TestMadeToMeasure(t *testing.T) {
	f := gf.New()
	r := rand.New(rand.NewSource(2))
	for range 400 {
		n := 1 + r.Intn(12)
		rank := r.Intn(n + 1)
		base := mixed(r, n)
		var columns [][]byte
		var x []byte
		rhs := make([]byte, n)
		for taken := 0; taken < rank || r.Intn(3) > 0; {
			if taken < rank && r.Intn(2) == 0 {
				b := byte(r.Intn(256))
				add(rhs, b, base[taken])
				columns, x = append(columns, base[taken]), append(x, b)
				taken++
				continue
			}
			free := make([]byte, n)
			for _, column := range base[:taken] {
				add(free, byte(r.Intn(256)), column)
			}
			columns, x = append(columns, free), append(x, 0)
		}
		rows := make([][]byte, n)
		for i := range rows {
			for _, column := range columns {
				rows[i] = append(rows[i], column[i])
			}
		}
		checkRank(t, f, rows, rank)
		check(t, f, rows, rhs, x, true)
		if rank < n {
			add(rhs, byte(1+r.Intn(255)), base[rank+r.Intn(n-rank)])
			check(t, f, rows, rhs, nil, false)
		}
	}
}

// P3.1, P3.2: as many rows as there may be points.
func TestLarge(t *testing.T) {
	f := gf.New()
	r := rand.New(rand.NewSource(3))
	const n = 255
	rows := mixed(r, n)
	x, rhs := make([]byte, n), make([]byte, n)
	for c := range x {
		x[c] = byte(r.Intn(256))
		for i := range rows {
			rhs[i] ^= product(x[c], rows[i][c])
		}
	}
	check(t, f, rows, rhs, x, true)
	checkRank(t, f, rows, n)
}

// R4: no call changes what it is given, nor the spare room of it, nor answers
// memory of it; the same row may come twice.
func TestMemory(t *testing.T) {
	f := gf.New()
	room := []byte{0, 2, 3, 0xaa, 0, 5, 1, 0xaa, 1, 7, 2, 0xaa, 4, 4, 4, 4, 0xaa}
	was := bytes.Clone(room)
	rows := [][]byte{room[0:3], room[4:7], room[8:11], room[4:7], nil, nil}
	rhs := room[12:16]
	first, ok := Solve(f, rows[:4], rhs)
	second, _ := Solve(f, rows[:4], rhs)
	if !ok || !bytes.Equal(first, second) {
		t.Fatalf("Solve = %v, %t, then %v", first, ok, second)
	}
	want := bytes.Clone(second)
	checkRank(t, f, rows[:4], 3)
	first = first[:cap(first)]
	for i := range first {
		first[i] ^= 0xff
	}
	if !bytes.Equal(second, want) {
		t.Error("two answers share memory")
	}
	if !bytes.Equal(room, was) {
		t.Errorf("what was given is %v, was %v", room, was)
	}
	if &rows[0][0] != &room[0] || &rows[1][0] != &room[4] || &rows[2][0] != &room[8] || rows[4] != nil {
		t.Error("the rows are in another order")
	}
}

// R5: the same calls have the same answers, by any field that New made.
func TestSameAnswers(t *testing.T) {
	rows, rhs := [][]byte{{7, 8, 9}, {1, 0, 4}}, []byte{200, 100}
	first, _ := Solve(gf.New(), rows, rhs)
	for range 3 {
		check(t, gf.New(), rows, rhs, first, true)
	}
}
