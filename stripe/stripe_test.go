package stripe

import (
	"bytes"
	"math"
	"math/rand"
	"testing"
)

// random is n bytes, none of them 0, so that what fills up a column is seen.
func random(r *rand.Rand, n int) []byte {
	b := make([]byte, n)
	for i := range b {
		b[i] = byte(1 + r.Intn(255))
	}
	return b
}

// slowSplit is data's columns, byte by byte.
func slowSplit(data []byte, k int) [][]byte {
	var cols [][]byte
	for i, b := range data {
		if i%k == 0 {
			cols = append(cols, make([]byte, k))
		}
		cols[i/k][i%k] = b
	}
	return cols
}

// same tells whether a and b are the same columns.
func same(a, b [][]byte) bool {
	if len(a) != len(b) {
		return false
	}
	for i := range a {
		if !bytes.Equal(a[i], b[i]) {
			return false
		}
	}
	return true
}

// copied is the columns in memory of their own.
func copied(cols [][]byte) [][]byte {
	out := make([][]byte, len(cols))
	for i, col := range cols {
		out[i] = bytes.Clone(col)
	}
	return out
}

// joined fails the test if Join does not answer want and true.
func joined(t *testing.T, cols [][]byte, size, k int, want []byte) {
	t.Helper()
	if got, ok := Join(cols, size, k); !ok || !bytes.Equal(got, want) {
		t.Fatalf("Join(%v, %d, %d): %v, %v, want %v", cols, size, k, got, ok, want)
	}
}

// refused fails the test if Join does not answer nothing and false.
func refused(t *testing.T, cols [][]byte, size, k int) {
	t.Helper()
	if got, ok := Join(cols, size, k); ok || len(got) != 0 {
		t.Fatalf("Join(%v, %d, %d): %v, %v, want nothing, false", cols, size, k, got, ok)
	}
}

// P9.1, P9.2: the chapter's example, and back.
func TestExample(t *testing.T) {
	cols := Split([]byte{1, 2, 3}, 2)
	if !same(cols, [][]byte{{1, 2}, {3, 0}}) {
		t.Fatal(cols)
	}
	joined(t, cols, 3, 2, []byte{1, 2, 3})
}

// P9.1: every small number of columns, counted one by one.
func TestColumns(t *testing.T) {
	for k := 1; k <= 40; k++ {
		want := 0
		for size := range 130 {
			if want*k < size {
				want++
			}
			if got := Columns(size, k); got != want {
				t.Fatalf("Columns(%d, %d): %d, want %d", size, k, got, want)
			}
		}
	}
}

// P9.1: 0 where there are none, and no wrap-round at the ends of the numbers.
func TestColumnsEnds(t *testing.T) {
	const top, low = math.MaxInt, math.MinInt
	for _, c := range []struct{ size, k, want int }{
		{-1, 1, 0}, {-1, 2, 0}, {-5, 3, 0}, {low, 1, 0}, {low, top, 0},
		{1, 0, 0}, {5, -1, 0}, {5, low, 0}, {top, 0, 0}, {top, -1, 0}, {top, low, 0},
		{-4, -2, 0}, {-1, 0, 0}, {low, -1, 0}, {low, low, 0},
		{0, 1, 0}, {0, 7, 0}, {0, top, 0}, {0, 0, 0}, {0, -1, 0},
		{1, 1, 1}, {1, top, 1}, {top - 1, top, 1}, {top, top, 1}, {top, top - 1, 2},
		{top, 1, top}, {top, 2, top/2 + 1}, {top - 1, 2, top / 2},
	} {
		if got := Columns(c.size, c.k); got != c.want {
			t.Errorf("Columns(%d, %d): %d, want %d", c.size, c.k, got, c.want)
		}
	}
}

// P9.1, P9.2: documents of all small sizes, by all small k, and back.
func TestSplitJoin(t *testing.T) {
	r := rand.New(rand.NewSource(9))
	for size := range 50 {
		for k := 1; k <= 55; k++ {
			data := random(r, size)
			cols := Split(data, k)
			if !same(cols, slowSplit(data, k)) {
				t.Fatalf("Split(%v, %d): %v", data, k, cols)
			}
			if len(cols) != Columns(size, k) {
				t.Fatalf("Split(%v, %d): %d columns", data, k, len(cols))
			}
			joined(t, cols, size, k, data)
		}
	}
}

// P9.1, P9.2: long documents, and columns that are far longer than theirs.
func TestSplitJoinLong(t *testing.T) {
	r := rand.New(rand.NewSource(10))
	for _, size := range []int{1, 255, 256, 257, 65536, 100003} {
		for _, k := range []int{1, 2, 7, 253, 256, 65536, 100002, 100003, 1 << 20} {
			data := random(r, size)
			cols := Split(data, k)
			if !same(cols, slowSplit(data, k)) {
				t.Fatalf("Split of %d bytes by %d", size, k)
			}
			if got, ok := Join(cols, size, k); !ok || !bytes.Equal(got, data) {
				t.Fatalf("Join of %d bytes by %d: %v", size, k, ok)
			}
		}
	}
}

// P9.1: no column of no bytes, and none where k is below 1.
func TestSplitNone(t *testing.T) {
	for _, data := range [][]byte{nil, {}, {1}, {1, 2, 3}} {
		for _, k := range []int{0, -1, -2, math.MinInt} {
			if cols := Split(data, k); len(cols) != 0 {
				t.Errorf("Split(%v, %d): %v", data, k, cols)
			}
		}
	}
	for _, k := range []int{1, 2, 255, math.MaxInt32, math.MaxInt} {
		for _, data := range [][]byte{nil, {}} {
			if cols := Split(data, k); len(cols) != 0 {
				t.Errorf("Split(%v, %d): %v", data, k, cols)
			}
		}
	}
}

// R1: a column beyond what may be answered: nothing is promised of it but,
// here, that the call answers.
func TestSplitBeyond(t *testing.T) {
	for _, k := range []int{math.MaxInt, math.MaxInt - 1, math.MaxInt / 2} {
		Split([]byte{1, 2, 3}, k)
	}
}

// P9.2: the size tells how much of the last column is the document's, whatever
// stands behind it; it may be any that takes as many columns.
func TestJoinSizes(t *testing.T) {
	cols := [][]byte{{1, 2, 3}, {4, 5, 6}, {7, 8, 9}}
	all := []byte{1, 2, 3, 4, 5, 6, 7, 8, 9}
	for size := -3; size <= 15; size++ {
		if size >= 7 && size <= 9 {
			joined(t, cols, size, 3, all[:size])
		} else {
			refused(t, cols, size, 3)
		}
	}
}

// P9.2: a document of no bytes has no columns, by any k from 1 on.
func TestJoinNothing(t *testing.T) {
	for _, k := range []int{1, 2, 255, math.MaxInt} {
		joined(t, nil, 0, k, nil)
		joined(t, [][]byte{}, 0, k, nil)
		refused(t, [][]byte{{}}, 0, k)
		refused(t, [][]byte{nil}, 0, k)
		refused(t, nil, 1, k)
	}
}

// P9.2: each number that may not be, also where the other would fit.
func TestJoinRefusesNumbers(t *testing.T) {
	one := [][]byte{{1, 2}}
	for _, size := range []int{-1, -2, math.MinInt} {
		for _, cols := range [][][]byte{nil, {}, {{}}, one} {
			for _, k := range []int{1, 2, 0, -1, math.MinInt, math.MaxInt} {
				refused(t, cols, size, k)
			}
		}
	}
	for _, k := range []int{0, -1, -2, math.MinInt} {
		for _, cols := range [][][]byte{nil, {}, {{}}, {nil}, one} {
			for _, size := range []int{0, 1, 2, math.MaxInt} {
				refused(t, cols, size, k)
			}
		}
	}
	for _, cols := range [][][]byte{nil, {{}}, {{1}}, one} {
		for _, k := range []int{1, 2, 3, math.MaxInt} {
			refused(t, cols, math.MaxInt, k)
		}
	}
}

// P9.2: one column too many, one too few, also where their bytes would do.
func TestJoinRefusesCounts(t *testing.T) {
	r := rand.New(rand.NewSource(11))
	for size := range 20 {
		for k := 1; k <= 8; k++ {
			cols := Split(random(r, size), k)
			refused(t, append(copied(cols), make([]byte, k)), size, k)
			refused(t, append(copied(cols), nil), size, k)
			if len(cols) > 0 {
				refused(t, cols[1:], size, k)
				refused(t, cols[:len(cols)-1], size, k)
			}
		}
	}
	refused(t, [][]byte{{1, 2, 3, 4}}, 4, 2)
	refused(t, [][]byte{{1}, {2}, {3}, {4}}, 4, 2)
}

// P9.2: one column, at whichever place, that is shorter or longer.
func TestJoinRefusesWidths(t *testing.T) {
	r := rand.New(rand.NewSource(12))
	for size := 1; size < 20; size++ {
		for k := 1; k <= 8; k++ {
			cols := Split(random(r, size), k)
			for i, col := range cols {
				for _, other := range [][]byte{nil, col[:k-1], append(bytes.Clone(col), 0), append(bytes.Clone(col), col...)} {
					wrong := copied(cols)
					wrong[i] = other
					refused(t, wrong, size, k)
				}
			}
		}
	}
	// As many bytes in all, but not k in each.
	refused(t, [][]byte{{1}, {2, 3, 4}}, 4, 2)
	// The last column has just what is left of the document.
	refused(t, [][]byte{{1, 2}, {3}}, 3, 2)
}

// roomy is b with spare room behind it, and all of that memory.
func roomy(b []byte) (list, all []byte) {
	all = append(bytes.Clone(b), 201, 202, 203, 204, 205, 206, 207, 208)
	return all[:len(b)], all
}

// R4: Split changes nothing of data, and its columns share no memory with data
// nor with each other, spare room included.
func TestSplitMemory(t *testing.T) {
	for size := range 12 {
		for k := 1; k <= 14; k++ {
			data, all := roomy(random(rand.New(rand.NewSource(13)), size))
			was := bytes.Clone(all)
			cols := Split(data, k)
			want := slowSplit(data, k)
			again := Split(data, k)
			for i, col := range cols {
				fill(col, 99)
				if cols[i] = nil; !same(cols[i+1:], want[i+1:]) {
					t.Fatalf("column %d of %d by %d shares memory with a later one", i, size, k)
				}
			}
			if !bytes.Equal(all, was) || !same(again, want) {
				t.Fatalf("Split of %d by %d shares memory", size, k)
			}
			fill(data, 77)
			if !same(again, want) {
				t.Fatalf("Split of %d by %d keeps data", size, k)
			}
		}
	}
}

// R4: Join changes nothing of its columns, and its answer shares no memory with
// them nor with another answer.
func TestJoinMemory(t *testing.T) {
	for size := range 12 {
		for k := 1; k <= 14; k++ {
			data := random(rand.New(rand.NewSource(14)), size)
			cols := Split(data, k)
			alls := make([][]byte, len(cols))
			for i := range cols {
				cols[i], alls[i] = roomy(cols[i])
			}
			list := append(relisted(cols), []byte{211})
			was, wasList := copied(alls), copied(list)
			got, _ := Join(list[:len(cols)], size, k)
			again, _ := Join(list[:len(cols)], size, k)
			fill(got, 99)
			if !same(alls, was) || !same(list, wasList) || !bytes.Equal(again, data) {
				t.Fatalf("Join of %d by %d shares memory", size, k)
			}
			for _, all := range alls {
				fill(all, 77)
			}
			if !bytes.Equal(again, data) {
				t.Fatalf("Join of %d by %d keeps its columns", size, k)
			}
		}
	}
}

// relisted is a new list of the very same columns.
func relisted(cols [][]byte) [][]byte { return append([][]byte(nil), cols...) }

// fill puts x into all of b's memory, its spare room too.
func fill(b []byte, x byte) {
	b = b[:cap(b)]
	for i := range b {
		b[i] = x
	}
}

// P9.2: one column at many places is as good as many that are the same.
func TestJoinOneColumnOften(t *testing.T) {
	col := []byte{1, 2}
	joined(t, [][]byte{col, col, col}, 5, 2, []byte{1, 2, 1, 2, 1})
}

// The pieces are gone through again from the first, and no more of them are
// told than are asked for.
func TestPieces(t *testing.T) {
	data := []byte{1, 2, 3, 4, 5}
	all := pieces(data, 2)
	for range 2 {
		var got [][]byte
		for i, piece := range all {
			if i != len(got) {
				t.Fatalf("place %d, want %d", i, len(got))
			}
			got = append(got, piece)
		}
		if !same(got, [][]byte{{1, 2}, {3, 4}, {5}}) {
			t.Fatal(got)
		}
	}
	count := 0
	for range all {
		count++
		if count == 2 {
			break
		}
	}
	if count != 2 {
		t.Fatalf("%d pieces", count)
	}
}
