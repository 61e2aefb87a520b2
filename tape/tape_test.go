package tape

import (
	"bytes"
	"math"
	"math/rand"
	"shamrock/api"
	"testing"
)

// random is n bytes.
func random(r *rand.Rand, n int) []byte {
	b := make([]byte, n)
	r.Read(b)
	return b
}

// counts fails the test if not as many bytes are left, and were used.
func counts(t *testing.T, x *Tape, left, used int) {
	t.Helper()
	if x.Left() != left || x.Used() != used {
		t.Fatalf("%d left, %d used, want %d, %d", x.Left(), x.Used(), left, used)
	}
}

// add fails the test if Add of b does not answer want.
func add(t *testing.T, x *Tape, b []byte, want api.Errno) {
	t.Helper()
	if got := x.Add(b); got != want {
		t.Fatalf("Add of %d bytes: %d, want %d", len(b), got, want)
	}
}

// taken fails the test if the next bytes are not want.
func taken(t *testing.T, x *Tape, want []byte) {
	t.Helper()
	if got, ok := x.Take(len(want)); !ok || !bytes.Equal(got, want) {
		t.Fatalf("Take(%d): %v, %v, want %v", len(want), got, ok, want)
	}
}

// refused fails the test if Take(n) is not false and nothing, or uses anything.
func refused(t *testing.T, x *Tape, n int) {
	t.Helper()
	left, used := x.Left(), x.Used()
	if got, ok := x.Take(n); ok || len(got) != 0 {
		t.Fatalf("Take(%d) of %d: %v, %v", n, left, got, ok)
	}
	counts(t, x, left, used)
}

// P8.1, P8.2: the chapter's example.
func TestExample(t *testing.T) {
	x := New()
	add(t, x, []byte{1, 2, 3}, api.OK)
	taken(t, x, []byte{1, 2})
	refused(t, x, 2)
	taken(t, x, []byte{3})
	counts(t, x, 0, 3)
}

// P8.1: a new tape has no bytes, and is another one each time.
func TestNew(t *testing.T) {
	x, y := New(), New()
	counts(t, x, 0, 0)
	refused(t, x, 1)
	taken(t, x, nil)
	add(t, x, []byte{1, 2}, api.OK)
	taken(t, x, []byte{1})
	counts(t, x, 1, 1)
	counts(t, y, 0, 0)
	refused(t, y, 1)
	counts(t, New(), 0, 0)
}

// P8.1: MaxTape bytes may be left, and not one more, whether they come at once
// or one behind the other; what is refused changes nothing.
func TestTooLarge(t *testing.T) {
	r := rand.New(rand.NewSource(1))
	for _, first := range []int{0, 1, 2, 255, 256, api.MaxTape / 2, api.MaxTape - 1, api.MaxTape} {
		x, all := New(), random(r, api.MaxTape)
		add(t, x, all[:first], api.OK)
		for _, more := range []int{1, 2, 256, api.MaxTape, 2 * api.MaxTape, 1 << 24} {
			add(t, x, random(r, api.MaxTape-first+more), api.ErrTooLarge)
			counts(t, x, first, 0)
		}
		add(t, x, all[first:], api.OK)
		counts(t, x, api.MaxTape, 0)
		add(t, x, []byte{0}, api.ErrTooLarge)
		add(t, x, nil, api.OK)
		taken(t, x, all)
		counts(t, x, 0, api.MaxTape)
	}
}

// P8.1: it is those that are left that count, not those that were used: room
// comes back byte by byte, and a tape takes far more than MaxTape in all.
func TestRoomComesBack(t *testing.T) {
	r := rand.New(rand.NewSource(2))
	x, all := New(), random(r, api.MaxTape)
	add(t, x, all, api.OK)
	used := 0
	for _, n := range []int{1, 2, 3, 255, 256, 257, api.MaxTape / 2, api.MaxTape - 1, api.MaxTape, 1} {
		taken(t, x, all[:n])
		used += n
		counts(t, x, api.MaxTape-n, used)
		add(t, x, random(r, n+1), api.ErrTooLarge)
		counts(t, x, api.MaxTape-n, used)
		more := random(r, n)
		add(t, x, more, api.OK)
		all = append(bytes.Clone(all[n:]), more...)
		counts(t, x, api.MaxTape, used)
	}
	taken(t, x, all)
	counts(t, x, 0, used+api.MaxTape)
}

// P8.2: below 0, or more than are left, at every length and at the ends of the
// numbers: nothing is used, and what is there is taken behind it.
func TestRefusedTake(t *testing.T) {
	r := rand.New(rand.NewSource(3))
	for n := range 70 {
		x, b := New(), random(r, n)
		add(t, x, b, api.OK)
		for _, m := range []int{-1, -2, -n - 1, math.MinInt, math.MinInt32, n + 1, n + 2, 2*n + 1, api.MaxTape, api.MaxTape + 1, math.MaxInt32, math.MaxInt} {
			refused(t, x, m)
		}
		taken(t, x, b)
		counts(t, x, 0, n)
		refused(t, x, 1)
		refused(t, x, n+1)
		refused(t, x, -1)
	}
}

// P8.2: none is taken of a tape that is empty, full or used up: true, nothing,
// and nothing is used.
func TestTakeNone(t *testing.T) {
	r := rand.New(rand.NewSource(4))
	x, all := New(), random(r, api.MaxTape)
	taken(t, x, nil)
	counts(t, x, 0, 0)
	add(t, x, all, api.OK)
	taken(t, x, nil)
	counts(t, x, api.MaxTape, 0)
	taken(t, x, all)
	taken(t, x, nil)
	counts(t, x, 0, api.MaxTape)
}

// P8.1, P8.2: through all kinds of calls, one behind the other, a tape is as a
// plain list: every byte comes once, in the order in which it was added.
func TestAsList(t *testing.T) {
	for seed := range int64(40) {
		r := rand.New(rand.NewSource(seed))
		most := []int{3, 40, 1000, api.MaxTape + 2}[seed%4]
		x, list, used := New(), []byte(nil), 0
		for range 400 {
			if b := random(r, r.Intn(most)); r.Intn(2) == 0 {
				if len(list)+len(b) > api.MaxTape {
					add(t, x, b, api.ErrTooLarge)
				} else {
					add(t, x, b, api.OK)
					list = append(bytes.Clone(list), b...)
				}
			} else if n := r.Intn(most+2) - 2; n < 0 || n > len(list) {
				refused(t, x, n)
			} else {
				taken(t, x, list[:n])
				list, used = list[n:], used+n
			}
			counts(t, x, len(list), used)
		}
		taken(t, x, list)
		counts(t, x, 0, used+len(list))
	}
}

// P8.1, P8.2: a tape that is filled, and used up, one byte at a time, twice.
func TestByteByByte(t *testing.T) {
	x := New()
	for round := range 2 {
		for i := range api.MaxTape {
			add(t, x, []byte{byte(i >> round)}, api.OK)
			counts(t, x, i+1, round*api.MaxTape)
		}
		add(t, x, []byte{1}, api.ErrTooLarge)
		for i := range api.MaxTape {
			taken(t, x, []byte{byte(i >> round)})
			counts(t, x, api.MaxTape-i-1, round*api.MaxTape+i+1)
		}
		refused(t, x, 1)
	}
}

// All calls of a nil tape are refused, whatever they are given: too many bytes
// are ErrArg, too.
func TestNil(t *testing.T) {
	var x *Tape
	for _, b := range [][]byte{nil, {}, {1}, make([]byte, api.MaxTape), make([]byte, api.MaxTape+1)} {
		add(t, x, b, api.ErrArg)
	}
	for _, n := range []int{0, 1, -1, math.MinInt, math.MaxInt} {
		refused(t, x, n)
	}
	counts(t, x, 0, 0)
}

// R1, R4: nil is as good as empty.
func TestAddNothing(t *testing.T) {
	for _, b := range [][]byte{nil, {}} {
		x := New()
		add(t, x, b, api.OK)
		counts(t, x, 0, 0)
		add(t, x, []byte{7}, api.OK)
		add(t, x, b, api.OK)
		taken(t, x, []byte{7})
		counts(t, x, 0, 1)
	}
}

// R4: what is added is not changed, nor its spare room, and not kept: a tape
// tells what it was when it came.
func TestAddedMemory(t *testing.T) {
	r := rand.New(rand.NewSource(5))
	for n := range 100 {
		x, room := New(), random(r, 300)
		was := bytes.Clone(room)
		add(t, x, room[:n], api.OK)
		add(t, x, []byte{1, 2, 3}, api.OK)
		taken(t, x, was[:n/2])
		add(t, x, make([]byte, 100), api.OK)
		if !bytes.Equal(room, was) {
			t.Fatalf("%d bytes: what is added is changed", n)
		}
		clear(room)
		taken(t, x, was[n/2:n])
		taken(t, x, []byte{1, 2, 3})
		taken(t, x, make([]byte, 100))
	}
}

// R4: what is taken shares no memory with the tape, nor with another answer, its
// spare room included.
func TestTakenMemory(t *testing.T) {
	r := rand.New(rand.NewSource(6))
	for n := range 100 {
		x, all := New(), random(r, 3*n+2)
		add(t, x, all, api.OK)
		first, _ := x.Take(n)
		second, _ := x.Take(n)
		none, _ := x.Take(0)
		for _, b := range [][]byte{first, none} {
			for i := range b[:cap(b)] {
				b[:cap(b)][i] ^= 255
			}
		}
		if !bytes.Equal(second, all[n:2*n]) {
			t.Fatalf("%d bytes: two answers share memory", n)
		}
		copied := bytes.Clone(second)
		add(t, x, random(r, 50), api.OK)
		taken(t, x, all[2*n:])
		if !bytes.Equal(second, copied) {
			t.Fatalf("%d bytes: an answer is changed later", n)
		}
	}
}

// What was used is not kept: it is nowhere in the memory that the tape had when
// it was taken.
func TestUsedIsWiped(t *testing.T) {
	r := rand.New(rand.NewSource(7))
	for range 100 {
		x, all := New(), bytes.Repeat([]byte{1}, 1+r.Intn(500))
		add(t, x, all, api.OK)
		memory, n := x.left, r.Intn(len(all)+1)
		x.Take(n)
		if bytes.Count(memory, []byte{1}) != len(all)-n {
			t.Fatalf("%d of %d: %v", n, len(all), memory)
		}
	}
}

// R5: the same calls, done again from the beginning, have the same answers,
// whatever other tapes do meanwhile.
func TestSameAnswers(t *testing.T) {
	run := func(other *Tape) []byte {
		r := rand.New(rand.NewSource(8))
		x, told := New(), []byte(nil)
		for range 300 {
			x.Add(random(r, r.Intn(30)))
			other.Add([]byte{9, 9})
			b, _ := x.Take(r.Intn(40))
			other.Take(1)
			told = append(append(told, b...), byte(x.Left()), byte(x.Used()))
		}
		return told
	}
	if first := run(New()); !bytes.Equal(first, run(nil)) || !bytes.Equal(first, run(New())) {
		t.Error("another answer the second time")
	}
}
