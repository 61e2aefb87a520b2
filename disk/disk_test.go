package disk

import (
	"bytes"
	"math"
	"math/rand"
	"shamrock/api"
	"testing"
)

// full is a block of bytes that are all by.
func full(by byte) []byte { return bytes.Repeat([]byte{by}, api.Block) }

// random is a block.
func random(r *rand.Rand) []byte {
	b := make([]byte, api.Block)
	r.Read(b)
	return b
}

// write fails the test if Write of b as block n does not answer want.
func write(t *testing.T, d *Disk, n int, b []byte, want api.Errno) {
	t.Helper()
	if got := d.Write(n, b); got != want {
		t.Fatalf("Write(%d, %d bytes): %d, want %d", n, len(b), got, want)
	}
}

// holds fails the test if block n is not want.
func holds(t *testing.T, d *Disk, n int, want []byte) {
	t.Helper()
	if got, ok := d.Read(n); !ok || !bytes.Equal(got, want) {
		t.Fatalf("Read(%d): %v, %v, want %v", n, got, ok, want)
	}
}

// hasNone fails the test if there is a block n.
func hasNone(t *testing.T, d *Disk, n int) {
	t.Helper()
	if got, ok := d.Read(n); ok || len(got) != 0 {
		t.Fatalf("Read(%d) of %d: %v, %v", n, d.Len(), got, ok)
	}
}

// is fails the test if the power is not as told, or not as many Writes were done.
func is(t *testing.T, d *Disk, down bool, writes int) {
	t.Helper()
	if d.Down() != down || d.Writes() != writes {
		t.Fatalf("down %v, %d writes, want %v, %d", d.Down(), d.Writes(), down, writes)
	}
}

// P14.2: the chapter's example: behind Fuse(1) one Write is done, the next one
// is ErrDown.
func TestExample(t *testing.T) {
	d := New(2)
	d.Fuse(1)
	write(t, d, 0, full(7), api.OK)
	is(t, d, false, 1)
	write(t, d, 1, full(7), api.ErrDown)
	is(t, d, true, 1)
	holds(t, d, 0, full(7))
	holds(t, d, 1, full(0))
}

// P14.1: so many blocks of Block bytes 0 each, none below 0 and 2^11 above it;
// the power is on, without a fuse, and nothing was written.
func TestNew(t *testing.T) {
	for _, c := range []struct{ blocks, want int }{
		{0, 0}, {1, 1}, {2, 2}, {3, 3}, {255, 255}, {256, 256}, {1025, 1025},
		{2047, 2047}, {2048, 2048}, {2049, 2048}, {4096, 2048}, {1 << 32, 2048},
		{1<<32 + 1, 2048}, {math.MaxInt32, 2048}, {math.MaxInt, 2048},
		{-1, 0}, {-2, 0}, {-2048, 0}, {math.MinInt32, 0}, {-1 << 32, 0}, {3 - 1<<32, 0}, {math.MinInt, 0},
	} {
		d := New(c.blocks)
		if d.Len() != c.want {
			t.Fatalf("New(%d): %d blocks, want %d", c.blocks, d.Len(), c.want)
		}
		is(t, d, false, 0)
		for n := range c.want {
			holds(t, d, n, make([]byte, 32))
		}
		hasNone(t, d, -1)
		hasNone(t, d, c.want)
		for n := range c.want {
			write(t, d, n, full(byte(n+1)), api.OK)
		}
		is(t, d, false, c.want)
		if d.Len() != c.want {
			t.Fatalf("%d blocks behind writes, want %d", d.Len(), c.want)
		}
	}
}

// P14.1: New is another disk each time.
func TestNewIsAnother(t *testing.T) {
	d, e := New(2), New(2)
	write(t, d, 0, full(1), api.OK)
	d.Turn(1, 1, 1)
	d.Fuse(0)
	write(t, d, 0, full(1), api.ErrDown)
	is(t, e, false, 0)
	for n := range 2 {
		holds(t, e, n, full(0))
	}
	write(t, e, 0, full(2), api.OK)
	holds(t, d, 0, full(1))
}

// P14.2: block n is b, at each n and each byte, and no other block is changed;
// what is written over is gone.
func TestWrite(t *testing.T) {
	r := rand.New(rand.NewSource(1))
	for _, blocks := range []int{1, 2, 3, 255, 256, 257, 2048} {
		d, want := New(blocks), make([][]byte, blocks)
		for n := range want {
			want[n] = full(0)
		}
		for i, n := range append(r.Perm(blocks), r.Perm(blocks)...) {
			want[n] = random(r)
			write(t, d, n, want[n], api.OK)
			is(t, d, false, i+1)
			for _, m := range []int{0, n - 1, n, n + 1, blocks - 1} {
				if m >= 0 && m < blocks {
					holds(t, d, m, want[m])
				}
			}
		}
		for n := range want {
			holds(t, d, n, want[n])
		}
	}
}

// P14.2: each wrong n and each wrong length is ErrArg, and neither writes, nor
// counts, nor uses the fuse (R6).
func TestWriteArg(t *testing.T) {
	for _, blocks := range []int{0, 1, 2, 3, 256, 2048} {
		d := New(blocks)
		for n := range blocks {
			write(t, d, n, full(byte(n%255+1)), api.OK)
		}
		d.Fuse(0)
		for _, n := range []int{-1, -2, -blocks, -blocks - 1, blocks, blocks + 1, 2 * blocks, 1 << 16, 1 << 32, 1<<32 + 1, -1 << 32, math.MaxInt32, math.MinInt32, math.MaxInt, math.MinInt} {
			if n < 0 || n >= blocks {
				write(t, d, n, full(9), api.ErrArg)
				hasNone(t, d, n)
			}
		}
		for n := range blocks {
			for _, m := range []int{0, 1, 31, 33, 63, 64, 256 + 32, 1<<16 + 32} {
				write(t, d, n, make([]byte, m), api.ErrArg)
			}
			write(t, d, n, nil, api.ErrArg)
			holds(t, d, n, full(byte(n%255+1)))
		}
		write(t, d, blocks, nil, api.ErrArg)
		write(t, d, -1, full(9)[1:], api.ErrArg)
		is(t, d, false, blocks)
		if blocks > 0 {
			write(t, d, 0, full(9), api.ErrDown)
			is(t, d, true, blocks)
		}
	}
}

// P14.2, R2: ErrArg is named ahead of ErrDown.
func TestArgAheadOfDown(t *testing.T) {
	d := New(2)
	d.Fuse(0)
	write(t, d, 0, full(1), api.ErrDown)
	write(t, d, 2, full(1), api.ErrArg)
	write(t, d, -1, full(1), api.ErrArg)
	write(t, d, 0, full(1)[1:], api.ErrArg)
	write(t, d, 0, append(full(1), 1), api.ErrArg)
	write(t, d, 0, nil, api.ErrArg)
	write(t, d, 0, full(1), api.ErrDown)
	is(t, d, true, 0)
}

// P14.2: so many Writes are done yet, none for a number below 0; the power goes
// at the next one and not ahead of it, and stays away till On.
func TestFuse(t *testing.T) {
	for _, c := range []struct{ fuse, done int }{
		{0, 0}, {1, 1}, {2, 2}, {3, 3}, {10, 10}, {255, 255}, {256, 256}, {257, 257}, {70000, 70000},
		{-1, 0}, {-2, 0}, {math.MinInt32, 0}, {1 - 1<<32, 0}, {math.MinInt, 0},
	} {
		d := New(2)
		write(t, d, 0, full(1), api.OK)
		d.Fuse(c.fuse)
		for i := range c.done {
			is(t, d, false, 1+i)
			write(t, d, i%2, full(byte(i)), api.OK)
		}
		was := [][]byte{}
		for n := range 2 {
			b, _ := d.Read(n)
			was = append(was, b)
		}
		is(t, d, false, 1+c.done)
		for range 5 {
			for n := range 2 {
				write(t, d, n, full(99), api.ErrDown)
				is(t, d, true, 1+c.done)
				holds(t, d, n, was[n])
			}
		}
		d.On()
		is(t, d, false, 1+c.done)
		for i := range 300 {
			write(t, d, 1, full(byte(i)), api.OK)
		}
		holds(t, d, 0, was[0])
		is(t, d, false, 1+c.done+300)
	}
}

// P14.2: a fuse at the greatest numbers lets all through.
func TestGreatFuse(t *testing.T) {
	for _, fuse := range []int{1 << 20, 1 << 32, math.MaxInt32, math.MaxInt - 1, math.MaxInt} {
		d := New(1)
		d.Fuse(fuse)
		for i := range 1000 {
			write(t, d, 0, full(byte(i)), api.OK)
			is(t, d, false, i+1)
		}
	}
}

// P14.2: a fuse that is set again counts from then on, shorter or longer.
func TestFuseAgain(t *testing.T) {
	for first := range 5 {
		for done := range first + 1 {
			for second := range 5 {
				d := New(1)
				d.Fuse(first)
				for range done {
					write(t, d, 0, full(1), api.OK)
				}
				d.Fuse(second)
				for range second {
					write(t, d, 0, full(2), api.OK)
				}
				is(t, d, false, done+second)
				write(t, d, 0, full(3), api.ErrDown)
				is(t, d, true, done+second)
			}
		}
	}
}

// P14.2: no fuse brings the power back, and one that is set while the power is
// gone is taken away by On.
func TestFuseWithoutPower(t *testing.T) {
	for _, fuse := range []int{-1, 0, 1, 2, 100, math.MaxInt} {
		d := New(1)
		d.Fuse(0)
		write(t, d, 0, full(1), api.ErrDown)
		d.Fuse(fuse)
		is(t, d, true, 0)
		for range 3 {
			write(t, d, 0, full(1), api.ErrDown)
			is(t, d, true, 0)
		}
		d.On()
		for i := range 200 {
			write(t, d, 0, full(1), api.OK)
			is(t, d, false, i+1)
		}
	}
}

// P14.2: On takes away a fuse at which the power did not go yet, and changes
// nothing else.
func TestOn(t *testing.T) {
	for fuse := range 4 {
		for done := range fuse + 1 {
			d := New(2)
			d.On()
			is(t, d, false, 0)
			d.Fuse(fuse)
			for range done {
				write(t, d, 1, full(4), api.OK)
			}
			d.Turn(0, 3, 3)
			was, _ := d.Read(1)
			d.On()
			d.On()
			is(t, d, false, done)
			holds(t, d, 1, was)
			if b, _ := d.Read(0); b[3] != 3 || d.Len() != 2 {
				t.Fatal(b, d.Len())
			}
			for i := range 10 {
				write(t, d, 0, full(byte(i)), api.OK)
			}
			is(t, d, false, done+10)
			d.Fuse(1)
			write(t, d, 0, full(1), api.OK)
			write(t, d, 0, full(2), api.ErrDown)
			is(t, d, true, done+11)
		}
	}
}

// P14.3: there is no block below 0, or behind the last one, whether the power
// is on or not.
func TestRead(t *testing.T) {
	for _, blocks := range []int{0, 1, 2, 5, 2048} {
		for _, down := range []bool{false, true} {
			d := New(blocks)
			if blocks > 0 && down {
				d.Fuse(0)
				write(t, d, 0, full(1), api.ErrDown)
			}
			for _, n := range []int{-1, -2, -blocks - 1, blocks, blocks + 1, 1 << 32, -1 << 32, math.MaxInt32, math.MinInt32, math.MaxInt, math.MinInt} {
				hasNone(t, d, n)
			}
			for n := range blocks {
				holds(t, d, n, full(0))
			}
		}
	}
}

// P14.3: each byte is turned by each byte, and no other one is; twice is as it
// was; it is no Write: it does not count, and does not use the fuse.
func TestTurn(t *testing.T) {
	r := rand.New(rand.NewSource(2))
	for _, down := range []bool{false, true} {
		d, want := New(3), [][]byte{random(r), random(r), random(r)}
		for n := range want {
			write(t, d, n, want[n], api.OK)
		}
		d.Fuse(0)
		if down {
			write(t, d, 0, full(1), api.ErrDown)
		}
		for n := range want {
			for at := range api.Block {
				for by := range 256 {
					if !d.Turn(n, at, byte(by)) {
						t.Fatal(n, at, by)
					}
					want[n][at] ^= byte(by)
					holds(t, d, n, want[n])
				}
			}
		}
		if !d.Turn(1, 1, 77) || !d.Turn(1, 1, 77) {
			t.Fatal("twice")
		}
		for n := range want {
			holds(t, d, n, want[n])
		}
		is(t, d, down, 3)
		write(t, d, 0, full(1), api.ErrDown)
		is(t, d, true, 3)
	}
}

// P14.3: false where there is no such byte, in any block, and nothing is
// changed; a byte behind a block's end is not the next block's.
func TestTurnNone(t *testing.T) {
	ends := []int{-1, -2, -31, -32, -33, math.MinInt32, math.MinInt, -1 << 32, 1 << 32, math.MaxInt32, math.MaxInt}
	for _, blocks := range []int{0, 1, 3, 2048} {
		d := New(blocks)
		for _, at := range []int{0, 31, 32, -1} {
			for _, n := range append([]int{blocks, blocks + 1, 32 * blocks}, ends...) {
				if (n < 0 || n >= blocks) && d.Turn(n, at, 1) {
					t.Fatal(blocks, n, at)
				}
			}
		}
		for n := range blocks {
			for _, at := range append([]int{32, 33, 63, 64, 256, 288}, ends...) {
				if d.Turn(n, at, 1) {
					t.Fatal(blocks, n, at)
				}
			}
			holds(t, d, n, full(0))
		}
	}
}

// P14.1: every call of a nil disk is 0, ErrArg, nothing, false, whatever it is
// given.
func TestNil(t *testing.T) {
	var d *Disk
	for _, n := range []int{0, 1, -1, math.MaxInt, math.MinInt} {
		d.Fuse(n)
		d.On()
		write(t, d, n, full(1), api.ErrArg)
		write(t, d, n, nil, api.ErrArg)
		hasNone(t, d, n)
		if d.Turn(n, 0, 1) || d.Turn(0, n, 0) || d.Len() != 0 {
			t.Fatal(n)
		}
		is(t, d, false, 0)
	}
}

// R1: a disk of no blocks, one that no call made among them, takes all calls.
func TestEmpty(t *testing.T) {
	for _, d := range []*Disk{{}, New(0), New(-5)} {
		for _, n := range []int{0, 1, -1, math.MaxInt, math.MinInt} {
			d.Fuse(n)
			write(t, d, n, full(1), api.ErrArg)
			hasNone(t, d, n)
			if d.Turn(n, 0, 1) || d.Len() != 0 {
				t.Fatal(n)
			}
			is(t, d, false, 0)
			d.On()
		}
	}
}

// R4: what is handed in is not changed, its spare room included, and not kept.
func TestWriteMemory(t *testing.T) {
	d, room := New(2), bytes.Repeat([]byte{5}, 100)
	b := room[10 : 10+api.Block]
	write(t, d, 0, b, api.OK)
	d.Turn(0, 0, 9)
	if !bytes.Equal(room, bytes.Repeat([]byte{5}, 100)) {
		t.Fatal("handed in, and changed", room)
	}
	clear(room)
	want := full(5)
	want[0] ^= 9
	holds(t, d, 0, want)
	d.Fuse(0)
	write(t, d, 0, b, api.ErrDown)
	write(t, d, 5, b, api.ErrArg)
	if !bytes.Equal(room, make([]byte, 100)) {
		t.Fatal("handed in, and changed", room)
	}
}

// R4: what is read is new memory each time, that hangs on nothing and on which
// nothing hangs, spare room included.
func TestReadMemory(t *testing.T) {
	d := New(3)
	for n := range 3 {
		write(t, d, n, full(byte(n+1)), api.OK)
	}
	a, _ := d.Read(1)
	b, _ := d.Read(1)
	clear(a[:cap(a)])
	for n := range 3 {
		holds(t, d, n, full(byte(n+1)))
	}
	write(t, d, 1, full(8), api.OK)
	d.Turn(1, 0, 1)
	if !bytes.Equal(b, full(2)) || !bytes.Equal(a, full(0)) {
		t.Fatal(a, b)
	}
	// What was read may be written.
	write(t, d, 0, b, api.OK)
	clear(b)
	holds(t, d, 0, full(2))
}

// model is a disk by the chapter's words: every byte of it in one list.
type model struct {
	bytes  []byte
	writes int
	down   bool
	fuse   []bool // true for each Write that is done yet, then false; nil: none
}

// write is Write of b as block n.
func (m *model) write(n int, b []byte) api.Errno {
	if n < 0 || n*32 >= len(m.bytes) || len(b) != 32 {
		return api.ErrArg
	}
	if m.fuse != nil && !m.down {
		m.down = !m.fuse[0]
		m.fuse = m.fuse[1:]
	}
	if m.down {
		return api.ErrDown
	}
	for i := range b {
		m.bytes[n*32+i] = b[i]
	}
	m.writes++
	return api.OK
}

// step is a call of the disk and of the model, which must answer the same.
func step(t *testing.T, r *rand.Rand, d *Disk, m *model) {
	blocks := len(m.bytes) / 32
	n, at, by := r.Intn(blocks+2)-1, r.Intn(34)-1, byte(r.Intn(256))
	switch r.Intn(12) {
	case 0:
		k := r.Intn(6) - 1
		d.Fuse(k)
		m.fuse = nil
		for range k {
			m.fuse = append(m.fuse, true)
		}
		m.fuse = append(m.fuse, false)
	case 1:
		d.On()
		m.down, m.fuse = false, nil
	case 2, 3:
		want := n >= 0 && n < blocks && at >= 0 && at < 32
		if got := d.Turn(n, at, by); got != want {
			t.Fatalf("Turn(%d, %d): %v", n, at, got)
		}
		if want {
			m.bytes[n*32+at] ^= by
		}
	case 4:
		b := random(r)[:r.Intn(33)]
		write(t, d, n, b, m.write(n, b))
	default:
		b := random(r)
		write(t, d, n, b, m.write(n, b))
	}
	if n >= 0 && n < blocks {
		holds(t, d, n, m.bytes[n*32:n*32+32])
	} else {
		hasNone(t, d, n)
	}
	is(t, d, m.down, m.writes)
}

// P14.1 to P14.3: any calls, one behind the other, against the model.
func TestAnyCalls(t *testing.T) {
	for seed := range int64(60) {
		r := rand.New(rand.NewSource(seed))
		blocks := r.Intn(6)
		d, m := New(blocks), &model{bytes: make([]byte, 32*blocks)}
		for range 500 {
			step(t, r, d, m)
		}
		for n := range blocks {
			holds(t, d, n, m.bytes[n*32:n*32+32])
		}
		if d.Len() != blocks {
			t.Fatal(d.Len(), blocks)
		}
	}
}

// R5: the same calls, done again from the beginning, have the same answers.
func TestSameAgain(t *testing.T) {
	tell := func() []byte {
		r, d, out := rand.New(rand.NewSource(3)), New(4), []byte{}
		for range 300 {
			n := r.Intn(6) - 1
			switch r.Intn(6) {
			case 0:
				d.Fuse(r.Intn(5))
			case 1:
				d.On()
			case 2:
				d.Turn(n, r.Intn(34)-1, 5)
			default:
				out = append(out, byte(d.Write(n, random(r))))
			}
			b, _ := d.Read(n)
			out = append(append(out, b...), byte(d.Writes()))
			if d.Down() {
				out = append(out, 1)
			}
		}
		return out
	}
	if !bytes.Equal(tell(), tell()) {
		t.Fatal("other answers")
	}
}
