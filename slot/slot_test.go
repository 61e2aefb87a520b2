package slot

import (
	"bytes"
	"math"
	"math/rand"
	"shamrock/api"
	"shamrock/disk"
	"testing"
)

// sized is n bytes, none of them 0, that differ from others by seed.
func sized(n, seed int) []byte {
	b := make([]byte, n)
	for i := range b {
		b[i] = byte(1 + (i*7+seed*31)%255)
	}
	return b
}

// save fails the test if Save of b does not answer want.
func save(t *testing.T, s *Slot, b []byte, want api.Errno) {
	t.Helper()
	if got := s.Save(b); got != want {
		t.Fatalf("Save(%d bytes): %d, want %d", len(b), got, want)
	}
}

// keeps fails the test if what is kept is not want.
func keeps(t *testing.T, s *Slot, want []byte) {
	t.Helper()
	if got := s.Load(); !bytes.Equal(got, want) {
		t.Fatalf("Load: %v, want %v", got, want)
	}
}

// isClean fails the test if Clean is not want.
func isClean(t *testing.T, s *Slot, want bool) {
	t.Helper()
	if got := s.Clean(); got != want {
		t.Fatalf("Clean: %v, want %v, on %v", got, want, all(s.Disk()))
	}
}

// all is what stands on a disk.
func all(d *disk.Disk) []byte {
	out := []byte{}
	for n := range d.Len() {
		b, _ := d.Read(n)
		out = append(out, b...)
	}
	return out
}

// stands fails the test if not want stands on the slot's disk.
func stands(t *testing.T, s *Slot, want []byte) {
	t.Helper()
	if got := all(s.Disk()); !bytes.Equal(got, want) {
		t.Fatalf("disk: %v, want %v", got, want)
	}
}

// is fails the test if the power is not as told, or not as many Writes were done.
func is(t *testing.T, s *Slot, down bool, writes int) {
	t.Helper()
	if s.Down() != down || s.Disk().Down() != down || s.Disk().Writes() != writes {
		t.Fatalf("down %v, %d writes, want %v, %d", s.Down(), s.Disk().Writes(), down, writes)
	}
}

// layout is what stands on a disk of two sides of room blocks, of which side
// holds and keeps b, and nothing else, by the chapter's words.
func layout(room, side int, b []byte) []byte {
	out := make([]byte, 32+64*room)
	out[0] = byte(side)
	rest := len(b)
	for at := 4; at >= 1; at-- {
		out[at] = byte(rest % 256)
		rest /= 256
	}
	copy(out[32+32*room*side:], b)
	return out
}

// P15.2: the chapter's example.
func TestExample(t *testing.T) {
	s := New(2)
	save(t, s, sized(40, 1), api.OK)
	is(t, s, false, 3)
	stands(t, s, layout(2, 1, sized(40, 1)))
	save(t, s, []byte{7}, api.OK)
	is(t, s, false, 7)
	stands(t, s, layout(2, 0, []byte{7}))
}

// P15.1: so many blocks a side, none below 0, MaxRoom above it; side 0 holds,
// nothing is kept, and all is 0; the power is on, and nothing was written.
func TestNew(t *testing.T) {
	for _, c := range []struct{ room, want int }{
		{0, 0}, {1, 1}, {2, 2}, {9, 9}, {255, 255}, {256, 256}, {511, 511}, {512, 512},
		{513, 512}, {1024, 512}, {2048, 512}, {1 << 32, 512}, {1<<32 + 1, 512}, {math.MaxInt32, 512}, {math.MaxInt/2 + 1, 512}, {math.MaxInt, 512},
		{-1, 0}, {-2, 0}, {-512, 0}, {math.MinInt32, 0}, {-1 << 32, 0}, {3 - 1<<32, 0}, {math.MinInt / 2, 0}, {math.MinInt, 0},
	} {
		s := New(c.room)
		if got := s.Disk().Len(); got != 1+2*c.want {
			t.Fatalf("New(%d): %d blocks, want %d", c.room, got, 1+2*c.want)
		}
		is(t, s, false, 0)
		keeps(t, s, nil)
		isClean(t, s, true)
		stands(t, s, make([]byte, 32*(1+2*c.want)))
		if s.Turn(0, 1) {
			t.Fatal("a byte of nothing")
		}
		s.Start()
		is(t, s, false, 0)
		stands(t, s, make([]byte, 32*(1+2*c.want)))
		save(t, s, make([]byte, 32*c.want+1), api.ErrNoSpace)
		save(t, s, sized(32*c.want, 1), api.OK)
		is(t, s, false, c.want+1)
		keeps(t, s, sized(32*c.want, 1))
	}
}

// P15.1: New is another slot each time.
func TestNewIsAnother(t *testing.T) {
	s, u := New(1), New(1)
	save(t, s, []byte{1}, api.OK)
	s.Fuse(0)
	save(t, s, []byte{2}, api.ErrDown)
	is(t, u, false, 0)
	keeps(t, u, nil)
	save(t, u, []byte{3}, api.OK)
	keeps(t, s, []byte{1})
}

// P15.2: each length, from none to all that there is room for, behind each
// other one: what is kept, what stands on the disk (the sides take turns), and
// how many writes there were.
func TestSaveLengths(t *testing.T) {
	for room := range 5 {
		for first := 0; first <= 32*room; first += 1 + first%5 {
			s := New(room)
			save(t, s, sized(first, 1), api.OK)
			writes := (first+31)/32 + 1
			is(t, s, false, writes)
			stands(t, s, layout(room, 1, sized(first, 1)))
			kept := first
			for i := range 32*room + 1 {
				now := (i*29 + first) % (32*room + 1)
				save(t, s, sized(now, i), api.OK)
				writes += (now+31)/32 + 1 + (kept+31)/32
				is(t, s, false, writes)
				stands(t, s, layout(room, i%2, sized(now, i)))
				keeps(t, s, sized(now, i))
				isClean(t, s, true)
				kept = now
			}
		}
	}
}

// P15.2: lengths of which more than one of the root's bytes tell something.
func TestGreatLengths(t *testing.T) {
	s := New(512)
	for i, n := range []int{255, 256, 257, 4095, 4096, 8191, 8193, 16383, 16384, 0, 16352, 16353, 1} {
		save(t, s, sized(n, i), api.OK)
		keeps(t, s, sized(n, i))
		stands(t, s, layout(512, 1-i%2, sized(n, i)))
		isClean(t, s, true)
	}
}

// P15.2: bytes that are 0 are kept, and their blocks are written, as others
// are: in what is saved, and in what was kept.
func TestNoughts(t *testing.T) {
	s := New(3)
	save(t, s, make([]byte, 96), api.OK)
	is(t, s, false, 4)
	keeps(t, s, make([]byte, 96))
	stands(t, s, layout(3, 1, make([]byte, 96)))
	isClean(t, s, true)
	save(t, s, make([]byte, 33), api.OK)
	is(t, s, false, 4+2+1+3)
	keeps(t, s, make([]byte, 33))
	save(t, s, nil, api.OK)
	is(t, s, false, 10+1+2)
	keeps(t, s, nil)
	save(t, s, []byte{}, api.OK)
	is(t, s, false, 14)
	stands(t, s, layout(3, 0, nil))
}

// P15.2: one byte more than there is room for, and more, is ErrNoSpace: nothing
// is written (R6), the fuse is not used, and what was kept is kept.
func TestNoSpace(t *testing.T) {
	for _, room := range []int{0, 1, 2, 3, 9, 511, 512} {
		s := New(room)
		old := sized(min(32*room, 40), 3)
		save(t, s, old, api.OK)
		was, writes := all(s.Disk()), s.Disk().Writes()
		s.Fuse(0)
		for _, more := range []int{1, 2, 31, 32, 33, 64, 1 << 16, 1 << 20} {
			save(t, s, make([]byte, 32*room+more), api.ErrNoSpace)
			save(t, s, sized(32*room+more, 2), api.ErrNoSpace)
		}
		is(t, s, false, writes)
		stands(t, s, was)
		keeps(t, s, old)
		// R2: named ahead of ErrDown.
		save(t, s, old, api.ErrDown)
		is(t, s, true, writes)
		save(t, s, make([]byte, 32*room+1), api.ErrNoSpace)
		save(t, s, old, api.ErrDown)
		stands(t, s, was)
		keeps(t, s, old)
	}
}

// writesOf are the blocks, and what they get, of a Save of b by a slot of which
// side holds and keeps old, in order.
func writesOf(room, side int, old, b []byte) (numbers []int, what [][]byte) {
	put := func(n int, content []byte) {
		numbers, what = append(numbers, n), append(what, append(content, make([]byte, 32)...)[:32])
	}
	for i := 0; 32*i < len(b); i++ {
		put(1+room*(1-side)+i, append([]byte{}, b[32*i:min(32*i+32, len(b))]...))
	}
	put(0, layout(room, 1-side, b)[:32])
	for i := 0; 32*i < len(old); i++ {
		put(1+room*side+i, make([]byte, 32))
	}
	return numbers, what
}

// P15.2, P15.3: at each fuse the writes ahead of it are done, in the order
// named, and no other one; so all of the old is kept, or all of the new.
// Behind a Start nothing else is on the disk, by the writes that this needs.
func TestFuses(t *testing.T) {
	sizes := []int{0, 1, 31, 32, 33, 64, 65, 96}
	for _, before := range sizes {
		for _, after := range sizes {
			for side := range 2 {
				checkFuses(t, 3, side, sized(before, 1), sized(after, 2))
			}
		}
	}
	checkFuses(t, 512, 1, sized(16384, 1), sized(300, 2))
}

func checkFuses(t *testing.T, room, side int, old, b []byte) {
	t.Helper()
	numbers, what := writesOf(room, side, old, b)
	for fuse := range len(numbers) + 2 {
		s := New(room)
		if side == 0 {
			save(t, s, sized(32, 5), api.OK)
		}
		save(t, s, old, api.OK)
		want := layout(room, side, old)
		stands(t, s, want)
		writes := s.Disk().Writes()
		s.Fuse(fuse)
		done, e, kept, holds := min(fuse, len(numbers)), api.OK, old, side
		for i := range done {
			copy(want[32*numbers[i]:], what[i])
			if numbers[i] == 0 {
				kept, holds = b, 1-side
			}
		}
		if fuse < len(numbers) {
			e = api.ErrDown
		}
		save(t, s, b, e)
		is(t, s, e != api.OK, writes+done)
		stands(t, s, want)
		keeps(t, s, kept)
		isClean(t, s, bytes.Equal(want, layout(room, holds, kept)))
		checkStart(t, s, layout(room, holds, kept), kept)
	}
}

// checkStart fails the test if a Start does not leave want on the disk, which
// keeps kept, or writes another block than those that are not so.
func checkStart(t *testing.T, s *Slot, want, kept []byte) {
	t.Helper()
	was, writes := all(s.Disk()), s.Disk().Writes()
	for at := 0; at < len(was); at += 32 {
		if !bytes.Equal(was[at:at+32], want[at:at+32]) {
			writes++
		}
	}
	for range 2 {
		s.Start()
		is(t, s, false, writes)
		stands(t, s, want)
		keeps(t, s, kept)
		isClean(t, s, true)
	}
	save(t, s, kept, api.OK)
	keeps(t, s, kept)
}

// P15.2: the other side's blocks are written first, in order, each of them
// whole; then the root; then the old ones, in order: as the disk is behind
// each fuse, by what the document's words say of this one Save.
func TestOrderSpeltOut(t *testing.T) {
	a, b := bytes.Repeat([]byte{1}, 40), bytes.Repeat([]byte{2}, 34)
	part := func(by byte, n int) []byte { return append(bytes.Repeat([]byte{by}, n), make([]byte, 32-n)...) }
	for fuse, want := range [][][]byte{
		{{1, 0, 0, 0, 40}, {}, {}, part(1, 32), part(1, 8)},
		{{1, 0, 0, 0, 40}, part(2, 32), {}, part(1, 32), part(1, 8)},
		{{1, 0, 0, 0, 40}, part(2, 32), part(2, 2), part(1, 32), part(1, 8)},
		{{0, 0, 0, 0, 34}, part(2, 32), part(2, 2), part(1, 32), part(1, 8)},
		{{0, 0, 0, 0, 34}, part(2, 32), part(2, 2), {}, part(1, 8)},
		{{0, 0, 0, 0, 34}, part(2, 32), part(2, 2), {}, {}},
	} {
		s := New(2)
		save(t, s, a, api.OK)
		s.Fuse(fuse)
		s.Save(b)
		for n, w := range want {
			if got, _ := s.Disk().Read(n); !bytes.Equal(got, append(w, make([]byte, 32)...)[:32]) {
				t.Fatalf("fuse %d, block %d: %v, want %v", fuse, n, got, w)
			}
		}
	}
}

// P15.3: Start writes the blocks of the side that does not hold that are not
// all 0, and no other one: not those behind what is kept, not the root; one
// byte anywhere is enough.
func TestStart(t *testing.T) {
	for side := range 2 {
		for at := range 4 * 32 {
			s := New(4)
			if side == 0 {
				save(t, s, []byte{1}, api.OK)
			}
			save(t, s, sized(70, 3), api.OK)
			d, writes := s.Disk(), s.Disk().Writes()
			d.Turn(1+4*(1-side)+at/32, at%32, 128)
			d.Turn(1+4*side+3, at%32, 64)
			d.Turn(0, 31, 5)
			isClean(t, s, false)
			s.Start()
			want := layout(4, side, sized(70, 3))
			want[32*(1+4*side+3)+at%32] = 64
			want[31] = 5
			stands(t, s, want)
			is(t, s, false, writes+1)
			keeps(t, s, sized(70, 3))
			s.Start()
			is(t, s, false, writes+1)
		}
	}
}

// P15.3: Start wipes in order, so that a slot whose disk has two blocks to
// wipe, and whatever fuse, has none behind it, for it takes the fuse away
// first, and puts the power on.
func TestStartPower(t *testing.T) {
	for fuse := range 4 {
		for _, gone := range []bool{false, true} {
			s := New(2)
			save(t, s, sized(64, 1), api.OK)
			for n := 1; n < 3; n++ {
				s.Disk().Turn(n, 9, 9)
			}
			if gone {
				s.Fuse(0)
				save(t, s, sized(64, 2), api.ErrDown)
			}
			s.Fuse(fuse)
			is(t, s, gone, 3)
			s.Start()
			is(t, s, false, 5)
			stands(t, s, layout(2, 1, sized(64, 1)))
			for i := range 10 {
				save(t, s, sized(64, i), api.OK)
			}
		}
	}
}

// P15.3: Fuse and Down are the disk's: a fuse below 0 lets nothing through, one
// that is set again counts anew, the power stays away till a Start.
func TestFuse(t *testing.T) {
	for _, fuse := range []int{0, -1, math.MinInt} {
		s := New(1)
		s.Fuse(fuse)
		is(t, s, false, 0)
		save(t, s, nil, api.ErrDown)
		is(t, s, true, 0)
		s.Fuse(9)
		save(t, s, nil, api.ErrDown)
		is(t, s, true, 0)
		s.Disk().On()
		is(t, s, false, 0)
		save(t, s, nil, api.OK)
	}
	s := New(1)
	s.Fuse(math.MaxInt)
	for i := range 100 {
		save(t, s, sized(i%33, i), api.OK)
	}
	s.Fuse(1)
	s.Fuse(3)
	save(t, s, sized(1, 1), api.OK)
	save(t, s, sized(1, 1), api.ErrDown)
}

// P15.3: Clean sees each byte of the side that does not hold, and each block
// behind what is kept, not what is kept and not the root's other bytes.
func TestClean(t *testing.T) {
	for side := range 2 {
		for _, size := range []int{0, 1, 32, 33, 64, 96} {
			s := New(3)
			if side == 0 {
				save(t, s, nil, api.OK)
			}
			save(t, s, sized(size, 4), api.OK)
			took := (size + 31) / 32
			for n := 1; n < s.Disk().Len(); n++ {
				i := n - 1 - 3*side
				want := i >= 0 && i < took
				for at := range 32 {
					s.Disk().Turn(n, at, 1)
					isClean(t, s, want)
					s.Disk().Turn(n, at, 1)
					isClean(t, s, true)
				}
			}
			// It is so without power, too.
			s.Fuse(0)
			save(t, s, nil, api.ErrDown)
			isClean(t, s, true)
			s.Disk().Turn(1+3*(1-side), 0, 1)
			isClean(t, s, false)
		}
	}
}

// P15.3: Disk is the very disk.
func TestDisk(t *testing.T) {
	s := New(2)
	d := s.Disk()
	save(t, s, []byte{5}, api.OK)
	if d != s.Disk() || d.Writes() != 2 {
		t.Fatal("another disk")
	}
	d.Turn(3, 0, 1)
	keeps(t, s, []byte{4})
	d.Fuse(0)
	save(t, s, []byte{5}, api.ErrDown)
	d.On()
	is(t, s, false, 2)
}

// P15.4: each byte of what is kept is turned by each byte, on the disk, with or
// without power; no other one is, and it is no Write.
func TestTurn(t *testing.T) {
	for _, down := range []bool{false, true} {
		for side := range 2 {
			s, kept := New(3), sized(70, 6)
			if side == 0 {
				save(t, s, []byte{1}, api.OK)
			}
			save(t, s, kept, api.OK)
			writes := s.Disk().Writes()
			s.Fuse(0)
			if down {
				save(t, s, nil, api.ErrDown)
			}
			for at := range kept {
				for by := range 256 {
					if !s.Turn(at, byte(by)) {
						t.Fatal(at, by)
					}
					kept[at] ^= byte(by)
					keeps(t, s, kept)
				}
			}
			stands(t, s, layout(3, side, kept))
			for _, at := range []int{-1, -2, -32, -70, 70, 71, 95, 96, 97, 128, 1 << 16, 1 << 32, 1<<32 + 1, -1 << 32, math.MaxInt32, math.MinInt32, math.MaxInt, math.MinInt} {
				if s.Turn(at, 1) {
					t.Fatal(at)
				}
			}
			stands(t, s, layout(3, side, kept))
			is(t, s, down, writes)
		}
	}
}

// P15.4: of each length there is the last byte, and none behind it.
func TestTurnEnds(t *testing.T) {
	for size := range 65 {
		s := New(2)
		save(t, s, sized(size, 1), api.OK)
		if s.Turn(size, 1) || s.Turn(-1, 1) || s.Turn(size-1, 3) != (size > 0) || s.Turn(0, 0) != (size > 0) {
			t.Fatal(size)
		}
		if size > 0 {
			want := sized(size, 1)
			want[size-1] ^= 3
			keeps(t, s, want)
		}
	}
}

// All calls of a nil slot: ErrArg, nothing, false.
func TestNil(t *testing.T) {
	var s *Slot
	for _, n := range []int{0, 1, -1, math.MaxInt, math.MinInt} {
		s.Fuse(n)
		s.Start()
		if s.Turn(n, 0) || s.Down() || s.Clean() || s.Disk() != nil || len(s.Load()) != 0 {
			t.Fatal(n)
		}
		save(t, s, nil, api.ErrArg)
		save(t, s, make([]byte, 1<<16), api.ErrArg)
	}
}

// R1: a slot that no call made has no disk, and takes all calls.
func TestZero(t *testing.T) {
	s := &Slot{}
	s.Fuse(1)
	s.Start()
	s.Clean()
	save(t, s, []byte{1}, api.ErrNoSpace)
	save(t, s, nil, api.ErrArg)
	if s.Turn(0, 1) || s.Down() || s.Disk() != nil || len(s.Load()) != 0 {
		t.Fatal("something is there")
	}
}

// R1: no call panics, and each ends, whatever others write as the root: of a
// side, or of a length, that can not be, the slot is as a new one.
func TestOddRoot(t *testing.T) {
	r := rand.New(rand.NewSource(1))
	for i := range 3000 {
		room := r.Intn(4)
		s, root := New(room), make([]byte, 32)
		save(t, s, sized(32*room, i), api.OK)
		for j := range 5 {
			root[j] = []byte{0, 1, 2, 31, 32, 33, 64, 96, 97, 127, 128, 255}[r.Intn(12)] * byte(r.Intn(2))
		}
		root[31] = byte(r.Intn(2))
		s.Disk().Write(0, root)
		size := int(root[1])<<24 | int(root[2])<<16 | int(root[3])<<8 | int(root[4])
		if good := root[0] < 2 && size <= 32*room; !good {
			keeps(t, s, nil)
			if s.Turn(0, 1) {
				t.Fatal(root)
			}
		} else if len(s.Load()) != size || s.Turn(size, 1) || s.Turn(size-1, 1) != (size > 0) {
			t.Fatal(root)
		}
		s.Clean()
		s.Start()
		save(t, s, sized(32*room, 7), api.OK)
		keeps(t, s, sized(32*room, 7))
		if at := s.Disk().Len(); at != 1+2*room {
			t.Fatal(at)
		}
	}
}

// R4: what is handed in is neither changed nor kept, spare room included, and
// what is told is new memory.
func TestMemory(t *testing.T) {
	for _, size := range []int{0, 1, 31, 32, 33, 64} {
		full := sized(200, 1)
		b := full[:size]
		s := New(2)
		save(t, s, b, api.OK)
		if !bytes.Equal(full, sized(200, 1)) {
			t.Fatal("changed")
		}
		clear(full)
		keeps(t, s, sized(size, 1))
		one, two := s.Load(), s.Load()
		one = one[:cap(one)]
		clear(one)
		if !bytes.Equal(two, sized(size, 1)) {
			t.Fatal("shared")
		}
		keeps(t, s, sized(size, 1))
		stands(t, s, layout(2, 1, sized(size, 1)))
		_ = append(two, 9)
		keeps(t, s, sized(size, 1))
	}
	// A piece that is saved has 0 behind it, not what stands in spare room.
	full := sized(64, 2)
	s := New(2)
	save(t, s, full[:33], api.OK)
	stands(t, s, layout(2, 1, sized(64, 2)[:33]))
}

// model is a slot by the chapter's words: what stands on its disk as one list.
type model struct {
	room, side, writes, fuse int
	kept                     []byte
	on                       []byte
	fused, down              bool
}

// write is one write of the disk.
func (m *model) write(n int, b []byte) api.Errno {
	if m.fused && m.fuse == 0 {
		m.down = true
	}
	if m.down {
		return api.ErrDown
	}
	m.fuse--
	m.writes++
	copy(m.on[32*n:32*n+32], b)
	return api.OK
}

// save is what Save answers.
func (m *model) save(b []byte) api.Errno {
	if len(b) > 32*m.room {
		return api.ErrNoSpace
	}
	numbers, what := writesOf(m.room, m.side, m.kept, b)
	for i, n := range numbers {
		if e := m.write(n, what[i]); e != api.OK {
			return e
		}
		if n == 0 {
			m.side, m.kept = 1-m.side, append([]byte{}, b...)
		}
	}
	return api.OK
}

// start is a Start.
func (m *model) start() {
	m.down, m.fused = false, false
	for i := range m.room {
		n := 1 + m.room*(1-m.side) + i
		if !bytes.Equal(m.on[32*n:32*n+32], make([]byte, 32)) {
			m.write(n, make([]byte, 32))
		}
	}
}

// step does one call of any kind on both, and holds them against each other.
func step(t *testing.T, r *rand.Rand, s *Slot, m *model) {
	t.Helper()
	switch r.Intn(8) {
	case 0:
		n := r.Intn(2*m.room+5) - 1
		s.Fuse(n)
		m.fused, m.fuse = true, max(n, 0)
	case 1:
		s.Start()
		m.start()
	case 2:
		at, by := r.Intn(32*m.room+4)-2, byte(r.Intn(256))
		want := at >= 0 && at < len(m.kept)
		if got := s.Turn(at, by); got != want {
			t.Fatalf("Turn(%d): %v", at, got)
		}
		if want {
			m.kept[at] ^= by
			m.on[32*(1+m.room*m.side)+at] ^= by
		}
	case 3:
		s.Disk().On()
		m.down, m.fused = false, false
	default:
		b := make([]byte, r.Intn(32*m.room+3))
		r.Read(b)
		save(t, s, b, m.save(b))
	}
	is(t, s, m.down, m.writes)
	stands(t, s, m.on)
	keeps(t, s, m.kept)
	isClean(t, s, bytes.Equal(m.on, layout(m.room, m.side, m.kept)))
}

// P15.1 to P15.4: any calls, one behind the other, against the model.
func TestAnyCalls(t *testing.T) {
	for seed := range int64(80) {
		r := rand.New(rand.NewSource(seed))
		room := r.Intn(5)
		s, m := New(room), &model{room: room, on: make([]byte, 32+64*room)}
		for range 300 {
			step(t, r, s, m)
		}
	}
}

// R5: the same calls, done again from the beginning, have the same answers.
func TestSameAgain(t *testing.T) {
	tell := func() []byte {
		r, s, out := rand.New(rand.NewSource(3)), New(3), []byte{}
		for range 200 {
			switch r.Intn(5) {
			case 0:
				s.Fuse(r.Intn(6))
			case 1:
				s.Start()
			case 2:
				s.Turn(r.Intn(40), 5)
			default:
				b := make([]byte, r.Intn(98))
				r.Read(b)
				out = append(out, byte(s.Save(b)))
			}
			out = append(append(out, s.Load()...), all(s.Disk())...)
		}
		return out
	}
	if !bytes.Equal(tell(), tell()) {
		t.Fatal("other answers")
	}
}
