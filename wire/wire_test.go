package wire

import (
	"bytes"
	"math"
	"math/rand"
	"runtime"
	"slices"
	"strings"
	"testing"

	"shamrock/api"
)

// least and most are the ends of the numbers that can be put, and longest that
// of bytes.
const (
	least   = -2
	most    = 1<<31 - 3
	longest = 1<<16 - 1
)

// field is a number of a message, by its name.
type field struct {
	name string
	set  func(m *api.Msg, n int)
	// at is where it is among the bytes of a message that has no other thing.
	at int
}

// fields are all numbers of a message but those of its lists.
func fields() []field {
	return []field{
		{"Kind", func(m *api.Msg, n int) { m.Kind = n }, 0},
		{"From", func(m *api.Msg, n int) { m.From = n }, 4},
		{"To", func(m *api.Msg, n int) { m.To = n }, 8},
		{"Session", func(m *api.Msg, n int) { m.Session = n }, 12},
		{"Decided", func(m *api.Msg, n int) { m.Decided = n }, 16},
		{"Commit", func(m *api.Msg, n int) { m.Commit = n }, 20},
		{"Epoch", func(m *api.Msg, n int) { m.Epoch = n }, 24},
		{"Size", func(m *api.Msg, n int) { m.Size = n }, 34},
		{"Sort", func(m *api.Msg, n int) { m.Sort = n }, 38},
		{"Target", func(m *api.Msg, n int) { m.Target = n }, 42},
		{"Code", func(m *api.Msg, n int) { m.Code = api.Errno(n) }, 54},
	}
}

// listed are the numbers in a message's lists: each sets one of them, among
// others.
func listed() []field {
	return []field{
		{"first Size of Heads", func(m *api.Msg, n int) { m.Heads = []api.Head{{ID: "a", Size: n}, {Size: 1}} }, 0},
		{"last Size of Heads", func(m *api.Msg, n int) { m.Heads = []api.Head{{Size: 1}, {ID: "ab", Size: n}} }, 0},
		{"only Dealer", func(m *api.Msg, n int) { m.Dealers = []int{n} }, 0},
		{"first Dealer", func(m *api.Msg, n int) { m.Dealers = []int{n, 4} }, 0},
		{"last Dealer", func(m *api.Msg, n int) { m.Dealers = []int{4, 4, n} }, 0},
		{"only Part", func(m *api.Msg, n int) { m.Parts = []int{n} }, 0},
		{"first Part", func(m *api.Msg, n int) { m.Parts = []int{n, 4} }, 0},
		{"last Part", func(m *api.Msg, n int) { m.Parts = []int{4, 4, n} }, 0},
	}
}

// piece is bytes of a message, by their name.
type piece struct {
	name string
	set  func(m *api.Msg, b []byte)
}

// pieces are all bytes of a message.
func pieces() []piece {
	return []piece{
		{"ID", func(m *api.Msg, b []byte) { m.ID = string(b) }},
		{"Data", func(m *api.Msg, b []byte) { m.Data = b }},
		{"only ID of Heads", func(m *api.Msg, b []byte) { m.Heads = []api.Head{{ID: string(b), Size: 3}} }},
		{"last ID of Heads", func(m *api.Msg, b []byte) { m.Heads = []api.Head{{ID: "x"}, {ID: string(b)}} }},
	}
}

// numbers are some that can be put: the ends of each of the four bytes.
func numbers() []int {
	all := []int{-2, -1, 0, 1, 2, 3, 127, 128, 1 << 20, most - 1, most}
	for shift := 8; shift < 32; shift += 8 {
		all = append(all, 1<<shift-4, 1<<shift-3, 1<<shift-2, 1<<shift-1)
	}
	return all[:len(all):len(all)]
}

// badNumbers are some that can not be put, also such as would be right modulo
// 2^31 and 2^32.
func badNumbers() []int {
	return []int{-3, -4, -256, -1 << 31, -1 << 32, -1<<32 + 5, math.MinInt, math.MinInt + 2, most + 1, most + 2, most + 3, 1<<32 - 2, 1<<32 - 1, 1 << 32, 1<<32 + 5, 1 << 40, math.MaxInt - 1, math.MaxInt}
}

// random is n bytes.
func random(r *rand.Rand, n int) []byte {
	b := make([]byte, n)
	r.Read(b)
	return b
}

// some is a message of all kinds of things.
func some(r *rand.Rand) api.Msg {
	number := func() int {
		if all := numbers(); r.Intn(2) == 0 {
			return all[r.Intn(len(all))]
		}
		return r.Intn(1<<31) - 2
	}
	list := func() []int {
		var all []int
		for range r.Intn(1 << r.Intn(6)) {
			all = append(all, number())
		}
		return all
	}
	m := api.Msg{
		Kind: number(), From: number(), To: number(), Session: number(), Decided: number(), Commit: number(), Epoch: number(),
		ID: string(random(r, r.Intn(1<<r.Intn(9)))), Size: number(), Sort: number(), Target: number(), Dealers: list(), Parts: list(),
		Code: api.Errno(number()), Data: random(r, r.Intn(1<<r.Intn(10))),
	}
	for range r.Intn(1 << r.Intn(5)) {
		m.Heads = append(m.Heads, api.Head{ID: string(random(r, r.Intn(1<<r.Intn(6)))), Size: number()})
	}
	return m
}

// small is a message in which each thing is another one.
func small() api.Msg {
	return api.Msg{
		Kind: 1, From: 2, To: 3, Session: 4, Decided: 5, Commit: 6, Epoch: 7,
		Heads: []api.Head{{ID: "ab", Size: 8}, {ID: "", Size: 9}, {ID: "c", Size: 10}},
		ID:    "def", Size: 11, Sort: 12, Target: 13, Dealers: []int{14, 15}, Parts: []int{16, 17, 18}, Code: 19, Data: []byte{20, 21},
	}
}

// digits is n, which is 0 at least, in as many bytes, the highest first.
func digits(n, places int) []byte {
	out := make([]byte, places)
	for i := places - 1; i >= 0; i-- {
		out[i] = byte(n % 256)
		n /= 256
	}
	return out
}

// slowly is m's bytes by the chapter's words, digit by digit.
func slowly(m api.Msg) []byte {
	var out []byte
	number := func(n int) { out = append(out, digits(n+2, 4)...) }
	text := func(b []byte) { out = append(append(out, digits(len(b), 2)...), b...) }
	for _, n := range []int{m.Kind, m.From, m.To, m.Session, m.Decided, m.Commit, m.Epoch, len(m.Heads)} {
		number(n)
	}
	for _, h := range m.Heads {
		text([]byte(h.ID))
		number(h.Size)
	}
	text([]byte(m.ID))
	for _, n := range slices.Concat([]int{m.Size, m.Sort, m.Target, len(m.Dealers)}, m.Dealers, []int{len(m.Parts)}, m.Parts) {
		number(n)
	}
	number(int(m.Code))
	text(m.Data)
	return out
}

// slowReader is bytes that are taken one by one, by chapter 12's words.
type slowReader struct {
	b   []byte
	bad bool
}

// digits is the number of the next places.
func (s *slowReader) digits(places int) int {
	n := 0
	for range places {
		if len(s.b) == 0 {
			s.bad = true
			return 0
		}
		n, s.b = n*256+int(s.b[0]), s.b[1:]
	}
	return n
}

func (s *slowReader) number() int {
	n := s.digits(4)
	s.bad = s.bad || n >= 1<<31
	return n - 2
}

func (s *slowReader) text() []byte {
	var out []byte
	for range s.digits(2) {
		out = append(out, byte(s.digits(1)))
	}
	return out
}

// list calls each as often as is told; it is bad, if that is below 0.
func (s *slowReader) list(each func()) {
	n := s.number()
	s.bad = s.bad || n < 0
	for i := 0; i < n && !s.bad; i++ {
		each()
	}
}

// slowlyBack is the message whose bytes b is, and whether there is one.
func slowlyBack(b []byte) (api.Msg, bool) {
	var m api.Msg
	s := &slowReader{b: b}
	for _, p := range []*int{&m.Kind, &m.From, &m.To, &m.Session, &m.Decided, &m.Commit, &m.Epoch} {
		*p = s.number()
	}
	s.list(func() {
		id := s.text()
		m.Heads = append(m.Heads, api.Head{ID: string(id), Size: s.number()})
	})
	m.ID = string(s.text())
	for _, p := range []*int{&m.Size, &m.Sort, &m.Target} {
		*p = s.number()
	}
	s.list(func() { m.Dealers = append(m.Dealers, s.number()) })
	s.list(func() { m.Parts = append(m.Parts, s.number()) })
	m.Code = api.Errno(s.number())
	m.Data = s.text()
	if s.bad || len(s.b) > 0 {
		return api.Msg{}, false
	}
	return m, true
}

// alike tells whether two messages are the same: nil and empty lists are.
func alike(a, b api.Msg) bool {
	return a.Kind == b.Kind && a.From == b.From && a.To == b.To && a.Session == b.Session &&
		a.Decided == b.Decided && a.Commit == b.Commit && a.Epoch == b.Epoch && slices.Equal(a.Heads, b.Heads) &&
		a.ID == b.ID && a.Size == b.Size && a.Sort == b.Sort && a.Target == b.Target &&
		slices.Equal(a.Dealers, b.Dealers) && slices.Equal(a.Parts, b.Parts) && a.Code == b.Code && bytes.Equal(a.Data, b.Data)
}

// thereAndBack fails the test if m's bytes are not told, or m not of them.
func thereAndBack(t *testing.T, m api.Msg) {
	t.Helper()
	want := slowly(m)
	b, ok := Encode(m)
	if !ok || !bytes.Equal(b, want) {
		t.Fatalf("Encode of %+v: %v, %v, want %v", m, b, ok, want)
	}
	got, ok := Decode(want)
	if !ok || !alike(got, m) {
		t.Fatalf("Decode of %v: %+v, %v, want %+v", want, got, ok, m)
	}
}

// notPut fails the test if m has bytes.
func notPut(t *testing.T, why string, m api.Msg) {
	t.Helper()
	if b, ok := Encode(m); ok || len(b) != 0 {
		t.Fatalf("%s: Encode: %v, %v", why, b, ok)
	}
}

// none fails the test if b is a message's bytes.
func none(t *testing.T, why string, b []byte) {
	t.Helper()
	m, ok := Decode(b)
	if ok || !alike(m, api.Msg{}) {
		t.Fatalf("%s: Decode of %v: %+v, %v", why, b, m, ok)
	}
}

// asSlowly fails the test if Decode(b) is not what it has to be.
func asSlowly(t *testing.T, b []byte) {
	t.Helper()
	want, there := slowlyBack(b)
	got, ok := Decode(b)
	if ok != there || !alike(got, want) {
		t.Fatalf("Decode of %v: %+v, %v, want %+v, %v", b, got, ok, want, there)
	}
}

// P13.1, P13.2: the chapter's example.
func TestExample(t *testing.T) {
	b, ok := Encode(api.Msg{})
	if !ok || len(b) != 60 {
		t.Fatalf("%d bytes, %v", len(b), ok)
	}
	thereAndBack(t, api.Msg{})
}

// P13.1, P13.2: written down by hand.
func TestWrittenDown(t *testing.T) {
	m := small()
	m.From, m.To = api.Coord, api.Client
	want := []byte{
		0, 0, 0, 3, 0, 0, 0, 1, 0, 0, 0, 0, 0, 0, 0, 6,
		0, 0, 0, 7, 0, 0, 0, 8, 0, 0, 0, 9,
		0, 0, 0, 5, 0, 2, 'a', 'b', 0, 0, 0, 10, 0, 0, 0, 0, 0, 11, 0, 1, 'c', 0, 0, 0, 12,
		0, 3, 'd', 'e', 'f', 0, 0, 0, 13, 0, 0, 0, 14, 0, 0, 0, 15,
		0, 0, 0, 4, 0, 0, 0, 16, 0, 0, 0, 17,
		0, 0, 0, 5, 0, 0, 0, 18, 0, 0, 0, 19, 0, 0, 0, 20,
		0, 0, 0, 21, 0, 2, 20, 21,
	}
	if !bytes.Equal(slowly(m), want) {
		t.Fatal("the test's own bytes are wrong")
	}
	thereAndBack(t, m)
	thereAndBack(t, small())
}

// P13.1, P13.2: each number at its ends, alone and among others, and where it
// stands.
func TestNumbers(t *testing.T) {
	for _, f := range fields() {
		for _, n := range numbers() {
			var m api.Msg
			f.set(&m, n)
			b, ok := Encode(m)
			if !ok || len(b) != 60 || !bytes.Equal(b[f.at:f.at+4], digits(n+2, 4)) {
				t.Fatalf("%s %d: %v, %v", f.name, n, b, ok)
			}
			thereAndBack(t, m)
			m = small()
			f.set(&m, n)
			thereAndBack(t, m)
		}
	}
	for _, f := range listed() {
		for _, n := range numbers() {
			var m api.Msg
			f.set(&m, n)
			thereAndBack(t, m)
		}
	}
}

// P13.1: each number that can not be put, alone and among others.
func TestBadNumbers(t *testing.T) {
	for _, f := range append(fields(), listed()...) {
		for _, n := range badNumbers() {
			var m api.Msg
			f.set(&m, n)
			notPut(t, f.name, m)
			m = small()
			f.set(&m, n)
			notPut(t, f.name, m)
		}
	}
}

// P13.1, P13.2: bytes of many lengths, and those at their end; more can not be
// put, also not such as would be right modulo 2^16.
func TestLengths(t *testing.T) {
	r := rand.New(rand.NewSource(1))
	for _, p := range pieces() {
		for _, n := range []int{0, 1, 2, 16, 17, 255, 256, 257, 1<<15 - 1, 1 << 15, longest - 1, longest} {
			var m api.Msg
			p.set(&m, random(r, n))
			thereAndBack(t, m)
			m = small()
			p.set(&m, random(r, n))
			thereAndBack(t, m)
		}
		for _, n := range []int{longest + 1, longest + 2, 1<<16 + 16, 1 << 17, 1<<20 + 3} {
			var m api.Msg
			p.set(&m, random(r, n))
			notPut(t, p.name, m)
			m = small()
			p.set(&m, random(r, n))
			notPut(t, p.name, m)
		}
	}
}

// P13.1: several things that can not be put.
func TestSeveralBad(t *testing.T) {
	m := small()
	m.Kind, m.Code, m.Data = -3, most+1, make([]byte, longest+1)
	notPut(t, "several", m)
}

// P13.1, P13.2: lists of many lengths, also such as one or two bytes do not
// tell.
func TestLists(t *testing.T) {
	r := rand.New(rand.NewSource(2))
	for _, n := range []int{0, 1, 2, 3, 8, 9, 253, 254, 255, 256, 257, 1<<16 - 3, 1<<16 - 2, 1 << 16, 1<<16 + 7} {
		var ints []int
		var heads []api.Head
		for range n {
			ints = append(ints, r.Intn(1<<31)-2)
			heads = append(heads, api.Head{ID: string(random(r, r.Intn(3))), Size: r.Intn(1<<31) - 2})
		}
		thereAndBack(t, api.Msg{Heads: heads})
		thereAndBack(t, api.Msg{Dealers: ints})
		thereAndBack(t, api.Msg{Parts: ints})
		thereAndBack(t, api.Msg{Heads: heads, Dealers: ints, Parts: ints[:n/2]})
	}
}

// P13.2: as many heads without names, and numbers, as bytes of their kind can
// hold at most: no bound on how many come refuses them.
func TestNothingButLists(t *testing.T) {
	for n := range 100 {
		thereAndBack(t, api.Msg{Heads: make([]api.Head, n)})
		thereAndBack(t, api.Msg{Dealers: make([]int, n)})
		thereAndBack(t, api.Msg{Parts: make([]int, n)})
	}
}

// P13.1, P13.2: names and data of any bytes, and the same thing twice.
func TestAnyBytes(t *testing.T) {
	for b := range 256 {
		s := string([]byte{byte(b), 0, byte(b)})
		thereAndBack(t, api.Msg{ID: s, Data: []byte(s), Heads: []api.Head{{ID: s}, {ID: s}}, Dealers: []int{b, b}, Parts: []int{b, b}})
	}
}

// P13.1, P13.2: all kinds of messages.
func TestThereAndBack(t *testing.T) {
	for seed := range int64(1000) {
		thereAndBack(t, some(rand.New(rand.NewSource(seed))))
	}
}

// P13.2: bytes of which some are missing at the end, or ahead, or which have
// more behind them.
func TestShortAndLong(t *testing.T) {
	messages := []api.Msg{{}, small()}
	for seed := range int64(20) {
		messages = append(messages, some(rand.New(rand.NewSource(seed))))
	}
	for _, m := range messages {
		b := slowly(m)
		for n := range len(b) {
			none(t, "short", b[:n])
		}
		for n := range min(len(b), 400) {
			asSlowly(t, b[n:])
		}
		none(t, "long", append(bytes.Clone(b), 0))
		none(t, "long", append(bytes.Clone(b), 255))
		none(t, "long", append(bytes.Clone(b), 0, 0))
		none(t, "long", append(bytes.Clone(b), 0, 0, 0, 2))
		none(t, "twice", append(bytes.Clone(b), b...))
	}
	none(t, "nil", nil)
	none(t, "empty", []byte{})
}

// P13.2: numbers whose first bit is 1, and lists of less than none, by hand.
func TestWrongNumbers(t *testing.T) {
	for _, at := range []int{0, 4, 8, 12, 16, 20, 24, 28, 34, 38, 42, 46, 50, 54} {
		for _, first := range []byte{128, 129, 255} {
			b := slowly(api.Msg{})
			b[at] = first
			none(t, "first bit", b)
		}
	}
	for _, at := range []int{28, 46, 50} {
		for _, four := range [][]byte{{0, 0, 0, 0}, {0, 0, 0, 1}, {128, 0, 0, 2}, {128, 0, 0, 0}, {255, 255, 255, 255}, {127, 255, 255, 255}, {0, 0, 0, 3}, {0, 1, 0, 2}} {
			b := slowly(api.Msg{})
			copy(b[at:], four)
			none(t, "count", b)
		}
	}
}

// P13.2: how many things a list has, one by one, in messages of which some
// would still be one.
func TestCounts(t *testing.T) {
	for seed := range int64(30) {
		m := some(rand.New(rand.NewSource(seed)))
		heads := 28
		dealers := len(slowly(api.Msg{Heads: m.Heads, ID: m.ID})) - 14
		parts := dealers + 4 + 4*len(m.Dealers)
		for _, at := range []int{heads, dealers, parts} {
			for n := range 200 {
				b := slowly(m)
				copy(b[at:], digits(n, 4))
				asSlowly(t, b)
			}
		}
	}
	// A number of the one list may as well be how many there are of the next.
	b := slowly(api.Msg{Dealers: []int{1, 5}, Code: 4<<16 - 2})
	copy(b[46:], digits(0+2, 4))
	got, ok := Decode(b)
	if !ok || !alike(got, api.Msg{Parts: []int{5}, Data: make([]byte, 4)}) {
		t.Fatalf("Decode of %v: %+v, %v", b, got, ok)
	}
}

// P13.2: bytes at which one, or several, are changed.
func TestChanged(t *testing.T) {
	there := 0
	for seed := range int64(3000) {
		r := rand.New(rand.NewSource(seed))
		b := slowly(some(r))
		for range 1 + r.Intn(3) {
			at := r.Intn(len(b))
			switch r.Intn(5) {
			case 0:
				b[at] ^= 1 << r.Intn(8)
			case 1:
				b[at] = byte(r.Intn(4))
			case 2:
				b[at]++
			case 3:
				b = slices.Delete(b, at, at+1)
			case 4:
				b = slices.Insert(b, at, byte(r.Intn(3)))
			}
		}
		asSlowly(t, b)
		if m, ok := Decode(b); ok {
			there++
			thereAndBack(t, m)
		}
	}
	if there == 0 {
		t.Error("no message at all among changed ones")
	}
}

// P13.2: bytes that are random.
func TestRandom(t *testing.T) {
	for seed := range int64(2000) {
		r := rand.New(rand.NewSource(seed))
		b := random(r, r.Intn(200))
		asSlowly(t, b)
		for i := range b {
			b[i] = byte(r.Intn(3))
		}
		asSlowly(t, b)
		for i := range b {
			b[i] &= byte(1 + r.Intn(2))
			if i%4 != 3 {
				b[i] = 0
			}
		}
		asSlowly(t, b)
	}
}

// P13.2, R7: whoever claims things that do not come has no room made for them.
func TestClaims(t *testing.T) {
	for _, at := range []int{28, 46, 50} {
		for _, four := range [][]byte{{127, 255, 255, 255}, {64, 0, 0, 0}, {16, 0, 0, 0}} {
			b := slowly(api.Msg{})
			copy(b[at:], four)
			var before, after runtime.MemStats
			runtime.ReadMemStats(&before)
			none(t, "claim", b)
			runtime.ReadMemStats(&after)
			if n := after.TotalAlloc - before.TotalAlloc; n > 1<<20 {
				t.Errorf("%d bytes of memory for a claim at %d", n, at)
			}
		}
	}
}

// R4: what is handed in is not changed, its spare room included, and not kept.
func TestHandedIn(t *testing.T) {
	spare := func() api.Msg {
		m := small()
		m.Heads = append(m.Heads, api.Head{ID: "spare", Size: 1})[:3]
		m.Dealers = append(m.Dealers, 98)[:2]
		m.Parts = append(m.Parts, 99)[:3]
		m.Data = append(m.Data, 100, 101)[:2]
		return m
	}
	m := spare()
	b, _ := Encode(m)
	want := spare()
	if !alike(m, want) || m.Heads[:4][3] != want.Heads[:4][3] || m.Dealers[:3][2] != 98 || m.Parts[:4][3] != 99 || !bytes.Equal(m.Data[:4], []byte{20, 21, 100, 101}) {
		t.Fatalf("changed: %+v", m)
	}
	clear(m.Data[:cap(m.Data)])
	clear(m.Heads)
	if !bytes.Equal(b, slowly(small())) {
		t.Fatal("what was handed in is kept")
	}
	room := append(slowly(small()), 7, 7, 7)
	was := bytes.Clone(room)
	got, _ := Decode(room[:len(room)-3])
	spoil(got)
	if !bytes.Equal(room, was) {
		t.Fatal("changed")
	}
	got, _ = Decode(room[:len(room)-3])
	clear(room)
	if !alike(got, small()) {
		t.Fatal("what was handed in is kept")
	}
}

// spoil writes all over m's lists, their spare room included.
func spoil(m api.Msg) {
	for i := range m.Heads[:cap(m.Heads)] {
		m.Heads[:cap(m.Heads)][i] = api.Head{ID: strings.Repeat("z", 3), Size: -9}
	}
	for _, list := range [][]int{m.Dealers, m.Parts} {
		for i := range list[:cap(list)] {
			list[:cap(list)][i] = -9
		}
	}
	for i := range m.Data[:cap(m.Data)] {
		m.Data[:cap(m.Data)][i] ^= 255
	}
}

// R4: answers share no memory, neither with one another nor inside one.
func TestAnswers(t *testing.T) {
	first, _ := Encode(small())
	second, _ := Encode(small())
	clear(first[:cap(first)])
	if !bytes.Equal(second, slowly(small())) {
		t.Fatal("two answers share memory")
	}
	one, _ := Decode(second)
	two, _ := Decode(second)
	spoil(one)
	if !alike(two, small()) {
		t.Fatal("two answers share memory")
	}
	spoil(api.Msg{Dealers: two.Dealers})
	if want := small(); !slices.Equal(two.Parts, want.Parts) || !bytes.Equal(two.Data, want.Data) || !slices.Equal(two.Heads, want.Heads) {
		t.Fatal("two lists of an answer share memory")
	}
	spoil(api.Msg{Parts: two.Parts})
	if want := small(); !bytes.Equal(two.Data, want.Data) || !slices.Equal(two.Heads, want.Heads) {
		t.Fatal("two lists of an answer share memory")
	}
	for _, all := range [][]int{two.Dealers, two.Parts} {
		_ = append(all, 5, 5, 5)
	}
	_ = append(two.Data, 5, 5, 5)
	if two.ID != "def" || !slices.Equal(two.Heads, small().Heads) {
		t.Fatal("a text shares memory with a list")
	}
}

// R4: nil and empty lists are the same.
func TestNilAndEmpty(t *testing.T) {
	b, ok := Encode(api.Msg{Heads: []api.Head{}, Dealers: []int{}, Parts: []int{}, Data: []byte{}})
	if !ok || !bytes.Equal(b, slowly(api.Msg{})) {
		t.Error(b, ok)
	}
}

// R5: the same calls have the same answers, whatever was called between them.
func TestSameAnswers(t *testing.T) {
	for range 3 {
		thereAndBack(t, small())
		notPut(t, "-3", api.Msg{Kind: -3})
		none(t, "short", []byte{1})
		thereAndBack(t, api.Msg{})
	}
}
