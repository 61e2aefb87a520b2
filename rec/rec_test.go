package rec

import (
	"bytes"
	"crypto/hmac"
	"crypto/sha256"
	"math"
	"math/rand"
	"runtime"
	"slices"
	"testing"

	"shamrock/api"
)

// most is the greatest number that can be put, and longest how many bytes can
// be at most.
const (
	most    = 1<<31 - 3
	longest = 1<<16 - 1
)

// number is a number of a state or of a book, by its name.
type number[T any] struct {
	name string
	set  func(x *T, n int)
	// at is where it is among the bytes of one that has no other thing; below 0,
	// if it is in a list.
	at int
}

// stateNumbers are all numbers of a state, some of them in lists.
func stateNumbers() []number[api.State] {
	return []number[api.State]{
		{"Epoch", func(s *api.State, n int) { s.Epoch = n }, 0},
		{"Decided", func(s *api.State, n int) { s.Decided = n }, 4},
		{"Dealt", func(s *api.State, n int) { s.Dealt = n }, 8},
		{"Pend's Session", func(s *api.State, n int) { s.Pend.Session = n }, 16},
		{"Pend's Kind", func(s *api.State, n int) { s.Pend.Kind = n }, 20},
		{"Pend's Epoch", func(s *api.State, n int) { s.Pend.Epoch = n }, 24},
		{"only Size", func(s *api.State, n int) { s.Objs = []api.Obj{{ID: "a", Size: n}} }, -1},
		{"first Size", func(s *api.State, n int) { s.Objs = []api.Obj{{ID: "a", Size: n}, {Size: 1}} }, -1},
		{"last Size", func(s *api.State, n int) { s.Objs = []api.Obj{{}, {Share: []byte{1}, Size: n}} }, -1},
		{"Pend's only Size", func(s *api.State, n int) { s.Pend.Objs = []api.Obj{{ID: "a", Size: n}} }, -1},
		{"Pend's last Size", func(s *api.State, n int) { s.Pend.Objs = []api.Obj{{Tag: []byte{4}}, {Size: n}} }, -1},
	}
}

// bookNumbers are all numbers of a book, some of them in lists.
func bookNumbers() []number[api.Book] {
	return []number[api.Book]{
		{"Session", func(k *api.Book, n int) { k.Session = n }, 0},
		{"Decided", func(k *api.Book, n int) { k.Decided = n }, 4},
		{"Epoch", func(k *api.Book, n int) { k.Epoch = n }, 8},
		{"only Size", func(k *api.Book, n int) { k.Dir = []api.Head{{ID: "a", Size: n}} }, -1},
		{"first Size", func(k *api.Book, n int) { k.Dir = []api.Head{{ID: "a", Size: n}, {Size: 1}} }, -1},
		{"last Size", func(k *api.Book, n int) { k.Dir = []api.Head{{}, {ID: "ab", Size: n}} }, -1},
		{"only Commit", func(k *api.Book, n int) { k.Commit = []int{n} }, -1},
		{"first Commit", func(k *api.Book, n int) { k.Commit = []int{n, 4} }, -1},
		{"last Commit", func(k *api.Book, n int) { k.Commit = []int{4, 4, n} }, -1},
	}
}

// piece is bytes of a state or of a book, by their name.
type piece[T any] struct {
	name string
	set  func(x *T, b []byte)
}

// statePieces are all bytes of a state.
func statePieces() []piece[api.State] {
	return []piece[api.State]{
		{"ID", func(s *api.State, b []byte) { s.Objs = []api.Obj{{ID: string(b), Size: 3}} }},
		{"Share", func(s *api.State, b []byte) { s.Objs = []api.Obj{{ID: "x"}, {Share: b}} }},
		{"Tag", func(s *api.State, b []byte) { s.Objs = []api.Obj{{Tag: b}, {ID: "y"}} }},
		{"Pend's ID", func(s *api.State, b []byte) { s.Pend.Objs = []api.Obj{{ID: string(b), Size: 3}} }},
		{"Pend's Share", func(s *api.State, b []byte) { s.Pend.Objs = []api.Obj{{ID: "x"}, {Share: b}} }},
		{"Pend's Tag", func(s *api.State, b []byte) { s.Pend.Objs = []api.Obj{{Tag: b}, {ID: "y"}} }},
	}
}

// bookPieces are all bytes of a book.
func bookPieces() []piece[api.Book] {
	return []piece[api.Book]{
		{"only ID", func(k *api.Book, b []byte) { k.Dir = []api.Head{{ID: string(b), Size: 3}} }},
		{"last ID", func(k *api.Book, b []byte) { k.Dir = []api.Head{{ID: "x"}, {ID: string(b)}} }},
	}
}

// numbers are some that can be put: the ends of each of the four bytes.
func numbers() []int {
	all := []int{-2, -1, 0, 1, 2, 3, 127, 128, 1 << 20, most - 1, most}
	for shift := 8; shift < 32; shift += 8 {
		all = append(all, 1<<shift-4, 1<<shift-3, 1<<shift-2, 1<<shift-1)
	}
	return slices.DeleteFunc(all, func(n int) bool { return n > most })
}

// badNumbers are some that can not be put, also such as would be right modulo
// 2^31 and 2^32.
func badNumbers() []int {
	return []int{-3, -4, -256, -1 << 31, -1 << 32, -1<<32 + 5, math.MinInt, math.MinInt + 2, most + 1, most + 2, most + 3, 1<<32 - 2, 1<<32 - 1, 1 << 32, 1<<32 + 5, 1 << 40, math.MaxInt - 1, math.MaxInt}
}

// random is n bytes.
func random(r *rand.Rand, n int) []byte {
	b := make([]byte, n)
	r.Read(b)
	return b
}

// someNumber is one that can be put.
func someNumber(r *rand.Rand) int {
	if all := numbers(); r.Intn(2) == 0 {
		return all[r.Intn(len(all))]
	}
	return r.Intn(1<<31) - 2
}

// someObjs are objects of all kinds.
func someObjs(r *rand.Rand) []api.Obj {
	var all []api.Obj
	for range r.Intn(1 << r.Intn(5)) {
		o := api.Obj{ID: string(random(r, r.Intn(1<<r.Intn(5)))), Size: someNumber(r)}
		o.Share, o.Tag = random(r, r.Intn(1<<r.Intn(9))), random(r, r.Intn(9))
		all = append(all, o)
	}
	return all
}

// someState is a state of all kinds of things.
func someState(r *rand.Rand) api.State {
	return api.State{
		Epoch: someNumber(r), Decided: someNumber(r), Dealt: someNumber(r), Objs: someObjs(r),
		Pend: api.Pend{Session: someNumber(r), Kind: someNumber(r), Epoch: someNumber(r), Objs: someObjs(r)},
	}
}

// someBook is a book of all kinds of things.
func someBook(r *rand.Rand) api.Book {
	k := api.Book{Session: someNumber(r), Decided: someNumber(r), Epoch: someNumber(r)}
	for range r.Intn(1 << r.Intn(5)) {
		k.Dir = append(k.Dir, api.Head{ID: string(random(r, r.Intn(1<<r.Intn(6)))), Size: someNumber(r)})
	}
	for range r.Intn(1 << r.Intn(6)) {
		k.Up = append(k.Up, r.Intn(2) == 0)
	}
	for range r.Intn(1 << r.Intn(6)) {
		k.Commit = append(k.Commit, someNumber(r))
	}
	return k
}

// smallState is a state in which each thing is another one.
func smallState() api.State {
	return api.State{
		Epoch: 1, Decided: 2, Dealt: 3,
		Objs: []api.Obj{{ID: "ab", Size: 4, Share: []byte{5, 6}, Tag: []byte{7}}, {ID: "c", Size: 8, Share: []byte{9}, Tag: []byte{10, 11, 12}}},
		Pend: api.Pend{Session: 13, Kind: 14, Epoch: 15, Objs: []api.Obj{{ID: "", Size: 16}, {ID: "d", Size: 17, Share: []byte{18, 19, 20}, Tag: []byte{21}}}},
	}
}

// smallBook is a book in which each thing is another one.
func smallBook() api.Book {
	return api.Book{Session: 1, Decided: 2, Epoch: 3, Dir: []api.Head{{ID: "ab", Size: 4}, {ID: "", Size: 5}}, Up: []bool{true, false, true}, Commit: []int{6, 7}}
}

// digits is n, which is 0 at least, in as many bytes, the highest first.
func digits(n, places int) []byte {
	out := make([]byte, places)
	for i := places - 1; i >= 0; i-- {
		out[i] = byte(n % 256)
		n /= 256
	}
	return out
}

// slow is bytes that are put by chapter 12's words, digit by digit.
type slow []byte

func (s *slow) numbers(all ...int) {
	for _, n := range all {
		*s = append(*s, digits(n+2, 4)...)
	}
}

func (s *slow) text(b []byte) { *s = append(append(*s, digits(len(b), 2)...), b...) }

func (s *slow) objs(all []api.Obj) {
	s.numbers(len(all))
	for _, o := range all {
		s.text([]byte(o.ID))
		s.numbers(o.Size)
		s.text(o.Share)
		s.text(o.Tag)
	}
}

// slowState is s's bytes by the chapter's words.
func slowState(s api.State) []byte {
	var out slow
	out.numbers(s.Epoch, s.Decided, s.Dealt)
	out.objs(s.Objs)
	out.numbers(s.Pend.Session, s.Pend.Kind, s.Pend.Epoch)
	out.objs(s.Pend.Objs)
	return out
}

// slowBook is k's bytes by the chapter's words.
func slowBook(k api.Book) []byte {
	var out slow
	out.numbers(k.Session, k.Decided, k.Epoch, len(k.Dir))
	for _, h := range k.Dir {
		out.text([]byte(h.ID))
		out.numbers(h.Size)
	}
	out.numbers(len(k.Up))
	for _, up := range k.Up {
		n := 0
		if up {
			n = 1
		}
		out.numbers(n)
	}
	out.numbers(len(k.Commit))
	out.numbers(k.Commit...)
	return out
}

// slowTag is the tag by the chapter's words, and the library's HMAC.
func slowTag(holder, epoch int, o api.Obj) []byte {
	var key, text slow
	key.numbers(holder)
	text.numbers(epoch)
	text.text([]byte(o.ID))
	text.numbers(o.Size)
	text.text(o.Share)
	h := hmac.New(sha256.New, key)
	h.Write(text)
	return h.Sum(nil)[:8]
}

// slowReader is bytes that are taken one by one, by chapter 12's words.
type slowReader struct {
	b   []byte
	bad bool
}

// digits is the number of the next places.
func (s *slowReader) digits(places int) int {
	n := 0
	for range places {
		if len(s.b) == 0 {
			s.bad = true
			return 0
		}
		n, s.b = n*256+int(s.b[0]), s.b[1:]
	}
	return n
}

func (s *slowReader) number() int {
	n := s.digits(4)
	s.bad = s.bad || n >= 1<<31
	return n - 2
}

func (s *slowReader) text() []byte {
	var out []byte
	for range s.digits(2) {
		out = append(out, byte(s.digits(1)))
	}
	return out
}

// list calls each as often as is told; it is bad, if that is below 0.
func (s *slowReader) list(each func()) {
	n := s.number()
	s.bad = s.bad || n < 0
	for i := 0; i < n && !s.bad; i++ {
		each()
	}
}

func (s *slowReader) objs() []api.Obj {
	var all []api.Obj
	s.list(func() {
		var o api.Obj
		o.ID = string(s.text())
		o.Size = s.number()
		o.Share = s.text()
		o.Tag = s.text()
		all = append(all, o)
	})
	return all
}

// stateOf is the state whose bytes b is, and whether there is one.
func stateOf(b []byte) (api.State, bool) {
	var x api.State
	s := &slowReader{b: b}
	x.Epoch = s.number()
	x.Decided = s.number()
	x.Dealt = s.number()
	x.Objs = s.objs()
	x.Pend.Session = s.number()
	x.Pend.Kind = s.number()
	x.Pend.Epoch = s.number()
	x.Pend.Objs = s.objs()
	if s.bad || len(s.b) > 0 {
		return api.State{}, false
	}
	return x, true
}

// bookOf is the book whose bytes b is, and whether there is one.
func bookOf(b []byte) (api.Book, bool) {
	var k api.Book
	s := &slowReader{b: b}
	k.Session = s.number()
	k.Decided = s.number()
	k.Epoch = s.number()
	s.list(func() {
		id := s.text()
		k.Dir = append(k.Dir, api.Head{ID: string(id), Size: s.number()})
	})
	s.list(func() {
		n := s.number()
		s.bad = s.bad || n < 0 || n > 1
		k.Up = append(k.Up, n == 1)
	})
	s.list(func() { k.Commit = append(k.Commit, s.number()) })
	if s.bad || len(s.b) > 0 {
		return api.Book{}, false
	}
	return k, true
}

// alikeObjs tells whether two lists of objects are the same.
func alikeObjs(a, b []api.Obj) bool {
	return slices.EqualFunc(a, b, func(x, y api.Obj) bool {
		return x.ID == y.ID && x.Size == y.Size && bytes.Equal(x.Share, y.Share) && bytes.Equal(x.Tag, y.Tag)
	})
}

// alikeStates tells whether two states are the same: nil and empty lists are.
func alikeStates(a, b api.State) bool {
	return a.Epoch == b.Epoch && a.Decided == b.Decided && a.Dealt == b.Dealt && alikeObjs(a.Objs, b.Objs) &&
		a.Pend.Session == b.Pend.Session && a.Pend.Kind == b.Pend.Kind && a.Pend.Epoch == b.Pend.Epoch && alikeObjs(a.Pend.Objs, b.Pend.Objs)
}

// alikeBooks tells whether two books are the same: nil and empty lists are.
func alikeBooks(a, b api.Book) bool {
	return a.Session == b.Session && a.Decided == b.Decided && a.Epoch == b.Epoch &&
		slices.Equal(a.Dir, b.Dir) && slices.Equal(a.Up, b.Up) && slices.Equal(a.Commit, b.Commit)
}

// kind is states, or books, as things that are put and told.
type kind[T any] struct {
	encode  func(T) ([]byte, bool)
	decode  func([]byte) (T, bool)
	slow    func(T) []byte
	back    func([]byte) (T, bool)
	alike   func(a, b T) bool
	some    func(*rand.Rand) T
	small   func() T
	numbers []number[T]
	pieces  []piece[T]
	// bare is how many bytes one without anything has, and counts are where in
	// them it is told how many things of a list there are.
	bare   int
	counts []int
}

func states() kind[api.State] {
	return kind[api.State]{EncodeState, DecodeState, slowState, stateOf, alikeStates, someState, smallState, stateNumbers(), statePieces(), 32, []int{12, 28}}
}

func books() kind[api.Book] {
	return kind[api.Book]{EncodeBook, DecodeBook, slowBook, bookOf, alikeBooks, someBook, smallBook, bookNumbers(), bookPieces(), 24, []int{12, 16, 20}}
}

// thereAndBack fails the test if x's bytes are not told, or x not of them.
func (k kind[T]) thereAndBack(t *testing.T, x T) {
	t.Helper()
	want := k.slow(x)
	b, ok := k.encode(x)
	if !ok || !bytes.Equal(b, want) {
		t.Fatalf("Encode of %+v: %v, %v, want %v", x, b, ok, want)
	}
	got, ok := k.decode(want)
	if !ok || !k.alike(got, x) {
		t.Fatalf("Decode of %v: %+v, %v, want %+v", want, got, ok, x)
	}
}

// notPut fails the test if x has bytes.
func (k kind[T]) notPut(t *testing.T, why string, x T) {
	t.Helper()
	if b, ok := k.encode(x); ok || len(b) != 0 {
		t.Fatalf("%s: Encode: %v, %v", why, b, ok)
	}
}

// none fails the test if b is nothing's bytes, and is told to be something's.
func (k kind[T]) none(t *testing.T, why string, b []byte) {
	t.Helper()
	var zero T
	x, ok := k.decode(b)
	if ok || !k.alike(x, zero) {
		t.Fatalf("%s: Decode of %v: %+v, %v", why, b, x, ok)
	}
}

// asSlowly fails the test if what is decoded of b is not what it has to be.
func (k kind[T]) asSlowly(t *testing.T, b []byte) bool {
	t.Helper()
	want, there := k.back(b)
	got, ok := k.decode(b)
	if ok != there || !k.alike(got, want) {
		t.Fatalf("Decode of %v: %+v, %v, want %+v, %v", b, got, ok, want, there)
	}
	return there
}

// P16.1, P16.2: the chapter's example.
func TestExample(t *testing.T) {
	if b, ok := EncodeState(api.State{}); !ok || len(b) != 32 {
		t.Errorf("%d bytes of a state, %v", len(b), ok)
	}
	if b, ok := EncodeBook(api.Book{}); !ok || len(b) != 24 {
		t.Errorf("%d bytes of a book, %v", len(b), ok)
	}
	states().thereAndBack(t, api.State{})
	books().thereAndBack(t, api.Book{})
}

// P16.1, P16.2: written down by hand.
func TestWrittenDown(t *testing.T) {
	want := []byte{
		0, 0, 0, 3, 0, 0, 0, 4, 0, 0, 0, 5,
		0, 0, 0, 4, 0, 2, 'a', 'b', 0, 0, 0, 6, 0, 2, 5, 6, 0, 1, 7, 0, 1, 'c', 0, 0, 0, 10, 0, 1, 9, 0, 3, 10, 11, 12,
		0, 0, 0, 15, 0, 0, 0, 16, 0, 0, 0, 17,
		0, 0, 0, 4, 0, 0, 0, 0, 0, 18, 0, 0, 0, 0, 0, 1, 'd', 0, 0, 0, 19, 0, 3, 18, 19, 20, 0, 1, 21,
	}
	if got, ok := EncodeState(smallState()); !ok || !bytes.Equal(got, want) {
		t.Errorf("%v, %v", got, ok)
	}
	states().thereAndBack(t, smallState())
	want = []byte{
		0, 0, 0, 3, 0, 0, 0, 4, 0, 0, 0, 5,
		0, 0, 0, 4, 0, 2, 'a', 'b', 0, 0, 0, 6, 0, 0, 0, 0, 0, 7,
		0, 0, 0, 5, 0, 0, 0, 3, 0, 0, 0, 2, 0, 0, 0, 3,
		0, 0, 0, 4, 0, 0, 0, 8, 0, 0, 0, 9,
	}
	if got, ok := EncodeBook(smallBook()); !ok || !bytes.Equal(got, want) {
		t.Errorf("%v, %v", got, ok)
	}
	books().thereAndBack(t, smallBook())
}

// both runs a test of states, and of books.
func both(t *testing.T, ofStates func(*testing.T, kind[api.State]), ofBooks func(*testing.T, kind[api.Book])) {
	t.Run("states", func(t *testing.T) { ofStates(t, states()) })
	t.Run("books", func(t *testing.T) { ofBooks(t, books()) })
}

// P16.1, P16.2: each number at its ends, alone and among others, and where it
// stands.
func TestNumbers(t *testing.T) {
	both(t, checkNumbers[api.State], checkNumbers[api.Book])
}

func checkNumbers[T any](t *testing.T, k kind[T]) {
	for _, f := range k.numbers {
		for _, n := range numbers() {
			var x T
			f.set(&x, n)
			b, ok := k.encode(x)
			if f.at >= 0 && (!ok || len(b) != k.bare || !bytes.Equal(b[f.at:f.at+4], digits(n+2, 4))) {
				t.Fatalf("%s %d: %v, %v", f.name, n, b, ok)
			}
			k.thereAndBack(t, x)
			x = k.small()
			f.set(&x, n)
			k.thereAndBack(t, x)
		}
		for _, n := range badNumbers() {
			var x T
			f.set(&x, n)
			k.notPut(t, f.name, x)
			x = k.small()
			f.set(&x, n)
			k.notPut(t, f.name, x)
		}
	}
}

// P16.1, P16.2: bytes of many lengths, and those at their end; more can not be
// put, also not such as would be right modulo 2^16.
func TestLengths(t *testing.T) {
	both(t, checkLengths[api.State], checkLengths[api.Book])
}

func checkLengths[T any](t *testing.T, k kind[T]) {
	r := rand.New(rand.NewSource(1))
	for _, p := range k.pieces {
		for _, n := range []int{0, 1, 2, 16, 17, 255, 256, 257, 1<<15 - 1, 1 << 15, longest - 1, longest} {
			var x T
			p.set(&x, random(r, n))
			k.thereAndBack(t, x)
			x = k.small()
			p.set(&x, random(r, n))
			k.thereAndBack(t, x)
		}
		for _, n := range []int{longest + 1, longest + 2, 1<<16 + 16, 1 << 17, 1<<20 + 3} {
			var x T
			p.set(&x, random(r, n))
			k.notPut(t, p.name, x)
			x = k.small()
			p.set(&x, random(r, n))
			k.notPut(t, p.name, x)
		}
	}
}

// P16.1, P16.2: lists of many lengths, also such as one or two bytes do not
// tell, and of as little in each as can be.
func TestLists(t *testing.T) {
	r := rand.New(rand.NewSource(2))
	for _, n := range []int{0, 1, 2, 3, 8, 9, 100, 253, 254, 255, 256, 257, 1<<16 - 3, 1<<16 - 2, 1 << 16, 1<<16 + 7} {
		objs := make([]api.Obj, n)
		states().thereAndBack(t, api.State{Objs: objs})
		states().thereAndBack(t, api.State{Pend: api.Pend{Objs: objs}})
		books().thereAndBack(t, api.Book{Dir: make([]api.Head, n)})
		books().thereAndBack(t, api.Book{Up: make([]bool, n)})
		books().thereAndBack(t, api.Book{Commit: make([]int, n)})
		k := api.Book{Dir: make([]api.Head, n), Up: make([]bool, n), Commit: make([]int, n)}
		for i := range n {
			objs[i] = api.Obj{ID: string(random(r, r.Intn(3))), Size: r.Intn(1<<31) - 2, Share: random(r, r.Intn(4)), Tag: random(r, r.Intn(2))}
			k.Dir[i] = api.Head{ID: objs[i].ID, Size: objs[i].Size}
			k.Up[i], k.Commit[i] = r.Intn(2) == 0, r.Intn(1<<31)-2
		}
		states().thereAndBack(t, api.State{Objs: objs, Pend: api.Pend{Objs: objs[n/2:]}})
		books().thereAndBack(t, k)
	}
}

// P16.1, P16.2: names and shares of any bytes, and the same thing twice.
func TestAnyBytes(t *testing.T) {
	for b := range 256 {
		s := []byte{byte(b), 0, byte(b)}
		o := api.Obj{ID: string(s), Size: b, Share: s, Tag: s}
		h := api.Head{ID: string(s), Size: b}
		states().thereAndBack(t, api.State{Objs: []api.Obj{o, o}, Pend: api.Pend{Objs: []api.Obj{o, o, o}}})
		books().thereAndBack(t, api.Book{Dir: []api.Head{h, h}, Commit: []int{b, b}})
	}
}

// P16.1, P16.2: all kinds of things.
func TestThereAndBack(t *testing.T) {
	both(t, checkThereAndBack[api.State], checkThereAndBack[api.Book])
}

func checkThereAndBack[T any](t *testing.T, k kind[T]) {
	for seed := range int64(1000) {
		k.thereAndBack(t, k.some(rand.New(rand.NewSource(seed))))
	}
}

// P16.1, P16.2: bytes of which some are missing at the end, or ahead, or which
// have more behind them.
func TestShortAndLong(t *testing.T) {
	both(t, checkShortAndLong[api.State], checkShortAndLong[api.Book])
	states().none(t, "a book", slowBook(smallBook()))
	books().none(t, "a state", slowState(smallState()))
}

func checkShortAndLong[T any](t *testing.T, k kind[T]) {
	var zero T
	all := []T{zero, k.small()}
	for seed := range int64(20) {
		all = append(all, k.some(rand.New(rand.NewSource(seed))))
	}
	for _, x := range all {
		b := k.slow(x)
		for n := range len(b) {
			k.none(t, "short", b[:n])
		}
		for n := range min(len(b), 400) {
			k.asSlowly(t, b[n:])
		}
		for _, more := range [][]byte{{0}, {255}, {0, 0}, {0, 0, 0, 2}, b} {
			k.none(t, "long", slices.Concat(b, more))
		}
	}
	k.none(t, "nil", nil)
	k.none(t, "empty", []byte{})
}

// P16.1, P16.2: numbers whose first bit is 1, and lists of less than none, or
// of what does not come, by hand.
func TestWrongNumbers(t *testing.T) {
	both(t, checkWrongNumbers[api.State], checkWrongNumbers[api.Book])
}

func checkWrongNumbers[T any](t *testing.T, k kind[T]) {
	var zero T
	for at := 0; at < k.bare; at += 4 {
		for _, first := range []byte{128, 129, 255} {
			b := k.slow(zero)
			b[at] = first
			k.none(t, "first bit", b)
		}
	}
	for _, at := range k.counts {
		for _, four := range [][]byte{{0, 0, 0, 0}, {0, 0, 0, 1}, {128, 0, 0, 2}, {128, 0, 0, 0}, {255, 255, 255, 255}, {127, 255, 255, 255}, {0, 1, 0, 2}} {
			b := k.slow(zero)
			copy(b[at:], four)
			k.none(t, "count", b)
		}
		for n := range 60 {
			b := k.slow(zero)
			copy(b[at:], digits(n, 4))
			k.asSlowly(t, b)
		}
	}
}

// P16.2: of Up each is 1 or 0, no other number, at any place.
func TestUp(t *testing.T) {
	for length := 1; length < 6; length++ {
		for at := range length {
			up := make([]bool, length)
			up[at] = true
			for _, n := range append(numbers(), -2, -1, 0, 1, 2, 3, 256, 257, 1<<16+1) {
				b := slowBook(api.Book{Up: up, Commit: []int{7}})
				copy(b[20+4*at:], digits(n+2, 4))
				if n != 0 && n != 1 {
					books().none(t, "Up", b)
				} else if k, ok := DecodeBook(b); !ok || k.Up[at] != (n == 1) || len(k.Up) != length {
					t.Fatalf("%d at %d: %+v, %v", n, at, k, ok)
				}
			}
		}
	}
	// Each place is looked at, also if a later one is right.
	b := slowBook(api.Book{Up: []bool{false, true, false}})
	copy(b[20:], digits(2+2, 4))
	books().none(t, "first Up", b)
}

// P16.1, P16.2: bytes at which one, or several, are changed.
func TestChanged(t *testing.T) {
	both(t, checkChanged[api.State], checkChanged[api.Book])
}

func checkChanged[T any](t *testing.T, k kind[T]) {
	there := 0
	for seed := range int64(3000) {
		r := rand.New(rand.NewSource(seed))
		b := k.slow(k.some(r))
		for range 1 + r.Intn(3) {
			at := r.Intn(len(b))
			switch r.Intn(5) {
			case 0:
				b[at] ^= 1 << r.Intn(8)
			case 1:
				b[at] = byte(r.Intn(4))
			case 2:
				b[at]++
			case 3:
				b = slices.Delete(b, at, at+1)
			case 4:
				b = slices.Insert(b, at, byte(r.Intn(3)))
			}
		}
		if k.asSlowly(t, b) {
			there++
			x, _ := k.decode(b)
			k.thereAndBack(t, x)
		}
	}
	if there == 0 {
		t.Error("nothing at all among changed ones")
	}
}

// P16.1, P16.2: bytes that are random.
func TestRandom(t *testing.T) {
	both(t, checkRandom[api.State], checkRandom[api.Book])
}

func checkRandom[T any](t *testing.T, k kind[T]) {
	for seed := range int64(2000) {
		r := rand.New(rand.NewSource(seed))
		b := random(r, r.Intn(120))
		k.asSlowly(t, b)
		for i := range b {
			b[i] = byte(r.Intn(3))
		}
		k.asSlowly(t, b)
		for i := range b {
			b[i] &= byte(1 + r.Intn(2))
			if i%4 != 3 {
				b[i] = 0
			}
		}
		k.asSlowly(t, b)
	}
}

// P16.1, P16.2, R7: whoever claims things that do not come has no room made for
// them.
func TestClaims(t *testing.T) {
	both(t, checkClaims[api.State], checkClaims[api.Book])
}

func checkClaims[T any](t *testing.T, k kind[T]) {
	var zero T
	for _, at := range k.counts {
		for _, four := range [][]byte{{127, 255, 255, 255}, {64, 0, 0, 0}, {16, 0, 0, 0}} {
			b := k.slow(zero)
			copy(b[at:], four)
			var before, after runtime.MemStats
			runtime.ReadMemStats(&before)
			k.none(t, "claim", b)
			runtime.ReadMemStats(&after)
			if n := after.TotalAlloc - before.TotalAlloc; n > 1<<20 {
				t.Errorf("%d bytes of memory for a claim at %d", n, at)
			}
		}
	}
}

// P16.3: written down by hand, by chapter 7's words.
func TestTagWrittenDown(t *testing.T) {
	h := hmac.New(sha256.New, []byte{0, 0, 0, 5})
	h.Write([]byte{0, 0, 0, 9, 0, 2, 'a', 'b', 0, 0, 0, 6, 0, 3, 1, 2, 3})
	got := Tag(3, 7, api.Obj{ID: "ab", Size: 4, Share: []byte{1, 2, 3}, Tag: []byte{9}})
	if want := h.Sum(nil)[:8]; !bytes.Equal(got, want) {
		t.Errorf("%v, want %v", got, want)
	}
	h = hmac.New(sha256.New, []byte{0, 0, 0, 2})
	h.Write([]byte{0, 0, 0, 2, 0, 0, 0, 0, 0, 2, 0, 0})
	if got, want := Tag(0, 0, api.Obj{}), h.Sum(nil)[:8]; !bytes.Equal(got, want) {
		t.Errorf("%v, want %v", got, want)
	}
}

// P16.3: numbers and bytes at their ends, each alone.
func TestTagEnds(t *testing.T) {
	check := func(holder, epoch int, o api.Obj) {
		t.Helper()
		if got, want := Tag(holder, epoch, o), slowTag(holder, epoch, o); !bytes.Equal(got, want) {
			t.Fatalf("Tag of %d, %d, %+v: %v, want %v", holder, epoch, o, got, want)
		}
	}
	o := api.Obj{ID: "name", Size: 3, Share: []byte{1, 2}}
	for _, n := range numbers() {
		check(n, 1, o)
		check(1, n, o)
		check(1, 1, api.Obj{ID: "name", Size: n, Share: []byte{1, 2}})
	}
	for _, n := range []int{0, 1, 16, 64, 65, 255, 256, 257, longest - 1, longest} {
		r := rand.New(rand.NewSource(int64(n)))
		check(2, 3, api.Obj{ID: string(random(r, n)), Size: 1, Share: []byte{1}})
		check(2, 3, api.Obj{ID: "a", Size: 1, Share: random(r, n)})
	}
	for seed := range int64(500) {
		r := rand.New(rand.NewSource(seed))
		for _, o := range someObjs(r) {
			check(someNumber(r), someNumber(r), o)
		}
	}
}

// P16.3: a tag tells each thing of an object but its own tag.
func TestTagTells(t *testing.T) {
	o := api.Obj{ID: "ab", Size: 4, Share: []byte{1, 2, 3}}
	was := Tag(3, 7, o)
	for _, tag := range [][]byte{nil, {}, {0}, was, make([]byte, longest+1)} {
		same := o
		same.Tag = tag
		if !bytes.Equal(Tag(3, 7, same), was) {
			t.Errorf("a Tag of %d bytes is of account", len(tag))
		}
	}
	others := [][]byte{
		Tag(2, 7, o), Tag(4, 7, o), Tag(3, 6, o), Tag(3, 8, o), Tag(7, 3, o),
		Tag(3, 7, api.Obj{ID: "ac", Size: 4, Share: o.Share}), Tag(3, 7, api.Obj{ID: "a", Size: 4, Share: o.Share}),
		Tag(3, 7, api.Obj{ID: "ab", Size: 5, Share: o.Share}), Tag(3, 7, api.Obj{ID: "ab", Size: 4, Share: []byte{1, 2}}),
		Tag(3, 7, api.Obj{ID: "ab", Size: 4, Share: []byte{1, 2, 3, 0}}),
	}
	for i := range o.Share {
		for bit := range 8 {
			turned := bytes.Clone(o.Share)
			turned[i] ^= 1 << bit
			others = append(others, Tag(3, 7, api.Obj{ID: "ab", Size: 4, Share: turned}))
		}
	}
	for i, other := range others {
		if bytes.Equal(other, was) || len(other) != 8 {
			t.Errorf("other thing %d: %v", i, other)
		}
	}
}

// R1: what can not be put does not stop anything either.
func TestTagOfAnything(t *testing.T) {
	for _, n := range badNumbers() {
		Tag(n, 1, api.Obj{})
		Tag(1, n, api.Obj{})
		Tag(1, 1, api.Obj{Size: n})
	}
	Tag(1, 1, api.Obj{ID: string(make([]byte, longest+1))})
	Tag(1, 1, api.Obj{Share: make([]byte, longest+1)})
}

// P16.4: each byte of each share of all kinds of states, found by turning it.
func TestWhere(t *testing.T) {
	found := 0
	for seed := range int64(300) {
		s := someState(rand.New(rand.NewSource(seed)))
		b := slowState(s)
		for i, o := range s.Objs {
			first := slices.IndexFunc(s.Objs, func(x api.Obj) bool { return x.ID == o.ID })
			for at := range o.Share {
				n, ok := Where(s, o.ID, at)
				if first != i {
					continue
				}
				if !ok || n < 0 || n >= len(b) {
					t.Fatalf("seed %d, object %d, byte %d: %d, %v", seed, i, at, n, ok)
				}
				found++
				o.Share[at] ^= 85
				b[n] ^= 85
				if !bytes.Equal(slowState(s), b) {
					t.Fatalf("seed %d, object %d, byte %d: not at %d", seed, i, at, n)
				}
				o.Share[at] ^= 85
				b[n] ^= 85
			}
			nowhere(t, s, o.ID, -1)
			nowhere(t, s, o.ID, len(s.Objs[first].Share))
		}
	}
	if found < 1000 {
		t.Errorf("only %d bytes", found)
	}
}

// nowhere fails the test if there is such a byte.
func nowhere(t *testing.T, s api.State, id string, at int) {
	t.Helper()
	if n, ok := Where(s, id, at); ok || n != 0 {
		t.Fatalf("byte %d of %q: %d, %v", at, id, n, ok)
	}
}

// P16.4: places by hand, the first of two of the same name, and names and bytes
// that are not there.
func TestWhereByHand(t *testing.T) {
	s := smallState()
	for _, c := range []struct {
		id       string
		at, want int
	}{{"ab", 0, 26}, {"ab", 1, 27}, {"c", 0, 40}} {
		if n, ok := Where(s, c.id, c.at); !ok || n != c.want {
			t.Errorf("byte %d of %q: %d, %v", c.at, c.id, n, ok)
		}
	}
	for _, at := range []int{-1, -2, 2, 3, 256, math.MinInt, math.MaxInt} {
		nowhere(t, s, "ab", at)
	}
	// Those of Pend are none of Objs.
	for _, id := range []string{"", "d", "a", "abc", "b", "ac", "C"} {
		for _, at := range []int{-1, 0, 1, 2} {
			nowhere(t, s, id, at)
		}
	}
	nowhere(t, api.State{}, "", 0)
	twice := api.State{Objs: []api.Obj{{ID: "b", Share: []byte{1}}, {ID: "a", Share: []byte{2}}, {ID: "a", Share: []byte{3, 4}}}}
	if n, ok := Where(twice, "a", 0); !ok || slowState(twice)[n] != 2 {
		t.Error(n, ok)
	}
	nowhere(t, twice, "a", 1)
	bare := api.State{Objs: []api.Obj{{ID: "a"}, {ID: "a", Share: []byte{3, 4}}}}
	nowhere(t, bare, "a", 0)
	unnamed := api.State{Objs: []api.Obj{{Share: []byte{3, 4}}}}
	if n, ok := Where(unnamed, "", 1); !ok || n != 25 {
		t.Error(n, ok)
	}
}

// P16.4: the last byte of the longest share.
func TestWhereAtTheEnd(t *testing.T) {
	s := api.State{Objs: []api.Obj{{ID: "a", Share: make([]byte, longest), Tag: make([]byte, longest)}, {ID: "b", Share: make([]byte, longest)}}}
	if n, ok := Where(s, "b", longest-1); !ok || n != 16+9+longest+2+longest+9+longest-1 {
		t.Error(n, ok)
	}
	nowhere(t, s, "b", longest)
}

// P16.4: a state that has no bytes, wherever what can not be put is.
func TestWhereWithoutBytes(t *testing.T) {
	for _, f := range stateNumbers() {
		for _, n := range badNumbers() {
			s := smallState()
			f.set(&s, n)
			s.Objs = append(slices.Clone(s.Objs), api.Obj{ID: "z", Share: []byte{1}})
			nowhere(t, s, "z", 0)
			nowhere(t, s, s.Objs[0].ID, 0)
			s.Objs = append([]api.Obj{{ID: "z", Share: []byte{1}}}, s.Objs...)
			nowhere(t, s, "z", 0)
		}
	}
	for _, p := range statePieces() {
		s := smallState()
		p.set(&s, make([]byte, longest+1))
		s.Objs = append([]api.Obj{{ID: "z", Share: []byte{1}}}, s.Objs...)
		nowhere(t, s, "z", 0)
		s.Objs = append(s.Objs[1:], s.Objs[0])
		nowhere(t, s, "z", 0)
	}
}

// withSpare is the small state whose lists have spare room.
func withSpare() api.State {
	s := smallState()
	s.Objs = append(s.Objs, api.Obj{ID: "spare", Size: 1})[:2]
	s.Pend.Objs = append(s.Pend.Objs, api.Obj{ID: "spare", Size: 2})[:2]
	for _, all := range [][]api.Obj{s.Objs, s.Pend.Objs} {
		for i := range all {
			all[i].Share = append(all[i].Share, 98, 99)[:len(all[i].Share)]
			all[i].Tag = append(all[i].Tag, 97, 96)[:len(all[i].Tag)]
		}
	}
	return s
}

// room is all that s's lists have, spare room included.
func room(s api.State) api.State {
	s.Objs, s.Pend.Objs = slices.Clone(s.Objs[:3]), slices.Clone(s.Pend.Objs[:3])
	for _, all := range [][]api.Obj{s.Objs, s.Pend.Objs} {
		for i := range all {
			all[i].Share = bytes.Clone(all[i].Share[:cap(all[i].Share)])
			all[i].Tag = bytes.Clone(all[i].Tag[:cap(all[i].Tag)])
		}
	}
	return s
}

// R4: what is handed in is not changed, its spare room included, and not kept.
func TestStateHandedIn(t *testing.T) {
	s := withSpare()
	was := room(s)
	b, _ := EncodeState(s)
	Where(s, "ab", 0)
	Where(s, "c", 0)
	Tag(1, 2, s.Objs[0])
	if !alikeStates(s, smallState()) || !alikeStates(room(s), was) {
		t.Fatalf("changed: %+v", s)
	}
	spoilState(s)
	if !bytes.Equal(b, slowState(smallState())) {
		t.Fatal("what was handed in is kept")
	}
	handedInBytes(t, states(), spoilState)
}

// R4: likewise of books.
func TestBookHandedIn(t *testing.T) {
	k := smallBook()
	k.Dir = append(k.Dir, api.Head{ID: "spare", Size: 9})[:2]
	k.Up = append(k.Up, true)[:3]
	k.Commit = append(k.Commit, 99)[:2]
	b, _ := EncodeBook(k)
	if !alikeBooks(k, smallBook()) || k.Dir[:3][2] != (api.Head{ID: "spare", Size: 9}) || !k.Up[:4][3] || k.Commit[:3][2] != 99 {
		t.Fatalf("changed: %+v", k)
	}
	spoilBook(k)
	if !bytes.Equal(b, slowBook(smallBook())) {
		t.Fatal("what was handed in is kept")
	}
	handedInBytes(t, books(), spoilBook)
}

// handedInBytes fails the test if bytes that are handed in are changed, or
// kept, or if answers share memory.
func handedInBytes[T any](t *testing.T, k kind[T], spoil func(T)) {
	t.Helper()
	long := append(k.slow(k.small()), 7, 7, 7)
	was := bytes.Clone(long)
	handed := long[:len(long)-3]
	one, _ := k.decode(handed)
	two, _ := k.decode(handed)
	spoil(one)
	if !bytes.Equal(long, was) {
		t.Fatal("changed")
	}
	if !k.alike(two, k.small()) {
		t.Fatal("two answers share memory")
	}
	clear(long)
	if !k.alike(two, k.small()) {
		t.Fatal("what was handed in is kept")
	}
	first, _ := k.encode(two)
	second, _ := k.encode(two)
	clear(first[:cap(first)])
	if !bytes.Equal(second, k.slow(k.small())) {
		t.Fatal("two answers share memory")
	}
}

// spoilBytes writes all over b, its spare room included.
func spoilBytes(b []byte) {
	for i := range b[:cap(b)] {
		b[:cap(b)][i] ^= 255
	}
}

// spoilState writes all over s's lists, their spare room included.
func spoilState(s api.State) {
	for _, all := range [][]api.Obj{s.Objs, s.Pend.Objs} {
		for _, o := range all {
			spoilBytes(o.Share)
			spoilBytes(o.Tag)
		}
		for i := range all[:cap(all)] {
			all[:cap(all)][i] = api.Obj{ID: "zzz", Size: -9}
		}
	}
}

// spoilBook writes all over k's lists, their spare room included.
func spoilBook(k api.Book) {
	for i := range k.Dir[:cap(k.Dir)] {
		k.Dir[:cap(k.Dir)][i] = api.Head{ID: "zzz", Size: -9}
	}
	for i := range k.Up[:cap(k.Up)] {
		k.Up[:cap(k.Up)][i] = !k.Up[:cap(k.Up)][i]
	}
	for i := range k.Commit[:cap(k.Commit)] {
		k.Commit[:cap(k.Commit)][i] = -9
	}
}

// R4: the lists of an answer share no memory with one another, spare room
// included.
func TestInsideAnAnswer(t *testing.T) {
	s, _ := DecodeState(slowState(smallState()))
	want := smallState()
	lists := func(s api.State) [][]byte {
		var all [][]byte
		for _, o := range append(slices.Clone(s.Objs), s.Pend.Objs...) {
			all = append(all, o.Share, o.Tag)
		}
		return all
	}
	got, wanted := lists(s), lists(want)
	for i := range got {
		spoilBytes(got[i])
		_ = append(got[i], 5, 5, 5)
		for j := i + 1; j < len(got); j++ {
			if !bytes.Equal(got[j], wanted[j]) {
				t.Fatalf("lists %d and %d share memory", i, j)
			}
		}
	}
	if s.Objs[0].ID != "ab" || s.Objs[1].ID != "c" || s.Pend.Objs[1].ID != "d" {
		t.Fatal("a text shares memory with a list")
	}
	spoilState(api.State{Objs: s.Objs})
	if s.Pend.Objs[1].ID != "d" || s.Pend.Objs[1].Size != 17 {
		t.Fatal("two lists of objects share memory")
	}
}

// R4: a tag is new memory.
func TestTagMemory(t *testing.T) {
	o := api.Obj{ID: "a", Share: []byte{1, 2}}
	one, two := Tag(1, 1, o), Tag(1, 1, o)
	spoilBytes(one)
	if !bytes.Equal(two, slowTag(1, 1, o)) || !bytes.Equal(o.Share, []byte{1, 2}) {
		t.Error("memory is shared")
	}
}

// R4: nil and empty lists are the same.
func TestNilAndEmpty(t *testing.T) {
	b, ok := EncodeState(api.State{Objs: []api.Obj{}, Pend: api.Pend{Objs: []api.Obj{}}})
	if !ok || !bytes.Equal(b, slowState(api.State{})) {
		t.Error(b, ok)
	}
	b, ok = EncodeBook(api.Book{Dir: []api.Head{}, Up: []bool{}, Commit: []int{}})
	if !ok || !bytes.Equal(b, slowBook(api.Book{})) {
		t.Error(b, ok)
	}
	if !bytes.Equal(Tag(1, 1, api.Obj{Share: []byte{}, Tag: []byte{}}), Tag(1, 1, api.Obj{})) {
		t.Error("tags")
	}
}

// R5: the same calls have the same answers, whatever was called between them.
func TestSameAnswers(t *testing.T) {
	for range 3 {
		states().thereAndBack(t, smallState())
		states().notPut(t, "-3", api.State{Dealt: -3})
		states().none(t, "short", []byte{1})
		books().thereAndBack(t, smallBook())
		books().notPut(t, "-3", api.Book{Commit: []int{-3}})
		books().none(t, "short", []byte{1})
		if n, ok := Where(smallState(), "c", 0); !ok || n != 40 {
			t.Error(n, ok)
		}
		nowhere(t, smallState(), "c", 1)
		if !bytes.Equal(Tag(1, 2, smallState().Objs[1]), slowTag(1, 2, smallState().Objs[1])) {
			t.Error("tag")
		}
	}
}
