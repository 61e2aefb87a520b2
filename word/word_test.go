package word

import (
	"bytes"
	"math"
	"math/rand"
	"slices"
	"strconv"
	"testing"
)

// least and most are the ends of the numbers that can be put, and longest that
// of bytes.
const (
	least   = -2
	most    = 1<<31 - 3
	longest = 1<<16 - 1
)

// thing is a number, or bytes if text is true.
type thing struct {
	text bool
	n    int
	b    []byte
}

// numbers are some that can be put: the ends of each of the four bytes, from
// below and above.
func numbers() []int {
	all := []int{-2, -1, 0, 1, 2, 3, 7, 127, 128, 1 << 20, most - 1, most}
	for shift := 8; shift < 32; shift += 8 {
		for n := 1<<shift - 4; n <= 1<<shift+1; n++ {
			all = append(all, n)
		}
	}
	for shift := range 31 {
		all = append(all, 1<<shift-3, 1<<shift-2)
	}
	return all
}

// badNumbers are some that can not be put, also such as would be right modulo
// 2^31 and 2^32.
func badNumbers() []int {
	return []int{
		-3, -4, -5, -128, -256, -1 << 31, -1<<31 - 1, -1<<31 - 2, -1 << 32, -1<<32 - 1, -1<<32 + 5, math.MinInt, math.MinInt + 1, math.MinInt + 2,
		most + 1, most + 2, most + 3, 1<<31 + 5, 1<<32 - 3, 1<<32 - 2, 1<<32 - 1, 1 << 32, 1<<32 + 5, 1 << 40, math.MaxInt - 2, math.MaxInt - 1, math.MaxInt,
	}
}

// lengths are those of some bytes that can be put.
func lengths() []int {
	return []int{0, 1, 2, 3, 4, 31, 32, 127, 128, 254, 255, 256, 257, 511, 512, 513, 1 << 12, 1<<15 - 1, 1 << 15, 1<<15 + 1, longest - 1, longest}
}

// badLengths are those of some bytes that can not be put, also such as would be
// right modulo 2^16.
func badLengths() []int {
	return []int{longest + 1, longest + 2, longest + 3, 1<<16 + 256, 1<<17 - 1, 1 << 17, 1<<17 + 5, 1 << 20, 1<<24 + 5}
}

// random is n bytes.
func random(r *rand.Rand, n int) []byte {
	b := make([]byte, n)
	r.Read(b)
	return b
}

// some is things that can be put, of many lengths.
func some(r *rand.Rand, n int) []thing {
	list := make([]thing, n)
	all := numbers()
	for i := range list {
		switch r.Intn(4) {
		case 0:
			list[i].n = all[r.Intn(len(all))]
		case 1:
			list[i].n = r.Intn(1<<31) - 2
		default:
			list[i].text = true
			list[i].b = random(r, r.Intn(1<<r.Intn(11)))
		}
	}
	return list
}

// slowly is what list has to be as bytes, by the chapter's words: digit by
// digit.
func slowly(list []thing) []byte {
	var out []byte
	for _, x := range list {
		if x.text {
			out = append(append(out, digits(len(x.b), 2)...), x.b...)
		} else {
			out = append(out, digits(x.n+2, 4)...)
		}
	}
	return out
}

// digits is n, which is 0 at least, in as many bytes, the highest first.
func digits(n, places int) []byte {
	out := make([]byte, places)
	for i := places - 1; i >= 0; i-- {
		out[i] = byte(n % 256)
		n /= 256
	}
	return out
}

// write puts list.
func write(w *Writer, list []thing) {
	for _, x := range list {
		if x.text {
			w.Bytes(x.b)
		} else {
			w.Int(x.n)
		}
	}
}

// told fails the test if Out is not want and true.
func told(t *testing.T, w *Writer, want []byte) {
	t.Helper()
	if got, ok := w.Out(); !ok || !bytes.Equal(got, want) {
		t.Fatalf("Out: %v, %v, want %v", got, ok, want)
	}
}

// silent fails the test if Out is not nothing and false.
func silent(t *testing.T, w *Writer, why string) {
	t.Helper()
	if got, ok := w.Out(); ok || len(got) != 0 {
		t.Fatalf("%s: Out: %v, %v", why, got, ok)
	}
}

// same fails the test if list is not what is read next.
func same(t *testing.T, r *Reader, list []thing) {
	t.Helper()
	for i, x := range list {
		if x.text {
			if got := r.Bytes(); !bytes.Equal(got, x.b) {
				t.Fatalf("%d: Bytes: %v, want %v", i, got, x.b)
			}
		} else if got := r.Int(); got != x.n {
			t.Fatalf("%d: Int: %d, want %d", i, got, x.n)
		}
	}
}

// done fails the test if Done is not want, twice.
func done(t *testing.T, r *Reader, want bool) {
	t.Helper()
	for range 2 {
		if r.Done() != want {
			t.Fatalf("Done: %v", !want)
		}
	}
}

// dead fails the test if anything is read of r, or Done is true at any time.
func dead(t *testing.T, r *Reader) {
	t.Helper()
	for range 3 {
		done(t, r, false)
		if n := r.Int(); n != 0 {
			t.Fatalf("Int of what is amiss: %d", n)
		}
		done(t, r, false)
		if b := r.Bytes(); len(b) != 0 {
			t.Fatalf("Bytes of what is amiss: %v", b)
		}
	}
	done(t, r, false)
}

// behindEnd fails the test if r, of which all was read, is not amiss behind one
// more call.
func behindEnd(t *testing.T, r *Reader) {
	t.Helper()
	if n := r.Int(); n != 0 {
		t.Fatalf("Int behind the end: %d", n)
	}
	dead(t, r)
}

// spoiled fails the test if a writer tells anything behind spoil, whatever was
// put ahead of it, and is put behind it.
func spoiled(t *testing.T, why string, spoil func(*Writer)) {
	t.Helper()
	list := []thing{{n: 1}, {text: true, b: []byte{1, 2}}, {n: most}, {text: true}, {n: least}}
	for place := range len(list) + 1 {
		w := New()
		write(w, list[:place])
		told(t, w, slowly(list[:place]))
		spoil(w)
		silent(t, w, why)
		for _, x := range list {
			write(w, []thing{x})
			silent(t, w, why)
		}
		spoil(w)
		silent(t, w, why)
		w.Bytes(nil)
		silent(t, w, why)
	}
}

// P12.1: the chapter's example.
func TestExample(t *testing.T) {
	w := New()
	w.Int(-1)
	w.Bytes([]byte{7})
	told(t, w, []byte{0, 0, 0, 1, 0, 1, 7})
	r := Read([]byte{0, 0, 0, 1, 0, 1, 7})
	same(t, r, []thing{{n: -1}, {text: true, b: []byte{7}}})
	done(t, r, true)
}

// P12.1, P12.2: written down by hand.
func TestWrittenDown(t *testing.T) {
	for _, x := range []struct {
		n    int
		want []byte
	}{
		{-2, []byte{0, 0, 0, 0}},
		{-1, []byte{0, 0, 0, 1}},
		{0, []byte{0, 0, 0, 2}},
		{253, []byte{0, 0, 0, 255}},
		{254, []byte{0, 0, 1, 0}},
		{65533, []byte{0, 0, 255, 255}},
		{65534, []byte{0, 1, 0, 0}},
		{1<<24 - 3, []byte{0, 255, 255, 255}},
		{1<<24 - 2, []byte{1, 0, 0, 0}},
		{0x01020304 - 2, []byte{1, 2, 3, 4}},
		{1<<31 - 3, []byte{127, 255, 255, 255}},
	} {
		w := New()
		w.Int(x.n)
		told(t, w, x.want)
		r := Read(x.want)
		same(t, r, []thing{{n: x.n}})
		done(t, r, true)
	}
}

// P12.1: a new writer has nothing, and is another one each time.
func TestNew(t *testing.T) {
	x, y, z := New(), New(), New()
	told(t, x, nil)
	x.Int(5)
	y.Int(-3)
	told(t, x, []byte{0, 0, 0, 7})
	silent(t, y, "-3")
	told(t, z, nil)
	told(t, New(), nil)
}

// P12.1, P12.2: numbers, and those at their ends above all.
func TestNumbers(t *testing.T) {
	for _, n := range numbers() {
		list := []thing{{n: n}, {n: 9}, {n: n}}
		w := New()
		write(w, list)
		told(t, w, slowly(list))
		r := Read(slowly(list))
		same(t, r, list[:2])
		done(t, r, false)
		same(t, r, list[2:])
		done(t, r, true)
		behindEnd(t, r)
	}
}

// P12.1: numbers that can not be put, at whichever place among things that can
// be, and asked at whichever time.
func TestBadNumbers(t *testing.T) {
	for _, n := range badNumbers() {
		spoiled(t, strconv.Itoa(n), func(w *Writer) { w.Int(n) })
	}
}

// P12.1: bytes that are too many, likewise.
func TestBadLengths(t *testing.T) {
	r := rand.New(rand.NewSource(1))
	for _, n := range badLengths() {
		b := random(r, n)
		spoiled(t, strconv.Itoa(n), func(w *Writer) { w.Bytes(b) })
	}
}

// P12.1, P12.2: bytes of many lengths, and those at the ends of the two bytes
// that tell how many they are.
func TestLengths(t *testing.T) {
	r := rand.New(rand.NewSource(2))
	for _, n := range lengths() {
		list := []thing{{text: true, b: random(r, n)}, {n: 1}, {text: true, b: random(r, n)}}
		w := New()
		write(w, list)
		told(t, w, slowly(list))
		x := Read(slowly(list))
		same(t, x, list[:2])
		done(t, x, false)
		same(t, x, list[2:])
		done(t, x, true)
		behindEnd(t, x)
	}
	for n := range 700 {
		list := []thing{{text: true, b: random(r, n)}}
		w := New()
		write(w, list)
		told(t, w, slowly(list))
		x := Read(slowly(list))
		same(t, x, list)
		done(t, x, true)
	}
}

// P12.1: all that was put, at any time: Out changes nothing, and what is put
// behind it comes behind.
func TestOutAtAnyTime(t *testing.T) {
	r := rand.New(rand.NewSource(3))
	for range 50 {
		list := some(r, 30)
		w := New()
		for i, x := range list {
			write(w, []thing{x})
			for range r.Intn(3) {
				told(t, w, slowly(list[:i+1]))
			}
		}
		told(t, w, slowly(list))
	}
}

// P12.1, P12.2: lists of all kinds of things come back.
func TestThereAndBack(t *testing.T) {
	for seed := range int64(200) {
		r := rand.New(rand.NewSource(seed))
		list := some(r, r.Intn(60))
		w := New()
		write(w, list)
		told(t, w, slowly(list))
		b, _ := w.Out()
		x := Read(b)
		for i := range list {
			done(t, x, false)
			same(t, x, list[i:i+1])
		}
		done(t, x, true)
	}
}

// P12.2: reading nothing: it is done at once, and amiss when anything is asked.
func TestReadNothing(t *testing.T) {
	for _, b := range [][]byte{nil, {}} {
		done(t, Read(b), true)
		r := Read(b)
		if n := r.Int(); n != 0 {
			t.Fatal(n)
		}
		dead(t, r)
		r = Read(b)
		if b := r.Bytes(); len(b) != 0 {
			t.Fatal(b)
		}
		dead(t, r)
	}
}

// P12.2: a number of which bytes are missing is 0, whatever there is of it, and
// wherever it stands.
func TestShortNumbers(t *testing.T) {
	for n := range 4 {
		for _, b := range [][]byte{{0, 0, 0, 0}, {1, 2, 3, 4}, {127, 255, 255, 255}, {0, 0, 0, 7}, {0, 1, 5, 0}, {255, 255, 255, 255}} {
			r := Read(b[:n])
			if got := r.Int(); got != 0 {
				t.Fatalf("Int of %v: %d", b[:n], got)
			}
			dead(t, r)
			r = Read(slices.Concat([]byte{0, 0, 0, 9, 0, 1, 8}, b[:n]))
			same(t, r, []thing{{n: 7}, {text: true, b: []byte{8}}})
			done(t, r, n == 0)
			if got := r.Int(); got != 0 {
				t.Fatalf("Int of %v: %d", b[:n], got)
			}
			dead(t, r)
		}
	}
}

// P12.2: bytes of which some are missing, those that tell how many they are
// too: none of them is told, nor what stands there read as anything else.
func TestShortBytes(t *testing.T) {
	r := rand.New(rand.NewSource(4))
	for _, n := range []int{1, 2, 3, 4, 5, 6, 7, 8, 255, 256, 257, 512, 1 << 15, longest} {
		b := slowly([]thing{{text: true, b: random(r, n)}})
		for _, there := range []int{0, 1, 2, 3, 4, 5, 6, 7, 8, n / 2, n - 1, n, n + 1} {
			if there >= len(b) {
				continue
			}
			x := Read(b[:there])
			if got := x.Bytes(); len(got) != 0 {
				t.Fatalf("Bytes of %d of %d: %v", there, len(b), got)
			}
			dead(t, x)
		}
	}
}

// P12.2: a number whose first bit is 1 is 0, and nothing behind it is read,
// whatever its other bits are.
func TestFirstBit(t *testing.T) {
	for first := 128; first < 256; first++ {
		for _, rest := range [][]byte{{0, 0, 0}, {0, 0, 2}, {255, 255, 255}, {1, 2, 3}} {
			head := append([]byte{byte(first)}, rest...)
			for _, b := range [][]byte{head, append(head, 0, 0, 0, 5, 0, 1, 7), append(head, 0, 0)} {
				r := Read(b)
				if n := r.Int(); n != 0 {
					t.Fatalf("Int of %v: %d", b, n)
				}
				dead(t, r)
				r = Read(append([]byte{0, 0, 0, 5}, b...))
				same(t, r, []thing{{n: 3}})
				if n := r.Int(); n != 0 {
					t.Fatalf("Int of %v: %d", b, n)
				}
				dead(t, r)
			}
		}
	}
}

// P12.2: the first bit of how many bytes there are may be 1.
func TestFirstBitOfBytes(t *testing.T) {
	b := bytes.Repeat([]byte{129}, 1<<15+1)
	r := Read(append([]byte{128, 1}, b...))
	same(t, r, []thing{{text: true, b: b}})
	done(t, r, true)
}

// P12.2: all behind what is amiss is nothing, whichever call it was, and however
// much is there still.
func TestAllBehindIt(t *testing.T) {
	rest := slowly([]thing{{n: 5}, {text: true, b: []byte{1, 2, 3}}, {n: 6}})
	for _, b := range [][]byte{{255, 255}, {128, 0, 0, 0}, {1, 0}} {
		all := append(bytes.Clone(b), rest...)
		r := Read(all)
		if b[0] == 128 {
			r.Int()
		} else if got := r.Bytes(); len(got) != 0 {
			t.Fatalf("Bytes of %v: %v", all, got)
		}
		dead(t, r)
	}
}

// P12.2: bytes cut off at each place: what is whole is read, and what is not is
// nothing, with all behind it.
func TestCutOff(t *testing.T) {
	for seed := range int64(20) {
		r := rand.New(rand.NewSource(seed))
		list := some(r, 6)
		b := slowly(list)
		for n := range min(len(b), 1500) {
			whole := 0
			for len(slowly(list[:whole+1])) <= n {
				whole++
			}
			x := Read(b[:n])
			same(t, x, list[:whole])
			done(t, x, len(slowly(list[:whole])) == n)
			if list[whole].text {
				if got := x.Bytes(); len(got) != 0 {
					t.Fatalf("Bytes of what is cut off: %v", got)
				}
			} else if got := x.Int(); got != 0 {
				t.Fatalf("Int of what is cut off: %d", got)
			}
			dead(t, x)
		}
	}
}

// P12.2: any bytes, read as any things, are read as the chapter's words say.
func TestAnyBytes(t *testing.T) {
	for seed := range int64(3000) {
		r := rand.New(rand.NewSource(seed))
		b := random(r, r.Intn(40))
		for i := range b {
			if r.Intn(3) > 0 {
				b[i] %= 4
			}
		}
		x, rest, amiss := Read(b), b, false
		for range 12 {
			done(t, x, !amiss && len(rest) == 0)
			if r.Intn(2) == 0 {
				want := 0
				if amiss = amiss || len(rest) < 4 || rest[0] >= 128; !amiss {
					want = ((int(rest[0])*256+int(rest[1]))*256+int(rest[2]))*256 + int(rest[3]) - 2
					rest = rest[4:]
				}
				if got := x.Int(); got != want {
					t.Fatalf("Int of %v: %d, want %d", b, got, want)
				}
				continue
			}
			var want []byte
			if amiss = amiss || len(rest) < 2 || len(rest)-2 < int(rest[0])*256+int(rest[1]); !amiss {
				n := int(rest[0])*256 + int(rest[1])
				want, rest = rest[2:2+n], rest[2+n:]
			}
			if got := x.Bytes(); !bytes.Equal(got, want) {
				t.Fatalf("Bytes of %v: %v, want %v", b, got, want)
			}
		}
	}
}

// A nil writer does nothing, and a nil reader has nothing: it is not done,
// either.
func TestNil(t *testing.T) {
	var w *Writer
	silent(t, w, "nil")
	for _, n := range []int{0, 1, -1, -3, math.MinInt, math.MaxInt} {
		w.Int(n)
	}
	for _, b := range [][]byte{nil, {}, {1}, make([]byte, 1<<16)} {
		w.Bytes(b)
	}
	silent(t, w, "nil")
	var r *Reader
	dead(t, r)
}

// R1: a writer, and a reader, that no call made are as new ones of nothing.
func TestZero(t *testing.T) {
	var w Writer
	told(t, &w, nil)
	w.Int(5)
	w.Bytes([]byte{6})
	told(t, &w, []byte{0, 0, 0, 7, 0, 1, 6})
	var r Reader
	done(t, &r, true)
	if n := r.Int(); n != 0 {
		t.Fatal(n)
	}
	dead(t, &r)
}

// R4: what is put is not changed, its spare room included, and not kept.
func TestPutMemory(t *testing.T) {
	r := rand.New(rand.NewSource(5))
	for n := range 100 {
		room := random(r, 200)
		was := bytes.Clone(room)
		w := New()
		w.Bytes(room[:n])
		w.Bytes(room[:n])
		w.Int(5)
		b, _ := w.Out()
		for i := range b[:cap(b)] {
			b[:cap(b)][i] ^= 255
		}
		if !bytes.Equal(room, was) {
			t.Fatalf("%d bytes: changed", n)
		}
		clear(room)
		told(t, w, slowly([]thing{{text: true, b: was[:n]}, {text: true, b: was[:n]}, {n: 5}}))
	}
}

// R4: what Out tells shares no memory with the writer, nor with another answer,
// its spare room included.
func TestOutMemory(t *testing.T) {
	r := rand.New(rand.NewSource(6))
	for range 100 {
		list := some(r, 1+r.Intn(8))
		w, want := New(), slowly(list)
		write(w, list)
		first, _ := w.Out()
		second, _ := w.Out()
		for i := range first[:cap(first)] {
			first[:cap(first)][i] ^= 255
		}
		if !bytes.Equal(second, want) {
			t.Fatal("two answers share memory")
		}
		told(t, w, want)
		w.Int(most)
		w.Bytes([]byte{1, 2, 3})
		if !bytes.Equal(second, want) {
			t.Fatal("an answer is changed later")
		}
		told(t, w, append(want, 127, 255, 255, 255, 0, 3, 1, 2, 3))
	}
}

// R4: what is read is not changed, its spare room included, and not kept.
func TestReadMemory(t *testing.T) {
	r := rand.New(rand.NewSource(7))
	for range 100 {
		list := some(r, 8)
		b := slowly(list)
		room := append(bytes.Clone(b), random(r, 20)...)
		was := bytes.Clone(room)
		x, y := Read(room[:len(b)]), Read(room[:len(b)])
		for i := range list {
			if !list[i].text {
				y.Int()
				continue
			}
			got := y.Bytes()
			clear(got[:cap(got)])
		}
		done(t, y, true)
		if !bytes.Equal(room, was) {
			t.Fatal("changed")
		}
		same(t, x, list[:3])
		clear(room)
		same(t, x, list[3:])
		done(t, x, true)
	}
}

// R4, and the way word leans on: what is taken has no spare room; putting
// something behind it writes over nothing that is read later, and writing into
// it changes no other answer.
func TestTakenMemory(t *testing.T) {
	r := rand.New(rand.NewSource(8))
	for range 100 {
		list := some(r, 20)
		x := Read(slowly(list))
		var taken [][]byte
		for i := range list {
			if !list[i].text {
				same(t, x, list[i:i+1])
				continue
			}
			got := x.Bytes()
			if !bytes.Equal(got, list[i].b) || cap(got) != len(got) {
				t.Fatalf("Bytes: %v with room of %d, want %v", got, cap(got), list[i].b)
			}
			taken = append(taken, got)
			_ = append(got, 255, 255, 255, 255, 255, 255, 255)
			for j := range got {
				got[j] = byte(len(taken))
			}
		}
		done(t, x, true)
		for i, b := range taken {
			if bytes.Count(b, []byte{byte(i + 1)}) != len(b) {
				t.Fatalf("two answers share memory: %v", b)
			}
		}
	}
}

// What can not be told any more is not kept.
func TestSpoiledIsLetGo(t *testing.T) {
	w := New()
	w.Bytes([]byte{1, 2, 3})
	w.Int(-3)
	w.Bytes([]byte{1, 2, 3})
	w.Int(5)
	if len(w.out) != 0 {
		t.Error(w.out)
	}
	r := Read([]byte{128, 0, 0, 0, 5, 6})
	r.Int()
	if len(r.rest) != 0 {
		t.Error(r.rest)
	}
}

// R5: the same calls, done again from the beginning, have the same answers,
// whatever other writers and readers do meanwhile.
func TestSameAnswers(t *testing.T) {
	run := func(otherWriter *Writer, otherReader *Reader) []byte {
		r := rand.New(rand.NewSource(9))
		w := New()
		var all []byte
		for range 40 {
			write(w, some(r, 3))
			write(otherWriter, some(r, 1))
			otherWriter.Int(-3)
			otherReader.Int()
			b, _ := w.Out()
			x := Read(b)
			x.Int()
			all = append(append(all, b...), x.Bytes()...)
		}
		return all
	}
	if first := run(New(), Read([]byte{1})); !bytes.Equal(first, run(nil, nil)) || !bytes.Equal(first, run(New(), Read(nil))) {
		t.Error("another answer the second time")
	}
}
