package rec

import (
	"shamrock/api"
	"shamrock/word"
)

// writer is one that knows objects, heads and flags, too.
type writer struct{ *word.Writer }

// ints puts numbers.
func (w writer) ints(all ...int) {
	for _, n := range all {
		w.Int(n)
	}
}

// text puts a text as bytes.
func (w writer) text(s string) { w.Bytes([]byte(s)) }

// told puts of o what its tag tells of: all but the tag.
func (w writer) told(o api.Obj) {
	w.text(o.ID)
	w.ints(o.Size)
	w.Bytes(o.Share)
}

// objs puts how many objects there are, and each.
func (w writer) objs(all []api.Obj) {
	w.ints(len(all))
	for _, o := range all {
		w.told(o)
		w.Bytes(o.Tag)
	}
}

// heads puts how many heads there are, and each.
func (w writer) heads(all []api.Head) {
	w.ints(len(all))
	for _, h := range all {
		w.text(h.ID)
		w.ints(h.Size)
	}
}

// flags puts how many flags there are, and of each 1 or 0.
func (w writer) flags(all []bool) {
	w.ints(len(all))
	for _, up := range all {
		if up {
			w.ints(1)
		} else {
			w.ints(0)
		}
	}
}

// reader is one that knows objects, heads and flags, too: of total bytes;
// amiss, if something was told that can not be.
type reader struct {
	*word.Reader
	total int
	amiss bool
}

// read is a reader of b.
func read(b []byte) *reader { return &reader{Reader: word.Read(b), total: len(b)} }

// right tells whether all was read, and nothing was amiss.
func (r *reader) right() bool { return !r.amiss && r.Done() }

// count is the next number, of how many things come behind it, each of least
// bytes or more; 0, if it can be none.
func (r *reader) count(least int) int {
	n := r.Int()
	// Held against the bytes there are: whoever claims things that do not come
	// has no room made for them.
	if n < 0 || n > r.total/least {
		r.amiss = true
		return 0
	}
	return n
}

// text is the next bytes as a text.
func (r *reader) text() string { return string(r.Bytes()) }

// objs is the next objects of which it is told how many they are.
func (r *reader) objs() []api.Obj {
	all := make([]api.Obj, r.count(leastObj))
	for i := range all {
		all[i] = api.Obj{ID: r.text(), Size: r.Int(), Share: r.Bytes(), Tag: r.Bytes()}
	}
	return all
}

// heads is the next heads of which it is told how many they are.
func (r *reader) heads() []api.Head {
	all := make([]api.Head, r.count(leastHead))
	for i := range all {
		all[i] = api.Head{ID: r.text(), Size: r.Int()}
	}
	return all
}

// list is the next numbers of which it is told how many they are.
func (r *reader) list() []int {
	all := make([]int, r.count(leastInt))
	for i := range all {
		all[i] = r.Int()
	}
	return all
}

// flags is the next flags of which it is told how many they are; a number but
// 1 and 0 is none.
func (r *reader) flags() []bool {
	all := make([]bool, r.count(leastInt))
	for i := range all {
		n := r.Int()
		r.amiss = r.amiss || n != 0 && n != 1
		all[i] = n == 1
	}
	return all
}
