package octet

import (
	"bytes"
	"math"
	"testing"
)

// sizes are sizes of fields, in their range and beyond it.
func sizes() []int {
	return []int{math.MinInt, -1 << 32, -9, -8, -1, 0, 1, 2, 3, 4, 5, 6, 7, 8, 9, 10, 64, 1 << 32, math.MaxInt}
}

// counted is what a size counts as, said apart from the program's own.
func counted(size int) int {
	if size < 1 {
		return 1
	}
	if size > 8 {
		return 8
	}
	return size
}

func numbers() []uint64 {
	return []uint64{0, 1, 0x7F, 0x80, 0xFF, 0x100, 258, 0x7FFF, 0x8000, 0xFFFF, 0x010203, 0x800000, 0x7FFFFFFF, 0x80000000, 0xFFFFFFFF,
		0x0102030405, 0x010203040506, 0x01020304050607, 0x0102030405060708, 0xF1F2F3F4F5F6F7F8, 1<<63 - 1, 1 << 63, math.MaxUint64 - 1, math.MaxUint64}
}

// P2.1: the lowest bytes, the highest one first, of all sizes.
func TestPut(t *testing.T) {
	for _, n := range numbers() {
		all := []byte{byte(n >> 56), byte(n >> 48), byte(n >> 40), byte(n >> 32), byte(n >> 24), byte(n >> 16), byte(n >> 8), byte(n)}
		for _, size := range sizes() {
			want := all[8-counted(size):]
			var put, signed Writer
			put.Put(n, size)
			signed.Int(int64(n), size)
			if got := put.Done(); !bytes.Equal(got, want) {
				t.Errorf("Put(%#x, %d): %x, not %x", n, size, got, want)
			}
			if got := signed.Done(); !bytes.Equal(got, want) {
				t.Errorf("Int(%d, %d): %x, not %x", int64(n), size, got, want)
			}
		}
	}
}

func TestWriterByHand(t *testing.T) {
	var w Writer
	if got := w.Done(); len(got) != 0 {
		t.Errorf("the zero Writer has %x", got)
	}
	w.Put(258, 2)
	if got := w.Done(); string(got) != "\x01\x02" {
		t.Errorf("Put(258, 2): %x", got)
	}
	w.Int(-2, 3)
	w.Raw(nil)
	w.Raw([]byte{})
	w.Raw([]byte("ab"))
	w.Put(0x1FF, 0)
	w.Int(-1, 9)
	if got := w.Done(); string(got) != "\x01\x02\xff\xff\xfeab\xff\xff\xff\xff\xff\xff\xff\xff\xff" {
		t.Errorf("%x", got)
	}
}

// P2.1, P2: what is written is kept apart from what is handed in and out.
func TestWriterKeepsApart(t *testing.T) {
	var w Writer
	in := []byte("abcdef")
	w.Raw(in[:3])
	if string(in) != "abcdef" {
		t.Errorf("Raw turned what it was given: %s", in)
	}
	copy(in, "xxxxxx")
	first, second := w.Done(), w.Done()
	first[0] = 'y'
	first = append(first, "zz"...)
	if string(second) != "abc" || string(w.Done()) != "abc" {
		t.Errorf("written over: %s, %s", second, w.Done())
	}
	w.Raw([]byte("d"))
	if string(first) != "ybczz" || string(second) != "abc" || string(w.Done()) != "abcd" {
		t.Errorf("%s %s %s", first, second, w.Done())
	}
	w.Raw(w.Done())
	if string(w.Done()) != "abcdabcd" {
		t.Errorf("%s", w.Done())
	}
}

// P2.2: what is put by a size is got by it.
func TestPutIsGot(t *testing.T) {
	for _, size := range sizes() {
		var w Writer
		for _, n := range numbers() {
			w.Put(n, size)
			w.Int(int64(n), size)
		}
		r := Open(w.Done())
		lost := 64 - 8*counted(size)
		for _, n := range numbers() {
			if got, want := r.Get(size), n<<lost>>lost; got != want {
				t.Errorf("size %d: %#x is got as %#x, not %#x", size, n, got, want)
			}
			if got, want := r.Int(size), int64(n<<lost)>>lost; got != want {
				t.Errorf("size %d: %#x is got as %d, not %d", size, n, got, want)
			}
		}
		if r.Left() != 0 || r.Bad() {
			t.Errorf("size %d: left %d, bad %v", size, r.Left(), r.Bad())
		}
	}
}

// P2.2: fields of many kinds come in the order in which they were put.
func TestMixedFieldsInOrder(t *testing.T) {
	var w Writer
	for i := range 300 {
		size := i%8 + 1
		w.Put(uint64(i), max(size, 2))
		w.Int(int64(-i), max(size, 2))
		w.Raw(bytes.Repeat([]byte{byte(i)}, i%5))
	}
	w.Raw([]byte("end"))
	r := Open(w.Done())
	for i := range 300 {
		size := i%8 + 1
		if got := r.Get(max(size, 2)); got != uint64(i) {
			t.Fatalf("%d: Get is %d", i, got)
		}
		if got := r.Int(max(size, 2)); got != int64(-i) {
			t.Fatalf("%d: Int is %d", i, got)
		}
		if got := r.Raw(i % 5); !bytes.Equal(got, bytes.Repeat([]byte{byte(i)}, i%5)) {
			t.Fatalf("%d: Raw is %x", i, got)
		}
	}
	if got := r.Rest(); string(got) != "end" || r.Bad() || r.Left() != 0 {
		t.Errorf("%s %v %d", got, r.Bad(), r.Left())
	}
}

// P2.1: the ends of each size in two's complement.
func TestIntAtEnds(t *testing.T) {
	for size := 1; size <= 8; size++ {
		least := int64(-1) << (8*size - 1)
		for _, n := range []int64{least, least + 1, -1, 0, 1, -(least + 1)} {
			var w Writer
			w.Int(n, size)
			if got := Open(w.Done()).Int(size); got != n {
				t.Errorf("size %d: %d is got as %d", size, n, got)
			}
		}
	}
}

// P2.1: what a reader answers when more is asked for than there is, and from then on.
func TestReaderAskedTooMuch(t *testing.T) {
	asks := map[string]func(r *Reader) bool{
		"Get(4)":       func(r *Reader) bool { return r.Get(4) == 0 },
		"Get(8)":       func(r *Reader) bool { return r.Get(8) == 0 },
		"Get(most)":    func(r *Reader) bool { return r.Get(math.MaxInt) == 0 },
		"Int(4)":       func(r *Reader) bool { return r.Int(4) == 0 },
		"Int(most)":    func(r *Reader) bool { return r.Int(math.MaxInt) == 0 },
		"Raw(4)":       func(r *Reader) bool { return len(r.Raw(4)) == 0 },
		"Raw(most)":    func(r *Reader) bool { return len(r.Raw(math.MaxInt)) == 0 },
		"Raw(2 to 32)": func(r *Reader) bool { return len(r.Raw(1<<32)) == 0 },
	}
	for name, ask := range asks {
		r := Open([]byte{0xF1, 0xF2, 0xF3, 0xF4})
		if r.Get(1) != 0xF1 || r.Left() != 3 || r.Bad() {
			t.Fatalf("%s: ahead of it: left %d, bad %v", name, r.Left(), r.Bad())
		}
		if !ask(r) || !r.Bad() || r.Left() != 3 {
			t.Errorf("%s: left %d, bad %v", name, r.Left(), r.Bad())
		}
		if r.Get(1) != 0 || r.Get(0) != 0 || r.Int(1) != 0 || r.Int(2) != 0 || len(r.Raw(1)) != 0 || len(r.Raw(0)) != 0 || len(r.Raw(-1)) != 0 || len(r.Rest()) != 0 {
			t.Errorf("%s: it still answers", name)
		}
		if !r.Bad() || r.Left() != 3 {
			t.Errorf("%s: then: left %d, bad %v", name, r.Left(), r.Bad())
		}
	}
}

// P2.1: asking for all, or for none, isn't asking for too much.
func TestReaderAskedEnough(t *testing.T) {
	for _, b := range [][]byte{nil, {}} {
		r := Open(b)
		if r.Left() != 0 || len(r.Rest()) != 0 || len(r.Raw(0)) != 0 || len(r.Raw(math.MinInt)) != 0 || r.Bad() {
			t.Errorf("of none: left %d, bad %v", r.Left(), r.Bad())
		}
		if r.Get(0) != 0 || !r.Bad() || r.Left() != 0 {
			t.Errorf("a field of size 0 counts as one byte: left %d, bad %v", r.Left(), r.Bad())
		}
	}
	r := Open([]byte{1, 2, 3})
	if string(r.Raw(3)) != "\x01\x02\x03" || r.Bad() || r.Left() != 0 || len(r.Rest()) != 0 || r.Bad() {
		t.Errorf("all: left %d, bad %v", r.Left(), r.Bad())
	}
	r = Open([]byte{1, 2, 3})
	if len(r.Raw(-1)) != 0 || r.Left() != 3 || string(r.Rest()) != "\x01\x02\x03" || r.Left() != 0 || r.Bad() {
		t.Errorf("rest: left %d, bad %v", r.Left(), r.Bad())
	}
	r = Open([]byte{1, 2, 3, 4, 5, 6, 7, 8})
	if r.Get(99) != 0x0102030405060708 || r.Left() != 0 || r.Bad() {
		t.Errorf("a size above 8: left %d, bad %v", r.Left(), r.Bad())
	}
	var zero Reader
	if zero.Left() != 0 || zero.Bad() || len(zero.Rest()) != 0 || zero.Bad() {
		t.Error("the zero Reader has no bytes")
	}
}

// P2.1, P2: a reader has its own copy, and so has whoever reads.
func TestReaderKeepsApart(t *testing.T) {
	in := []byte("abcdefgh")
	r := Open(in[:6])
	copy(in, "xxxxxxxx")
	first := r.Raw(2)
	_ = append(first, "yyyy"...)
	second := r.Raw(2)
	first[0], first[1] = 'z', 'z'
	_ = append(second, "yyyy"...)
	rest := r.Rest()
	_ = append(rest, "yyyy"...)
	rest[0] = 'z'
	if string(first) != "zz" || string(second) != "cd" || string(rest) != "zf" || string(in) != "xxxxxxxx" {
		t.Errorf("%s %s %s %s", first, second, rest, in)
	}
	r = Open([]byte("abcd"))
	same := *r
	r.Raw(2)[0] = 'z'
	if got := same.Rest(); string(got) != "abcd" {
		t.Errorf("what was handed out isn't the caller's own: %s", got)
	}
}

// model is a reader as the words say, with nothing in common with the program's.
type model struct {
	all []byte
	at  int
	bad bool
}

func (m *model) raw(n int) []byte {
	if m.bad || n > len(m.all)-m.at {
		m.bad = true
		return nil
	}
	m.at += n
	return m.all[m.at-n : m.at]
}

func (m *model) get(size int) uint64 {
	var n uint64
	for _, b := range m.raw(counted(size)) {
		n = n*256 + uint64(b)
	}
	return n
}

// same asks both by step k; it tells whether they answer the same.
func same(m *model, r *Reader, k int) bool {
	args := []int{-1, 0, 1, 2, 3, 9, math.MaxInt}
	arg := args[k%len(args)]
	switch k / len(args) {
	case 0:
		return r.Get(arg) == m.get(arg)
	case 1:
		lost := 64 - 8*counted(arg)
		return r.Int(arg) == int64(m.get(arg)<<lost)>>lost
	case 2:
		return bytes.Equal(r.Raw(arg), m.raw(max(arg, 0)))
	default:
		return bytes.Equal(r.Rest(), m.raw(len(m.all)-m.at))
	}
}

// P2.1: every order of four calls, on no byte up to nine.
func TestReaderInEveryOrder(t *testing.T) {
	const kinds, depth = 22, 4
	all := []byte{0x81, 0x02, 0xFF, 0x7F, 0x80, 0x00, 0xC3, 0x10, 0x99}
	for _, length := range []int{0, 1, 2, 3, 5, 8, 9} {
		for order := range kinds * kinds * kinds * kinds {
			m, r := &model{all: all[:length]}, Open(all[:length])
			code := order
			for range depth {
				if !same(m, r, code%kinds) || r.Left() != len(m.all)-m.at || r.Bad() != m.bad {
					t.Fatalf("%d bytes, order %d, at step %d: left %d of %d, bad %v", length, order, code%kinds, r.Left(), len(m.all)-m.at, r.Bad())
				}
				code /= kinds
			}
		}
	}
}
