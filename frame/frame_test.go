package frame

import (
	"bytes"
	"slices"
	"testing"

	"clerestory/api"
)

// pattern is n bytes, of which no two neighbours are the same.
func pattern(n int) []byte {
	b := make([]byte, n)
	for i := range b {
		b[i] = byte(i*7 + n)
	}
	return b
}

// framed is a frame as the words say, made apart from the program's own.
func framed(body string) string {
	return string([]byte{byte(len(body) / 256), byte(len(body) % 256)}) + body
}

// texts are bodies as texts, so that they can be held against each other.
func texts(bodies [][]byte) []string {
	var list []string
	for _, body := range bodies {
		list = append(list, string(body))
	}
	return list
}

// wantSplit is what Split has to tell, found by places in the whole, not by what is left.
func wantSplit(b string) (bodies []string, left string, e api.Errno) {
	at := 0
	for at+2 <= len(b) {
		size := int(b[at])*256 + int(b[at+1])
		if size > 1024 {
			return bodies, b[at:], api.ErrLong
		}
		if at+2+size > len(b) {
			break
		}
		bodies = append(bodies, b[at+2:at+2+size])
		at += 2 + size
	}
	return bodies, b[at:], api.OK
}

// P3.1: bodies up to MaxFrame, and those whose length's lowest two bytes alone would do.
func TestWrap(t *testing.T) {
	for _, n := range []int{0, 1, 2, 3, 255, 256, 257, 511, 512, 1023, 1024} {
		body := pattern(n)
		if got, e := Wrap(body); string(got) != framed(string(body)) || e != api.OK {
			t.Errorf("%d bytes: %x %d", n, got, e)
		}
	}
	for _, n := range []int{1025, 1026, 2048, 65535, 65536, 65537, 65536 + 1024, 1 << 20} {
		if got, e := Wrap(make([]byte, n)); len(got) != 0 || e != api.ErrLong {
			t.Errorf("%d bytes: %d bytes, %d", n, len(got), e)
		}
	}
	if got, e := Wrap(nil); string(got) != "\x00\x00" || e != api.OK {
		t.Errorf("nil: %x %d", got, e)
	}
	if got, e := Wrap([]byte("ab")); string(got) != "\x00\x02ab" || e != api.OK {
		t.Errorf("ab: %x %d", got, e)
	}
}

// P3.1: every head that there is, with a body that isn't all there, one that is, and one with more behind it.
func TestNextOfAllHeads(t *testing.T) {
	room := pattern(2 + 65536 + 1)
	for size := range 1 << 16 {
		room[0], room[1] = byte(size>>8), byte(size)
		for _, there := range []int{0, size - 1, size, size + 1} {
			if there < 0 {
				continue
			}
			b := room[:2+there]
			var wantBody, wantRest []byte
			want := api.OK
			switch {
			case size > 1024:
				want = api.ErrLong
			case there < size:
				want = api.ErrShort
			default:
				wantBody, wantRest = b[2:2+size], b[2+size:]
			}
			body, rest, e := Next(b)
			if !bytes.Equal(body, wantBody) || !bytes.Equal(rest, wantRest) || e != want {
				t.Fatalf("%d told, %d there: %d and %d bytes, %d", size, there, len(body), len(rest), e)
			}
		}
	}
}

// P3.1: fewer than two bytes tell nothing, whatever they are.
func TestNextOfNoHead(t *testing.T) {
	for first := range 256 {
		if body, rest, e := Next([]byte{byte(first)}); len(body) != 0 || len(rest) != 0 || e != api.ErrShort {
			t.Errorf("%#x: %x %x %d", first, body, rest, e)
		}
	}
	for _, b := range [][]byte{nil, {}} {
		if body, rest, e := Next(b); len(body) != 0 || len(rest) != 0 || e != api.ErrShort {
			t.Errorf("none: %x %x %d", body, rest, e)
		}
	}
}

// P3.1: what stands behind a frame isn't looked at, even if it is no frame.
func TestNextWithMoreBehind(t *testing.T) {
	for _, c := range []struct{ b, body, rest string }{
		{"\x00\x02ab\xff\xff", "ab", "\xff\xff"},
		{"\x00\x00\x00\x00", "", "\x00\x00"},
		{"\x00\x01a\x00", "a", "\x00"},
		{"\x00\x01a\x00\x01b\x00\x01c", "a", "\x00\x01b\x00\x01c"},
	} {
		if body, rest, e := Next([]byte(c.b)); string(body) != c.body || string(rest) != c.rest || e != api.OK {
			t.Errorf("%q: %q %q %d", c.b, body, rest, e)
		}
	}
}

// P3.1: a frame that tells of too much, ahead of right ones, behind them and between them, and bytes of which no frame is all there.
func TestSplitByHand(t *testing.T) {
	most := string(pattern(1024))
	for _, c := range []struct {
		b      string
		bodies []string
		left   string
		e      api.Errno
	}{
		{"", nil, "", api.OK},
		{"\x00", nil, "\x00", api.OK},
		{"\xff", nil, "\xff", api.OK},
		{"\x00\x01", nil, "\x00\x01", api.OK},
		{"\x04\x00", nil, "\x04\x00", api.OK},
		{"\x04\x01", nil, "\x04\x01", api.ErrLong},
		{"\x00\x00", []string{""}, "", api.OK},
		{"\x00\x00\x00\x00\x00", []string{"", ""}, "\x00", api.OK},
		{"\x00\x01a\x00\x02b", []string{"a"}, "\x00\x02b", api.OK},
		{framed(most), []string{most}, "", api.OK},
		{framed(most)[:1025], nil, framed(most)[:1025], api.OK},
		{framed(most) + framed("z"), []string{most, "z"}, "", api.OK},
		{"\x04\x01\x00\x01a\x00\x01b", nil, "\x04\x01\x00\x01a\x00\x01b", api.ErrLong},
		{"\x00\x01a\x00\x01b\x04\x01", []string{"a", "b"}, "\x04\x01", api.ErrLong},
		{"\x00\x01a\xff\xff\x00\x01b", []string{"a"}, "\xff\xff\x00\x01b", api.ErrLong},
		{framed("a") + framed(string(pattern(1025))) + framed("b"), []string{"a"}, framed(string(pattern(1025))) + framed("b"), api.ErrLong},
		{"\x00\x01a\xff", []string{"a"}, "\xff", api.OK},
		// What looks like too much within a body is a body.
		{"\x00\x02\xff\xff\x00\x00", []string{"\xff\xff", ""}, "", api.OK},
	} {
		bodies, left, e := Split([]byte(c.b))
		if !slices.Equal(texts(bodies), c.bodies) || string(left) != c.left || e != c.e {
			t.Errorf("%q: %q %q %d", c.b, bodies, left, e)
		}
		if all := slices.Collect(All([]byte(c.b))); !slices.Equal(texts(all), c.bodies) {
			t.Errorf("%q: all are %q", c.b, all)
		}
	}
}

// P3.1: all texts of up to seven bytes that can be made of a few.
func TestAllShortStreams(t *testing.T) {
	letters := []byte{0, 1, 2, 4, 0xFF}
	streams := []string{""}
	for from := 0; len(streams[from]) < 7; from++ {
		for _, letter := range letters {
			streams = append(streams, streams[from]+string([]byte{letter}))
		}
	}
	for _, b := range streams {
		wantBodies, wantLeft, want := wantSplit(b)
		bodies, left, e := Split([]byte(b))
		if !slices.Equal(texts(bodies), wantBodies) || string(left) != wantLeft || e != want {
			t.Fatalf("%x: %x %x %d", b, bodies, left, e)
		}
		if all := slices.Collect(All([]byte(b))); !slices.Equal(texts(all), wantBodies) {
			t.Fatalf("%x: all are %x", b, all)
		}
	}
}

// wrapAll is bodies, wrapped and put one behind the other.
func wrapAll(t *testing.T, bodies []string) []byte {
	t.Helper()
	var stream []byte
	for _, body := range bodies {
		wrapped, e := Wrap([]byte(body))
		if e != api.OK {
			t.Fatalf("%d bytes: %d", len(body), e)
		}
		stream = append(stream, wrapped...)
	}
	return stream
}

// P3.2: what is wrapped is found in order, by each of the calls.
func TestWrappedIsFound(t *testing.T) {
	var want []string
	for n := range 1025 {
		want = append(want, string(pattern(n)))
	}
	stream := wrapAll(t, want)
	bodies, left, e := Split(stream)
	if !slices.Equal(texts(bodies), want) || len(left) != 0 || e != api.OK {
		t.Errorf("Split: %d bodies, %d left, %d", len(bodies), len(left), e)
	}
	if all := slices.Collect(All(stream)); !slices.Equal(texts(all), want) {
		t.Errorf("All: %d bodies", len(all))
	}
	rest := stream
	for i := range want {
		var body []byte
		if body, rest, e = Next(rest); string(body) != want[i] || e != api.OK {
			t.Fatalf("Next, %d: %d bytes, %d", i, len(body), e)
		}
	}
	if len(rest) != 0 {
		t.Errorf("Next: %d left", len(rest))
	}
}

// feed splits a stream that comes in parts, each with what was left ahead of it.
func feed(parts ...[]byte) (bodies []string, left []byte, e api.Errno) {
	for _, part := range parts {
		var found [][]byte
		found, left, e = Split(append(left, part...))
		bodies = append(bodies, texts(found)...)
	}
	return bodies, left, e
}

// P3.2: streams that are cut at each place are the same streams.
func TestStreamCutInTwo(t *testing.T) {
	good := string(wrapAll(t, []string{"", "a", string(pattern(1024)), "", "\xff\xff", string(pattern(300))}))
	for _, stream := range []string{good, good + "\x04", good + "\x04\x00abc", good + "\x04\x01" + good, "\xff\xff" + good} {
		wantBodies, wantLeft, want := wantSplit(stream)
		for place := range len(stream) + 1 {
			bodies, left, e := feed([]byte(stream[:place]), []byte(stream[place:]))
			if !slices.Equal(bodies, wantBodies) || string(left) != wantLeft || e != want {
				t.Fatalf("cut at %d of %d: %d bodies, %d left, %d", place, len(stream), len(bodies), len(left), e)
			}
		}
	}
}

// P3.2: the same by two places, and byte by byte.
func TestStreamCutOften(t *testing.T) {
	good := string(wrapAll(t, []string{"ab", "", "", "\x00\x01", "cdefghijk", "\xff\xff\xff"}))
	for _, stream := range []string{good, good + "\x00\x09x", good + "\x04\x01" + good} {
		wantBodies, wantLeft, want := wantSplit(stream)
		for first := range len(stream) + 1 {
			for second := first; second <= len(stream); second++ {
				bodies, left, e := feed([]byte(stream[:first]), []byte(stream[first:second]), []byte(stream[second:]))
				if !slices.Equal(bodies, wantBodies) || string(left) != wantLeft || e != want {
					t.Fatalf("%q cut at %d and %d: %q %q %d", stream, first, second, bodies, left, e)
				}
			}
		}
		var single [][]byte
		for i := range len(stream) {
			single = append(single, []byte{stream[i]})
		}
		if bodies, left, e := feed(single...); !slices.Equal(bodies, wantBodies) || string(left) != wantLeft || e != want {
			t.Errorf("%q byte by byte: %q %q %d", stream, bodies, left, e)
		}
	}
}

// P3.2: what was found and what is left make up the stream.
func TestNothingIsLost(t *testing.T) {
	stream := string(wrapAll(t, []string{"a", "", string(pattern(700))})) + "\x05\x00" + framed("b")
	for place := range len(stream) + 1 {
		bodies, left, _ := Split([]byte(stream[:place]))
		if again := string(wrapAll(t, texts(bodies))) + string(left); again != stream[:place] {
			t.Fatalf("cut at %d: %q", place, again)
		}
	}
}

// P3.1: whoever stops is handed nothing more, and begins anew then.
func TestAllStopped(t *testing.T) {
	want := []string{"a", "", "bc", "d"}
	all := All(append(wrapAll(t, want), 0, 9))
	for stop := 1; stop <= len(want); stop++ {
		var got []string
		all(func(body []byte) bool {
			got = append(got, string(body))
			return len(got) < stop
		})
		if !slices.Equal(got, want[:stop]) {
			t.Errorf("stopped at %d: %q", stop, got)
		}
	}
	if got := texts(slices.Collect(all)); !slices.Equal(got, want) {
		t.Errorf("then: %q", got)
	}
}

// P3.1: two that go through the same bodies don't disturb each other.
func TestAllNested(t *testing.T) {
	all := All(wrapAll(t, []string{"a", "b"}))
	var got []string
	for x := range all {
		for y := range all {
			got = append(got, string(x)+string(y))
		}
	}
	if want := []string{"aa", "ab", "ba", "bb"}; !slices.Equal(got, want) {
		t.Errorf("%q", got)
	}
}

// P2: bodies are gone through as they were handed in, whatever is written over then.
func TestAllKeepsApart(t *testing.T) {
	in := wrapAll(t, []string{"abc", "de"})
	all := All(in)
	clear(in)
	for range 2 {
		var got []string
		for body := range all {
			got = append(got, string(body))
			_ = append(body, "\xff\xff\xff\xff"...)
			clear(body)
		}
		if !slices.Equal(got, []string{"abc", "de"}) {
			t.Errorf("%q", got)
		}
	}
}

// fill writes over all of a list's memory, its spare room too.
func fill(list []byte, with byte) {
	room := list[:cap(list)]
	for i := range room {
		room[i] = with
	}
}

// P2: what is handed in isn't turned, the memory behind it neither, whatever is done with what is answered.
func TestHandedInIsLeftAlone(t *testing.T) {
	const right, wrong = "\x00\x01a\x00\x00\x00\x02bc\x00\x05d", "\x04\x01e"
	const whole = right + wrong + "spare room"
	in := []byte(whole)
	wrapped, _ := Wrap(in[2:3])
	body, rest, _ := Next(in[:len(right)])
	bodies, left, _ := Split(in[:len(right)])
	_, behind, e := Split(in[len(right) : len(right)+len(wrong)])
	if string(behind) != wrong || e != api.ErrLong {
		t.Errorf("%q %d", behind, e)
	}
	for _, list := range append(bodies, wrapped, body, rest, left, behind) {
		fill(list, '!')
	}
	if string(in) != whole {
		t.Errorf("written over: %q", in)
	}
}

// P2: no two lists of one answer share memory.
func TestAnsweredListsShareNothing(t *testing.T) {
	b := []byte("\x00\x01a\x00\x00\x00\x02bc\x00\x05d")
	bodies, left, _ := Split(b)
	for i, list := range append(bodies, left) {
		fill(list, byte(i))
	}
	if want := []string{"\x00", "", "\x02\x02"}; !slices.Equal(texts(bodies), want) || string(left) != "\x03\x03\x03" {
		t.Errorf("Split: %q %q", bodies, left)
	}
	body, rest, _ := Next(b)
	fill(rest, 'y')
	fill(body, 'x')
	if string(body) != "x" || string(rest) != "yyyyyyyyy" {
		t.Errorf("Next: %q %q", body, rest)
	}
}

// P1: going from frame to frame doesn't copy all that is left each time, which would not end in good time here.
func TestManyFrames(t *testing.T) {
	const count = 1 << 20
	stream := make([]byte, 2*count)
	bodies, left, e := Split(stream)
	if len(bodies) != count || len(left) != 0 || e != api.OK {
		t.Errorf("%d bodies, %d left, %d", len(bodies), len(left), e)
	}
	found := 0
	for body := range All(stream) {
		found += 1 + len(body)
	}
	if found != count {
		t.Errorf("%d found", found)
	}
}
