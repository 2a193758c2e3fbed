package ssz_test

import (
	"bytes"
	"encoding/binary"
	"encoding/hex"
	"math"
	"math/rand/v2"
	"slices"
	"strings"
	"testing"

	"pharos/api"
	"pharos/ssz"
)

// text reads bytes as the document writes them.
func text(t *testing.T, s string) []byte {
	t.Helper()
	b, err := hex.DecodeString(strings.ReplaceAll(s, " ", ""))
	if err != nil {
		t.Fatal(err)
	}
	return b
}

// texts reads parts, cut by bars; "-" is none at all.
func texts(t *testing.T, s string) [][]byte {
	t.Helper()
	if s == "-" {
		return nil
	}
	var parts [][]byte
	for _, p := range strings.Split(s, "|") {
		parts = append(parts, text(t, p))
	}
	return parts
}

func same(a, b [][]byte) bool { return slices.EqualFunc(a, b, bytes.Equal) }

// u32 are the bytes of these offsets.
func u32(offsets ...uint32) []byte {
	var b []byte
	for _, o := range offsets {
		b = binary.LittleEndian.AppendUint32(b, o)
	}
	return b
}

func join(pieces ...[]byte) []byte { return bytes.Join(pieces, nil) }

// repeat is a list of count sizes.
func repeat(size, count int) []int { return slices.Repeat([]int{size}, count) }

// wantParts holds an answer against the parts, or none beside an error.
func wantParts(t *testing.T, what string, got [][]byte, err api.Errno, want [][]byte, wantErr api.Errno) {
	t.Helper()
	if err != wantErr || !same(got, want) {
		t.Errorf("%s: %x, error %d; want %x, error %d", what, got, err, want, wantErr)
	}
}

func wantBytes(t *testing.T, what string, got []byte, err api.Errno, want []byte, wantErr api.Errno) {
	t.Helper()
	if err != wantErr || !bytes.Equal(got, want) {
		t.Errorf("%s: %x, error %d; want %x, error %d", what, got, err, want, wantErr)
	}
}

func TestCut(t *testing.T) {
	for _, c := range []struct {
		name  string
		b     string
		sizes []int
		parts string
	}{
		{"the example", "01 02 07 00 00 00 03 04 05", []int{2, 0, 1}, "0102|0405|03"},
		{"one byte", "09", []int{1}, "09"},
		{"sizes alone", "01 02 03 04 05 06", []int{1, 2, 3}, "01|0203|040506"},
		{"one of any size", "04 00 00 00 aa bb", []int{0}, "aabb"},
		{"one of any size, empty", "04 00 00 00", []int{0}, ""},
		{"all empty", "0c 00 00 00 0c 00 00 00 0c 00 00 00", []int{0, 0, 0}, "||"},
		{"the first empty", "08 00 00 00 08 00 00 00 aa", []int{0, 0}, "|aa"},
		{"the last empty", "08 00 00 00 09 00 00 00 aa", []int{0, 0}, "aa|"},
		{"the middle empty", "0c 00 00 00 0d 00 00 00 0d 00 00 00 aa bb", []int{0, 0, 0}, "aa||bb"},
		{"a size ahead and behind", "07 0a 00 00 00 08 0c 00 00 00 aa bb cc", []int{1, 0, 1, 0}, "07|aabb|08|cc"},
		{"a size between", "09 00 00 00 07 0b 00 00 00 aa bb cc", []int{0, 1, 0}, "aabb|07|cc"},
	} {
		parts, err := ssz.Cut(text(t, c.b), c.sizes)
		wantParts(t, c.name, parts, err, texts(t, c.parts), api.OK)
	}
}

func TestCutRefusesSizes(t *testing.T) {
	for _, c := range []struct {
		name  string
		sizes []int
	}{
		{"nil", nil},
		{"none", []int{}},
		{"65 of any size", repeat(0, 65)},
		{"65 of one byte", repeat(1, 65)},
		{"a negative one", []int{-1}},
		{"a negative one behind", []int{4, 0, -1}},
		{"the least one", []int{4, math.MinInt}},
		{"65537", []int{65537}},
		{"65537 behind", []int{0, 65537}},
		{"the greatest one", []int{math.MaxInt, math.MaxInt}},
	} {
		// ErrArg stands ahead of what may be said of the bytes.
		for _, b := range [][]byte{nil, {1}, make([]byte, 65), make([]byte, 260), make([]byte, 65537), bytes.Repeat([]byte{255}, 100)} {
			parts, err := ssz.Cut(b, c.sizes)
			wantParts(t, c.name, parts, err, nil, api.ErrArg)
		}
	}
}

func TestCutTakesSizesAtTheirBounds(t *testing.T) {
	b := make([]byte, 65536)
	b[0], b[65535] = 1, 2
	parts, err := ssz.Cut(b, []int{65536})
	wantParts(t, "one of 65536", parts, err, [][]byte{b}, api.OK)

	b = make([]byte, 64)
	var want [][]byte
	for i := range b {
		b[i] = byte(i)
		want = append(want, []byte{byte(i)})
	}
	parts, err = ssz.Cut(b, repeat(1, 64))
	wantParts(t, "64 of one byte", parts, err, want, api.OK)

	var offsets []uint32
	for i := range 64 {
		offsets = append(offsets, uint32(256+i))
	}
	parts, err = ssz.Cut(join(u32(offsets...), b), repeat(0, 64))
	wantParts(t, "64 of any size", parts, err, want, api.OK)

	great := bytes.Repeat([]byte{7}, 64*65536)
	parts, err = ssz.Cut(great, repeat(65536, 64))
	if err != api.OK || len(parts) != 64 || !bytes.Equal(bytes.Join(parts, nil), great) {
		t.Errorf("64 of 65536: %d parts, error %d", len(parts), err)
	}
	for _, length := range []int{len(great) - 1, len(great) + 1} {
		parts, err = ssz.Cut(make([]byte, length), repeat(65536, 64))
		wantParts(t, "64 of 65536", parts, err, nil, api.ErrSize)
	}
}

func TestCutRefusesLengths(t *testing.T) {
	for _, c := range []struct {
		name  string
		sizes []int
		head  int
		loose bool
	}{
		{"one byte", []int{1}, 1, false},
		{"sizes alone", []int{2, 4, 1}, 7, false},
		{"65536", []int{65536}, 65536, false},
		{"any size", []int{0}, 4, true},
		{"both", []int{2, 0, 1}, 7, true},
		{"any size behind", []int{3, 0, 0}, 11, true},
	} {
		for _, length := range []int{0, 1, c.head - 2, c.head - 1} {
			if length < 0 || length >= c.head {
				continue
			}
			// Bytes of 255 have wrong offsets too: ErrSize stands ahead of ErrForm.
			for _, fill := range []byte{0, byte(c.head), 255} {
				parts, err := ssz.Cut(bytes.Repeat([]byte{fill}, length), c.sizes)
				wantParts(t, c.name+", too few", parts, err, nil, api.ErrSize)
			}
		}
		for _, length := range []int{c.head + 1, c.head + 2, 2*c.head + 1} {
			want := api.ErrSize
			if c.loose {
				want = api.ErrForm // its offsets are 0
			}
			parts, err := ssz.Cut(make([]byte, length), c.sizes)
			wantParts(t, c.name+", more", parts, err, nil, want)
		}
	}
	parts, err := ssz.Cut(text(t, "01 02 07 00 00 00 03 04 05"), []int{2, 4, 1})
	wantParts(t, "the example", parts, err, nil, api.ErrSize)
	parts, err = ssz.Cut(nil, []int{0})
	wantParts(t, "no bytes", parts, err, nil, api.ErrSize)
}

func TestCutRefusesOffsets(t *testing.T) {
	for _, c := range []struct {
		name  string
		b     []byte
		sizes []int
		err   api.Errno
	}{
		{"the example", text(t, "01 02 08 00 00 00 03 04 05"), []int{2, 0, 1}, api.ErrForm},
		{"the first at the head's length", join([]byte{1, 2}, u32(7), []byte{3, 4, 5}), []int{2, 0, 1}, api.OK},
		{"the first one below", join([]byte{1, 2}, u32(6), []byte{3, 4, 5}), []int{2, 0, 1}, api.ErrForm},
		{"the first one above", join(u32(5), []byte{3, 4, 5}), []int{0}, api.ErrForm},
		{"the first 0", join(u32(0), []byte{3, 4, 5}), []int{0}, api.ErrForm},
		{"the first 0, nothing behind", u32(0), []int{0}, api.ErrForm},
		{"the first 3", u32(3), []int{0}, api.ErrForm},
		{"the first at the end", join(u32(7), []byte{3, 4, 5}), []int{0}, api.ErrForm},
		{"the first behind the end", join(u32(8), []byte{3, 4, 5}), []int{0}, api.ErrForm},
		{"the first with a second byte", u32(4 + 1<<8), []int{0}, api.ErrForm},
		{"the first with a third byte", u32(4 + 1<<16), []int{0}, api.ErrForm},
		{"the first with a fourth byte", u32(4 + 1<<24), []int{0}, api.ErrForm},
		{"the first with the highest bit", u32(4 + 1<<31), []int{0}, api.ErrForm},
		{"the greatest first", u32(math.MaxUint32), []int{0}, api.ErrForm},
		{"the second the same", join(u32(8, 8), []byte{1}), []int{0, 0}, api.OK},
		{"the second falls", join(u32(8, 7), []byte{1}), []int{0, 0}, api.ErrForm},
		{"the second 0", join(u32(8, 0), []byte{1}), []int{0, 0}, api.ErrForm},
		{"the second at the end", join(u32(8, 9), []byte{1}), []int{0, 0}, api.OK},
		{"the second behind the end", join(u32(8, 10), []byte{1}), []int{0, 0}, api.ErrForm},
		{"the second with a fourth byte", join(u32(8, 8+1<<24), []byte{1}), []int{0, 0}, api.ErrForm},
		{"the greatest second", join(u32(8, math.MaxUint32), []byte{1}), []int{0, 0}, api.ErrForm},
		{"the third falls below the second alone", join(u32(12, 14, 13), []byte{1, 2}), []int{0, 0, 0}, api.ErrForm},
		{"the second is above, the third not", join(u32(12, 15, 13), []byte{1, 2}), []int{0, 0, 0}, api.ErrForm},
		{"the third is the second", join(u32(12, 14, 14), []byte{1, 2}), []int{0, 0, 0}, api.OK},
		{"the third behind the end", join(u32(12, 13, 15), []byte{1, 2}), []int{0, 0, 0}, api.ErrForm},
		{"a size between, falls", join(u32(9), []byte{7}, u32(8), []byte{1, 2}), []int{0, 1, 0}, api.ErrForm},
		{"a size between, behind the end", join(u32(9), []byte{7}, u32(12), []byte{1, 2}), []int{0, 1, 0}, api.ErrForm},
		{"a size between, at the end", join(u32(9), []byte{7}, u32(11), []byte{1, 2}), []int{0, 1, 0}, api.OK},
	} {
		parts, err := ssz.Cut(c.b, c.sizes)
		if err != c.err {
			t.Errorf("%s: error %d, want %d", c.name, err, c.err)
		}
		if c.err != api.OK && len(parts) != 0 {
			t.Errorf("%s: %x beside an error", c.name, parts)
		}
	}
}

// plainCut tells in the document's own order what Cut answers for sizes that may be.
func plainCut(b []byte, sizes []int) ([][]byte, api.Errno) {
	head, loose := 0, 0
	for _, s := range sizes {
		if s == 0 {
			head, loose = head+4, loose+1
		} else {
			head += s
		}
	}
	if len(b) < head || len(b) > head && loose == 0 {
		return nil, api.ErrSize
	}
	var begins []int
	at := 0
	for _, s := range sizes {
		if s == 0 {
			begins = append(begins, int(binary.LittleEndian.Uint32(b[at:])))
			s = 4
		}
		at += s
	}
	begins = append(begins, len(b))
	if begins[0] != head || !slices.IsSorted(begins) {
		return nil, api.ErrForm
	}
	var parts [][]byte
	at, loose = 0, 0
	for _, s := range sizes {
		if s == 0 {
			parts = append(parts, b[begins[loose]:begins[loose+1]])
			loose++
			at += 4
		} else {
			parts = append(parts, b[at:at+s])
			at += s
		}
	}
	return parts, api.OK
}

func TestCutAtAllOffsets(t *testing.T) {
	for _, sizes := range [][]int{{0}, {0, 0}, {1, 0, 0}, {0, 2, 0}, {0, 0, 1}, {0, 0, 0}, {3}, {1, 2}} {
		taken := 0
		for length := range 17 {
			b := make([]byte, length)
			for i := range b {
				b[i] = byte(0xa0 + i)
			}
			tryOffsets(b, sizes, 0, func() {
				want, wantErr := plainCut(b, sizes)
				parts, err := ssz.Cut(b, sizes)
				wantParts(t, "cut", parts, err, want, wantErr)
				if err != api.OK {
					return
				}
				taken++
				back, err := ssz.Lay(parts, sizes)
				wantBytes(t, "laid again", back, err, b, api.OK)
			})
		}
		if taken == 0 {
			t.Errorf("sizes %v: no bytes were taken", sizes)
		}
	}
}

// tryOffsets calls f with each small number at each place of an offset that b has.
func tryOffsets(b []byte, sizes []int, at int, f func()) {
	for i, s := range sizes {
		if s != 0 {
			at += s
			continue
		}
		if at+4 > len(b) {
			break
		}
		for o := range uint32(len(b) + 2) {
			binary.LittleEndian.PutUint32(b[at:], o)
			tryOffsets(b, sizes[i+1:], at+4, f)
		}
		return
	}
	f()
}

func TestLay(t *testing.T) {
	for _, c := range []struct {
		name  string
		parts string
		sizes []int
		b     string
	}{
		{"the example", "0102|0405|03", []int{2, 0, 1}, "01 02 07 00 00 00 03 04 05"},
		{"one byte", "09", []int{1}, "09"},
		{"sizes alone", "01|0203|040506", []int{1, 2, 3}, "01 02 03 04 05 06"},
		{"one of any size", "aabb", []int{0}, "04 00 00 00 aa bb"},
		{"one of any size, empty", "", []int{0}, "04 00 00 00"},
		{"all empty", "||", []int{0, 0, 0}, "0c 00 00 00 0c 00 00 00 0c 00 00 00"},
		{"the middle empty", "aa||bb", []int{0, 0, 0}, "0c 00 00 00 0d 00 00 00 0d 00 00 00 aa bb"},
		{"sizes among them", "07|aabb|08|cc", []int{1, 0, 1, 0}, "07 0a 00 00 00 08 0c 00 00 00 aa bb cc"},
	} {
		b, err := ssz.Lay(texts(t, c.parts), c.sizes)
		wantBytes(t, c.name, b, err, text(t, c.b), api.OK)
	}
	b, err := ssz.Lay([][]byte{nil, {}}, []int{0, 0})
	wantBytes(t, "nil is an empty part", b, err, u32(8, 8), api.OK)

	great := bytes.Repeat([]byte{5}, 65536)
	b, err = ssz.Lay(slices.Repeat([][]byte{great}, 64), repeat(65536, 64))
	wantBytes(t, "64 of 65536", b, err, bytes.Repeat([]byte{5}, 64*65536), api.OK)
}

func TestLayRefuses(t *testing.T) {
	one := [][]byte{{1}}
	for _, c := range []struct {
		name  string
		parts [][]byte
		sizes []int
		err   api.Errno
	}{
		{"nothing at all", nil, nil, api.ErrArg},
		{"no parts, no sizes", [][]byte{}, []int{}, api.ErrArg},
		{"no sizes", one, nil, api.ErrArg},
		{"no parts", nil, []int{1}, api.ErrArg},
		{"no parts of any size", nil, []int{0}, api.ErrArg},
		{"65 sizes", slices.Repeat(one, 65), repeat(1, 65), api.ErrArg},
		{"65 of any size", slices.Repeat(one, 65), repeat(0, 65), api.ErrArg},
		{"64 sizes", slices.Repeat([][]byte{{}}, 64), repeat(0, 64), api.OK},
		{"a negative size", one, []int{-1}, api.ErrArg},
		{"the least size", one, []int{math.MinInt}, api.ErrArg},
		{"65537", [][]byte{make([]byte, 65537)}, []int{65537}, api.ErrArg},
		{"the greatest size", one, []int{math.MaxInt}, api.ErrArg},
		{"more parts", [][]byte{{1}, {2}}, []int{1}, api.ErrArg},
		{"fewer parts", one, []int{1, 1}, api.ErrArg},
		{"more parts, of another size too", [][]byte{{1, 1}, {2}}, []int{1}, api.ErrArg},
		{"fewer parts, of another size too", [][]byte{{1, 1}}, []int{1, 0}, api.ErrArg},
		{"a negative size behind another one", [][]byte{{1, 1}, {}}, []int{1, -1}, api.ErrArg},
		{"a part too short", [][]byte{{1}, {2, 3}}, []int{2, 2}, api.ErrSize},
		{"a part too long", [][]byte{{1, 2}, {2, 3, 4}}, []int{2, 2}, api.ErrSize},
		{"an empty part with a size", [][]byte{{}, {2}}, []int{1, 0}, api.ErrSize},
		{"a nil part with a size", [][]byte{{2}, nil}, []int{0, 1}, api.ErrSize},
		{"65535 of 65536", [][]byte{make([]byte, 65535)}, []int{65536}, api.ErrSize},
		{"65537 of 65536", [][]byte{make([]byte, 65537)}, []int{65536}, api.ErrSize},
	} {
		b, err := ssz.Lay(c.parts, c.sizes)
		if err != c.err {
			t.Errorf("%s: error %d, want %d", c.name, err, c.err)
		}
		if c.err != api.OK && len(b) != 0 {
			t.Errorf("%s: %x beside an error", c.name, b)
		}
	}
}

func TestLayRefusesTooManyBytes(t *testing.T) {
	// Parts that are one and the same, so that few bytes stand for many.
	part := make([]byte, 1<<27-4)
	parts := slices.Repeat([][]byte{part}, 32)
	b, err := ssz.Lay(parts, repeat(0, 32))
	wantBytes(t, "just 2^32 bytes", b, err, nil, api.ErrArg)
	b, err = ssz.Lay(append(parts, part), repeat(0, 33))
	wantBytes(t, "more than 2^32 bytes", b, err, nil, api.ErrArg)
	b, err = ssz.Lay(append(slices.Repeat([][]byte{part}, 33), []byte{1, 2}), append(repeat(0, 33), 1))
	wantBytes(t, "a part of another size too", b, err, nil, api.ErrSize)
	b, err = ssz.Lay(append([][]byte{{1, 2}}, slices.Repeat([][]byte{part}, 33)...), append([]int{1}, repeat(0, 33)...))
	wantBytes(t, "a part of another size ahead", b, err, nil, api.ErrSize)
}

func TestEach(t *testing.T) {
	for _, c := range []struct {
		name       string
		b          string
		size, most int
		parts      string
		err        api.Errno
	}{
		{"ones", "01 02 03", 1, 3, "01|02|03", api.OK},
		{"twos", "01 02 03 04", 2, 5, "0102|0304", api.OK},
		{"just one", "01 02 03 04", 4, 1, "01020304", api.OK},
		{"no bytes", "", 3, 5, "-", api.OK},
		{"no bytes, none at most", "", 3, 0, "-", api.OK},
		{"no bytes, the greatest size", "", math.MaxInt, math.MaxInt, "-", api.OK},
		{"just most", "01 02 03 04", 2, 2, "0102|0304", api.OK},
		{"one more", "01 02 03 04 05 06", 2, 2, "-", api.ErrLong},
		{"one, none at most", "01", 1, 0, "-", api.ErrLong},
		{"any number at most", "01 02", 1, math.MaxInt, "01|02", api.OK},
		{"one byte too few", "01 02 03", 2, 5, "-", api.ErrSize},
		{"one byte too many", "01 02 03 04 05", 2, 5, "-", api.ErrSize},
		{"a size above all", "01 02", 3, 5, "-", api.ErrSize},
		{"the greatest size", "01 02", math.MaxInt, 5, "-", api.ErrSize},
		{"no multiple, and too long", "01 02 03 04 05", 2, 1, "-", api.ErrSize},
		{"size 0", "01 02", 0, 5, "-", api.ErrArg},
		{"size 0 of no bytes", "", 0, 5, "-", api.ErrArg},
		{"size -1", "01 02", -1, 5, "-", api.ErrArg},
		{"the least size", "01 02", math.MinInt, 5, "-", api.ErrArg},
		{"most -1", "01 02", 1, -1, "-", api.ErrArg},
		{"most -1 of no bytes", "", 1, -1, "-", api.ErrArg},
		{"the least most", "01 02", 1, math.MinInt, "-", api.ErrArg},
		{"most -1, and no multiple", "01 02 03", 2, -1, "-", api.ErrArg},
	} {
		parts, err := ssz.Each(text(t, c.b), c.size, c.most)
		wantParts(t, c.name, parts, err, texts(t, c.parts), c.err)
	}
	parts, err := ssz.Each(nil, 4, 4)
	wantParts(t, "nil", parts, err, nil, api.OK)
	b := bytes.Repeat([]byte{1, 2, 3}, 65536)
	parts, err = ssz.Each(b, 65536, 3)
	if err != api.OK || len(parts) != 3 || !bytes.Equal(bytes.Join(parts, nil), b) {
		t.Errorf("three of 65536: %d parts, error %d", len(parts), err)
	}
	parts, err = ssz.Each(b, 3*65536, 1)
	wantParts(t, "a size above 65536", parts, err, [][]byte{b}, api.OK)
}

func TestMany(t *testing.T) {
	for _, c := range []struct {
		name  string
		b     []byte
		most  int
		parts string
		err   api.Errno
	}{
		{"the example", text(t, "08 00 00 00 09 00 00 00 aa bb"), 5, "aa|bb", api.OK},
		{"the example of one", text(t, "04 00 00 00"), 5, "", api.OK},
		{"the example of zeros", text(t, "00 00 00 00"), 5, "-", api.ErrForm},
		{"nil", nil, 5, "-", api.OK},
		{"no bytes", []byte{}, 5, "-", api.OK},
		{"no bytes, none at most", nil, 0, "-", api.OK},
		{"most -1", text(t, "04 00 00 00"), -1, "-", api.ErrArg},
		{"most -1 of no bytes", nil, -1, "-", api.ErrArg},
		{"most -1 of one byte", []byte{1}, -1, "-", api.ErrArg},
		{"most -1 of zeros", u32(0), -1, "-", api.ErrArg},
		{"the least most", u32(4), math.MinInt, "-", api.ErrArg},
		{"any number at most", u32(4), math.MaxInt, "", api.OK},
		{"one byte", []byte{4}, 5, "-", api.ErrSize},
		{"two bytes", []byte{4, 0}, 5, "-", api.ErrSize},
		{"three bytes", []byte{4, 0, 0}, 5, "-", api.ErrSize},
		{"three zeros, none at most", []byte{0, 0, 0}, 0, "-", api.ErrSize},
		{"one with bytes", join(u32(4), []byte{1, 2}), 5, "0102", api.OK},
		{"one that is more", join(u32(4), []byte{1, 2}), 0, "-", api.ErrLong},
		{"the first 0", join(u32(0), []byte{1, 2}), 5, "-", api.ErrForm},
		{"the first 1", join(u32(1), []byte{1, 2}), 5, "-", api.ErrForm},
		{"the first 3", join(u32(3), []byte{1, 2}), 5, "-", api.ErrForm},
		{"the first 5", join(u32(5), []byte{1, 2}), 5, "-", api.ErrForm},
		{"the first 6", join(u32(6), []byte{1, 2}), 5, "-", api.ErrForm},
		{"the first at the end", u32(8, 8), 5, "|", api.OK},
		{"the first above the end", join(u32(8), []byte{1, 2, 3}), 5, "-", api.ErrForm},
		{"the first above the end, and too many", join(u32(8), []byte{1, 2, 3}), 1, "-", api.ErrForm},
		{"no multiple of 4, and too many", join(u32(6), []byte{1, 2}), 0, "-", api.ErrForm},
		{"0, and none at most", u32(0), 0, "-", api.ErrForm},
		{"the first with a fourth byte", u32(4 + 1<<24), 5, "-", api.ErrForm},
		{"the greatest first", u32(math.MaxUint32), 5, "-", api.ErrForm},
		{"the highest bit of the first", u32(1 << 31), math.MaxInt, "-", api.ErrForm},
		{"just most", join(u32(12, 12, 13), []byte{1, 2}), 3, "|01|02", api.OK},
		{"one more", join(u32(12, 12, 13), []byte{1, 2}), 2, "-", api.ErrLong},
		{"one more, and it falls", join(u32(12, 11, 13), []byte{1, 2}), 2, "-", api.ErrLong},
		{"one more, and above the end", join(u32(12, 12, 15), []byte{1, 2}), 2, "-", api.ErrLong},
		{"the second falls", join(u32(8, 7), []byte{1}), 2, "-", api.ErrForm},
		{"the second 0", join(u32(8, 0), []byte{1}), 2, "-", api.ErrForm},
		{"the second the same", join(u32(8, 8), []byte{1}), 2, "|01", api.OK},
		{"the second at the end", join(u32(8, 9), []byte{1}), 2, "01|", api.OK},
		{"the second above the end", join(u32(8, 10), []byte{1}), 2, "-", api.ErrForm},
		{"the greatest second", join(u32(8, math.MaxUint32), []byte{1}), 2, "-", api.ErrForm},
		{"the third falls below the second alone", join(u32(12, 14, 13), []byte{1, 2}), 3, "-", api.ErrForm},
		{"the second is above, the third not", join(u32(12, 15, 13), []byte{1, 2}), 3, "-", api.ErrForm},
		{"all empty", u32(12, 12, 12), 3, "||", api.OK},
	} {
		parts, err := ssz.Many(c.b, c.most)
		wantParts(t, c.name, parts, err, texts(t, c.parts), c.err)
	}
}

func TestManyAtAllOffsets(t *testing.T) {
	for length := range 17 {
		b := make([]byte, length)
		for i := range b {
			b[i] = byte(0xa0 + i)
		}
		for count := range 5 {
			tryOffsets(b, repeat(0, count), 0, func() {
				parts, err := ssz.Many(b, 3)
				want, wantErr := plainMany(b, 3)
				wantParts(t, "cut", parts, err, want, wantErr)
				if err == api.OK {
					back, err := ssz.LayMany(parts)
					wantBytes(t, "laid again", back, err, b, api.OK)
				}
			})
		}
	}
}

// plainMany tells in the document's own order what Many answers for a number that may be.
func plainMany(b []byte, most int) ([][]byte, api.Errno) {
	if len(b) == 0 {
		return nil, api.OK
	}
	if len(b) < 4 {
		return nil, api.ErrSize
	}
	first := int(binary.LittleEndian.Uint32(b))
	if first == 0 || first%4 != 0 || first > len(b) {
		return nil, api.ErrForm
	}
	if first/4 > most {
		return nil, api.ErrLong
	}
	return plainCut(b, make([]int, first/4))
}

func TestLayMany(t *testing.T) {
	for _, c := range []struct {
		name  string
		parts string
		b     []byte
	}{
		{"none", "-", nil},
		{"one empty", "", u32(4)},
		{"one", "aabb", join(u32(4), []byte{0xaa, 0xbb})},
		{"the example", "aa|bb", join(u32(8, 9), []byte{0xaa, 0xbb})},
		{"empty ones among them", "|aa||bbcc|", join(u32(20, 20, 21, 21, 23), []byte{0xaa, 0xbb, 0xcc})},
	} {
		b, err := ssz.LayMany(texts(t, c.parts))
		wantBytes(t, c.name, b, err, c.b, api.OK)
	}
	b, err := ssz.LayMany([][]byte{})
	wantBytes(t, "an empty list", b, err, nil, api.OK)
	b, err = ssz.LayMany([][]byte{nil, {}})
	wantBytes(t, "nil is an empty part", b, err, u32(8, 8), api.OK)
}

func TestLayManyRefusesTooManyBytes(t *testing.T) {
	// Parts that are one and the same, so that few bytes stand for many.
	part := make([]byte, 1<<16-4)
	b, err := ssz.LayMany(slices.Repeat([][]byte{part}, 1<<16))
	wantBytes(t, "just 2^32 bytes", b, err, nil, api.ErrArg)
	b, err = ssz.LayMany(slices.Repeat([][]byte{part}, 1<<17))
	wantBytes(t, "2^33 bytes", b, err, nil, api.ErrArg)
}

func TestBool(t *testing.T) {
	for n := range 256 {
		yes, err := ssz.Bool([]byte{byte(n)})
		want := api.ErrForm
		if n < 2 {
			want = api.OK
		}
		if err != want || yes != (n == 1) {
			t.Errorf("%d: %v, error %d", n, yes, err)
		}
	}
	for _, b := range [][]byte{nil, {}, {0, 0}, {1, 0}, {0, 1}, {1, 1}, {2, 2}, make([]byte, 8)} {
		if yes, err := ssz.Bool(b); err != api.ErrSize || yes {
			t.Errorf("%x: %v, error %d", b, yes, err)
		}
	}
}

// TestGreatOffsets: parts so long that the offsets behind them need each of their four bytes.
func TestGreatOffsets(t *testing.T) {
	var parts [][]byte
	for _, length := range []int{1, 255, 256, 65535, 65536, 1 << 24, 3} {
		part := make([]byte, length)
		part[0], part[length-1] = 1, 2
		parts = append(parts, part)
	}
	b, err := ssz.LayMany(parts)
	if err != api.OK || !bytes.Equal(b[:28], u32(28, 29, 284, 540, 66075, 131611, 16908827)) {
		t.Fatalf("%x, error %d", b[:28], err)
	}
	again, err := ssz.Many(b, 7)
	if err != api.OK || !same(again, parts) {
		t.Errorf("Many: error %d", err)
	}
	b, err = ssz.Lay(parts, repeat(0, 7))
	if err != api.OK || !bytes.Equal(b[:28], u32(28, 29, 284, 540, 66075, 131611, 16908827)) {
		t.Fatalf("%x, error %d", b[:28], err)
	}
	again, err = ssz.Cut(b, repeat(0, 7))
	if err != api.OK || !same(again, parts) {
		t.Errorf("Cut: error %d", err)
	}
}

// TestOneToOne: bytes and parts of many kinds there and back.
func TestOneToOne(t *testing.T) {
	r := rand.New(rand.NewPCG(3, 6))
	for range 3000 {
		parts, sizes := anyParts(r)
		b, err := ssz.Lay(parts, sizes)
		if err != api.OK {
			t.Fatalf("sizes %v: error %d", sizes, err)
		}
		again, err := ssz.Cut(b, sizes)
		wantParts(t, "Cut of Lay", again, err, parts, api.OK)

		many, err := ssz.LayMany(parts)
		if err != api.OK {
			t.Fatalf("LayMany: error %d", err)
		}
		again, err = ssz.Many(many, len(parts))
		wantParts(t, "Many of LayMany", again, err, parts, api.OK)
	}
}

// anyParts are parts that fit the sizes beside them.
func anyParts(r *rand.Rand) ([][]byte, []int) {
	var parts [][]byte
	var sizes []int
	for range 1 + r.IntN(64) {
		size := r.IntN(6)
		length := size
		if size == 0 {
			length = r.IntN(2) * r.IntN(400)
		}
		part := make([]byte, length)
		for i := range part {
			part[i] = byte(r.Uint32())
		}
		parts, sizes = append(parts, part), append(sizes, size)
	}
	return parts, sizes
}

// TestTwoFormsAreTwoLists: what is laid again is what was taken, whatever bytes come.
func TestTwoFormsAreTwoLists(t *testing.T) {
	r := rand.New(rand.NewPCG(6, 3))
	taken := 0
	for range 200000 {
		b := make([]byte, r.IntN(30))
		for i := range b {
			b[i] = byte(r.IntN(2) * r.IntN(20) * (1 - min(i%4, 1)))
		}
		if parts, err := ssz.Many(b, 1000); err == api.OK {
			taken++
			back, err := ssz.LayMany(parts)
			wantBytes(t, "LayMany of Many", back, err, b, api.OK)
		}
		_, sizes := anyParts(r)
		sizes = sizes[:min(len(sizes), 3)]
		parts, err := ssz.Cut(b, sizes)
		if err == api.OK {
			taken++
			back, err := ssz.Lay(parts, sizes)
			wantBytes(t, "Lay of Cut", back, err, b, api.OK)
		}
	}
	if taken < 1000 {
		t.Errorf("only %d were taken", taken)
	}
}

// roomy is a copy of b with spare room of a known kind.
func roomy(b []byte) []byte {
	wide := append(slices.Clone(b), bytes.Repeat([]byte{0xee}, 64)...)
	return wide[:len(b)]
}

func roomStays(b []byte) bool {
	return bytes.Equal(b[len(b):cap(b)][:64], bytes.Repeat([]byte{0xee}, 64))
}

// ownParts holds that parts are memory of their own: apart from b, and each apart from the others.
func ownParts(t *testing.T, what string, b []byte, cut func() ([][]byte, api.Errno)) {
	t.Helper()
	before := slices.Clone(b)
	parts, err := cut()
	if err != api.OK {
		t.Fatalf("%s: error %d", what, err)
	}
	var want [][]byte
	for _, p := range parts {
		want = append(want, slices.Clone(p))
	}
	if !bytes.Equal(b, before) || !roomStays(b) {
		t.Errorf("%s changed what was handed in", what)
	}
	for i := range b {
		b[i] ^= 0xff
	}
	if !same(parts, want) {
		t.Errorf("%s kept what was handed in", what)
	}
	copy(b, before)
	for i := range parts {
		// All that the part reaches, its spare room too.
		all := parts[i][:cap(parts[i])]
		for k := range all {
			all[k] ^= 0xff
		}
		for k := range parts {
			if k != i && !bytes.Equal(parts[k], want[k]) {
				t.Errorf("%s: the parts %d and %d share memory", what, i, k)
			}
		}
		copy(parts[i], want[i])
		_ = append(parts[i], 0x77)
		if !same(parts, want) || !bytes.Equal(b, before) || !roomStays(b) {
			t.Errorf("%s: the part %d shares memory", what, i)
		}
	}
	if again, err := cut(); err != api.OK || !same(again, want) {
		t.Errorf("%s answered otherwise the second time", what)
	}
}

func TestPartsAreNewMemory(t *testing.T) {
	sizes := []int{2, 0, 1, 0, 0, 3}
	container := roomy(join([]byte{1, 2}, u32(18), []byte{3}, u32(20, 20), []byte{4, 5, 6, 7, 8, 9, 10}))
	ownParts(t, "Cut", container, func() ([][]byte, api.Errno) { return ssz.Cut(container, sizes) })
	if !slices.Equal(sizes, []int{2, 0, 1, 0, 0, 3}) {
		t.Error("Cut changed the sizes")
	}
	fixed := roomy([]byte{1, 2, 3, 4, 5, 6})
	ownParts(t, "Cut of sizes", fixed, func() ([][]byte, api.Errno) { return ssz.Cut(fixed, []int{1, 2, 3}) })
	equal := roomy([]byte{1, 2, 3, 4, 5, 6})
	ownParts(t, "Each", equal, func() ([][]byte, api.Errno) { return ssz.Each(equal, 2, 3) })
	list := roomy(join(u32(12, 14, 14), []byte{1, 2, 3}))
	ownParts(t, "Many", list, func() ([][]byte, api.Errno) { return ssz.Many(list, 3) })
	one := roomy(join(u32(4), []byte{1, 2, 3}))
	ownParts(t, "Many of one", one, func() ([][]byte, api.Errno) { return ssz.Many(one, 3) })
}

// ownBytes holds that laid bytes are memory apart from the parts, and that those stay.
func ownBytes(t *testing.T, what string, parts [][]byte, lay func([][]byte) ([]byte, api.Errno)) {
	t.Helper()
	var before [][]byte
	for _, p := range parts {
		before = append(before, slices.Clone(p))
	}
	// Spare room of a known kind, behind each part and behind the list.
	spare := []byte{0xee}
	list := make([][]byte, 0, len(parts)+1)
	for _, p := range parts {
		list = append(list, roomy(p))
	}
	parts = append(list, spare)[:len(parts)]
	b, err := lay(parts)
	if err != api.OK {
		t.Fatalf("%s: error %d", what, err)
	}
	stays := func() {
		t.Helper()
		if !same(parts, before) || !same(parts[:cap(parts)], append(slices.Clone(before), spare)) {
			t.Errorf("%s changed what was handed in", what)
		}
		for _, p := range parts {
			if !roomStays(p) {
				t.Errorf("%s changed a part's spare room", what)
			}
		}
	}
	stays()
	want := slices.Clone(b)
	all := b[:cap(b)]
	for i := range all {
		all[i] ^= 0xff
	}
	stays()
	for _, p := range parts {
		for i := range p {
			p[i] ^= 0xff
		}
	}
	for i := range all {
		all[i] ^= 0xff
	}
	if !bytes.Equal(b, want) {
		t.Errorf("%s kept what was handed in", what)
	}
}

func TestLaidBytesAreNewMemory(t *testing.T) {
	parts := func() [][]byte { return [][]byte{{1, 2}, {3, 4, 5}, {6}, {}, {7, 8}} }
	sizes := []int{2, 0, 1, 0, 0}
	ownBytes(t, "Lay", parts(), func(p [][]byte) ([]byte, api.Errno) { return ssz.Lay(p, sizes) })
	if !slices.Equal(sizes, []int{2, 0, 1, 0, 0}) {
		t.Error("Lay changed the sizes")
	}
	ownBytes(t, "LayMany", parts(), ssz.LayMany)
	ownBytes(t, "Lay of one", [][]byte{{1, 2, 3}}, func(p [][]byte) ([]byte, api.Errno) { return ssz.Lay(p, []int{3}) })
	ownBytes(t, "Lay of one of any size", [][]byte{{1, 2, 3}}, func(p [][]byte) ([]byte, api.Errno) { return ssz.Lay(p, []int{0}) })
	ownBytes(t, "LayMany of one", [][]byte{{1, 2, 3}}, ssz.LayMany)
}

func TestSharedPartsAreLaidOneByOne(t *testing.T) {
	part := []byte{1, 2, 3}
	b, err := ssz.Lay([][]byte{part, part, part[:1]}, []int{3, 0, 0})
	wantBytes(t, "Lay", b, err, join([]byte{1, 2, 3}, u32(11, 14), []byte{1, 2, 3, 1}), api.OK)
	b, err = ssz.LayMany([][]byte{part, part[1:], part[:1]})
	wantBytes(t, "LayMany", b, err, join(u32(12, 15, 17), []byte{1, 2, 3, 2, 3, 1}), api.OK)
}

// TestNothingPanics: all calls end, and beside an error there is nothing, at arguments of all kinds.
func TestNothingPanics(t *testing.T) {
	r := rand.New(rand.NewPCG(1, 1))
	numbers := []int{math.MinInt, math.MinInt + 1, -65536, -4, -1, 0, 1, 2, 3, 4, 5, 64, 65535, 65536, 65537, 1 << 31, 1 << 32, math.MaxInt - 1, math.MaxInt}
	number := func() int { return numbers[r.IntN(len(numbers))] }
	empty := func(what string, length int, err api.Errno) {
		if err != api.OK && length != 0 {
			t.Errorf("%s: something beside error %d", what, err)
		}
	}
	for range 20000 {
		b := make([]byte, r.IntN(40))
		for i := range b {
			b[i] = byte(r.IntN(256) >> r.IntN(9))
		}
		sizes := make([]int, r.IntN(5))
		for i := range sizes {
			sizes[i] = number()
		}
		parts, err := ssz.Cut(b, sizes)
		empty("Cut", len(parts), err)
		parts, err = ssz.Each(b, number(), number())
		empty("Each", len(parts), err)
		parts, err = ssz.Many(b, number())
		empty("Many", len(parts), err)
		laid, err := ssz.Lay(slices.Repeat([][]byte{b}, r.IntN(5)), sizes)
		empty("Lay", len(laid), err)
	}
}

func BenchmarkCut(b *testing.B) {
	parts := slices.Repeat([][]byte{make([]byte, 32)}, 16)
	sizes := append(repeat(32, 12), repeat(0, 4)...)
	whole, _ := ssz.Lay(parts, sizes)
	for b.Loop() {
		ssz.Cut(whole, sizes)
	}
}

func BenchmarkLay(b *testing.B) {
	parts := slices.Repeat([][]byte{make([]byte, 32)}, 16)
	sizes := append(repeat(32, 12), repeat(0, 4)...)
	for b.Loop() {
		ssz.Lay(parts, sizes)
	}
}
