package bits_test

import (
	"bytes"
	"encoding/hex"
	"math"
	"math/big"
	"math/rand/v2"
	"slices"
	"strconv"
	"strings"
	"testing"

	"pharos/api"
	"pharos/bits"
)

// text reads bytes as the document writes them.
func text(t *testing.T, s string) []byte {
	t.Helper()
	b, err := hex.DecodeString(strings.ReplaceAll(s, " ", ""))
	if err != nil {
		t.Fatal(err)
	}
	return b
}

// row reads bits as 0 and 1, the first one ahead; what else stands there is for the eye.
func row(s string) []bool {
	var l []bool
	for _, c := range s {
		switch c {
		case '0':
			l = append(l, false)
		case '1':
			l = append(l, true)
		}
	}
	return l
}

// show is the other way round, short where there are many.
func show(l []bool) string {
	var s strings.Builder
	for i, bit := range l {
		if i == 40 {
			s.WriteString(".. of " + strconv.Itoa(len(l)))
			break
		}
		if bit {
			s.WriteByte('1')
		} else {
			s.WriteByte('0')
		}
	}
	return s.String()
}

// all are n bits of one kind.
func all(bit bool, n int) []bool { return slices.Repeat([]bool{bit}, n) }

// with is a row of n bits of which these alone are set.
func with(n int, places ...int) []bool {
	l := make([]bool, n)
	for _, p := range places {
		l[p] = true
	}
	return l
}

// plainVector are the bytes of a vector, by way of one great number whose bits they are.
func plainVector(l []bool) []byte {
	number := new(big.Int)
	for i, bit := range l {
		if bit {
			number.SetBit(number, i, 1)
		}
	}
	b := number.FillBytes(make([]byte, (len(l)+7)/8))
	slices.Reverse(b)
	return b
}

// plainList are the bytes of a list: those of a vector of one bit more.
func plainList(l []bool) []byte { return plainVector(append(slices.Clone(l), true)) }

// numberOf are the bytes as one great number, the lowest first.
func numberOf(b []byte) *big.Int {
	b = slices.Clone(b)
	slices.Reverse(b)
	return new(big.Int).SetBytes(b)
}

// lowest are the n lowest bits of a number.
func lowest(number *big.Int, n int) []bool {
	l := make([]bool, n)
	for i := range l {
		l[i] = number.Bit(i) == 1
	}
	return l
}

// plainReadVector tells in the document's own order what ReadVector answers.
func plainReadVector(b []byte, n int) ([]bool, api.Errno) {
	number := numberOf(b)
	switch {
	case n < 1 || n > 4096:
		return nil, api.ErrArg
	case len(b) != (n+7)/8:
		return nil, api.ErrSize
	case number.BitLen() > n:
		return nil, api.ErrForm
	}
	return lowest(number, n), api.OK
}

// plainReadList tells in the document's own order what ReadList answers.
func plainReadList(b []byte, most int) ([]bool, api.Errno) {
	number := numberOf(b)
	switch {
	case most < 0 || most > 4096:
		return nil, api.ErrArg
	case len(b) == 0:
		return nil, api.ErrSize
	case b[len(b)-1] == 0:
		return nil, api.ErrForm
	case number.BitLen()-1 > most:
		return nil, api.ErrLong
	}
	return lowest(number, number.BitLen()-1), api.OK
}

// wantBits holds an answer against the bits, or none beside an error.
func wantBits(t *testing.T, what string, got []bool, err api.Errno, want []bool, wantErr api.Errno) {
	t.Helper()
	if err != wantErr || !slices.Equal(got, want) {
		t.Errorf("%s: %s, error %d; want %s, error %d", what, show(got), err, show(want), wantErr)
	}
}

func wantBytes(t *testing.T, what string, got, want []byte) {
	t.Helper()
	if !bytes.Equal(got, want) {
		t.Errorf("%s: %x; want %x", what, got, want)
	}
}

// rows are bits of the lengths at which bytes begin and end, all set, none set, the ends alone, and scattered.
func rows() [][]bool {
	r := rand.New(rand.NewPCG(4, 4))
	list := [][]bool{nil, {}}
	for _, n := range []int{1, 2, 6, 7, 8, 9, 10, 15, 16, 17, 23, 24, 25, 31, 32, 33, 63, 64, 65, 511, 512, 513, 4088, 4089, 4095, 4096} {
		list = append(list, all(true, n), all(false, n), with(n, 0), with(n, n-1))
		scattered := make([]bool, n)
		for i := range scattered {
			scattered[i] = r.IntN(2) == 1
		}
		list = append(list, scattered)
	}
	return list
}

// P4.1

func TestVectorAndListExamples(t *testing.T) {
	for _, c := range []struct {
		l, vector, list string
	}{
		{"1 0 1", "05", "0d"},
		{"", "", "01"},
		{"00000000", "00", "00 01"},
		{"0", "00", "02"},
		{"1", "01", "03"},
		{"0000000", "00", "80"},
		{"1111111", "7f", "ff"},
		{"0000001", "40", "c0"},
		{"11111111", "ff", "ff 01"},
		{"10000000", "01", "01 01"},
		{"00000001", "80", "80 01"},
		{"00000000 0", "00 00", "00 02"},
		{"11111111 1", "ff 01", "ff 03"},
		{"00000000 1", "00 01", "00 03"},
		{"10000000 0", "01 00", "01 02"},
		{"01100101 110", "a6 03", "a6 0b"},
		{"00000000 0000000", "00 00", "00 80"},
		{"11111111 1111111", "ff 7f", "ff ff"},
		{"00000000 00000000", "00 00", "00 00 01"},
		{"11111111 11111111", "ff ff", "ff ff 01"},
		{"10000000 01000000 00100000 0001", "01 02 04 08", "01 02 04 18"},
	} {
		wantBytes(t, "Vector of "+c.l, bits.Vector(row(c.l)), text(t, c.vector))
		wantBytes(t, "List of "+c.l, bits.List(row(c.l)), text(t, c.list))
	}
}

func TestVectorAndListOfNothing(t *testing.T) {
	for _, l := range [][]bool{nil, {}, make([]bool, 0, 9)} {
		wantBytes(t, "Vector of nothing", bits.Vector(l), nil)
		wantBytes(t, "List of nothing", bits.List(l), []byte{1})
		if got := bits.Count(l); got != 0 {
			t.Errorf("Count of nothing: %d", got)
		}
	}
}

func TestVectorAndListOf4096(t *testing.T) {
	set := bytes.Repeat([]byte{0xff}, 512)
	none := make([]byte, 512)
	wantBytes(t, "Vector of 4096 set", bits.Vector(all(true, 4096)), set)
	wantBytes(t, "Vector of 4096 not set", bits.Vector(all(false, 4096)), none)
	wantBytes(t, "List of 4096 set", bits.List(all(true, 4096)), append(slices.Clone(set), 1))
	wantBytes(t, "List of 4096 not set", bits.List(all(false, 4096)), append(slices.Clone(none), 1))
}

// TestVectorAndListBeyond4096: the bound is one of what is read; what is laid has none.
func TestVectorAndListBeyond4096(t *testing.T) {
	for _, n := range []int{4097, 4103, 4104, 4105, 100003} {
		for _, l := range [][]bool{all(true, n), all(false, n), with(n, n-1)} {
			wantBytes(t, "Vector of many", bits.Vector(l), plainVector(l))
			wantBytes(t, "List of many", bits.List(l), plainList(l))
			if got, want := bits.Count(l), bytes.Count(row01(l), []byte{1}); got != want {
				t.Errorf("Count of %d: %d; want %d", n, got, want)
			}
		}
	}
}

// row01 are the bits as bytes of 0 and 1.
func row01(l []bool) []byte {
	b := make([]byte, len(l))
	for i, bit := range l {
		if bit {
			b[i] = 1
		}
	}
	return b
}

func TestVectorAndListAgainstOneNumber(t *testing.T) {
	for _, l := range rows() {
		wantBytes(t, "Vector of "+show(l), bits.Vector(l), plainVector(l))
		wantBytes(t, "List of "+show(l), bits.List(l), plainList(l))
	}
}

// TestEachPlace: each bit alone, at each place of vectors and lists of each small length.
func TestEachPlace(t *testing.T) {
	for n := 1; n <= 70; n++ {
		for i := range n {
			l := with(n, i)
			vector := make([]byte, (n+7)/8)
			vector[i/8] = []byte{1, 2, 4, 8, 16, 32, 64, 128}[i%8]
			wantBytes(t, "Vector of "+show(l), bits.Vector(l), vector)
			if n%8 == 0 {
				vector = append(vector, 0)
			}
			vector[n/8] += []byte{1, 2, 4, 8, 16, 32, 64, 128}[n%8]
			wantBytes(t, "List of "+show(l), bits.List(l), vector)
		}
	}
}

func TestCount(t *testing.T) {
	for _, c := range []struct {
		l    []bool
		want int
	}{
		{nil, 0},
		{[]bool{}, 0},
		{row("0"), 0},
		{row("1"), 1},
		{row("101"), 2},
		{row("010"), 1},
		{all(true, 7), 7},
		{all(false, 7), 0},
		{all(true, 8), 8},
		{all(false, 8), 0},
		{all(true, 9), 9},
		{with(9, 8), 1},
		{with(9, 0, 7, 8), 3},
		{all(true, 300), 300},
		{all(true, 4096), 4096},
		{all(false, 4096), 0},
		{with(4096, 0, 4095), 2},
		{all(true, 70000), 70000},
	} {
		if got := bits.Count(c.l); got != c.want {
			t.Errorf("Count of %s: %d; want %d", show(c.l), got, c.want)
		}
	}
}

// P4.2

func TestReadVector(t *testing.T) {
	for _, c := range []struct {
		b    string
		n    int
		want string
	}{
		{"05", 3, "101"},
		{"00", 1, "0"},
		{"01", 1, "1"},
		{"00", 7, "0000000"},
		{"7f", 7, "1111111"},
		{"40", 7, "0000001"},
		{"00", 8, "00000000"},
		{"ff", 8, "11111111"},
		{"80", 8, "00000001"},
		{"00 00", 9, "000000000"},
		{"ff 01", 9, "111111111"},
		{"00 01", 9, "000000001"},
		{"a6 03", 11, "01100101 110"},
		{"01 02 04 08", 28, "10000000 01000000 00100000 0001"},
	} {
		l, err := bits.ReadVector(text(t, c.b), c.n)
		wantBits(t, "ReadVector of "+c.b, l, err, row(c.want), api.OK)
	}
	l, err := bits.ReadVector(bytes.Repeat([]byte{0xff}, 512), 4096)
	wantBits(t, "ReadVector of 4096 set", l, err, all(true, 4096), api.OK)
	l, err = bits.ReadVector(make([]byte, 512), 4096)
	wantBits(t, "ReadVector of 4096 not set", l, err, all(false, 4096), api.OK)
}

func TestReadVectorRefuses(t *testing.T) {
	long := make([]byte, 513)
	for _, c := range []struct {
		name string
		b    []byte
		n    int
		err  api.Errno
	}{
		{"no bits of no bytes", nil, 0, api.ErrArg},
		{"no bits of a byte", []byte{0}, 0, api.ErrArg},
		{"n of -1", nil, -1, api.ErrArg},
		{"n of -8 and a byte", []byte{0xff}, -8, api.ErrArg},
		{"the least n", []byte{1}, math.MinInt, api.ErrArg},
		{"4097 bits of 513 bytes", long, 4097, api.ErrArg},
		{"4097 bits of 512 bytes", long[:512], 4097, api.ErrArg},
		{"4104 bits of 513 bytes", long, 4104, api.ErrArg},
		{"the greatest n", []byte{1}, math.MaxInt, api.ErrArg},
		{"the greatest n and no byte", nil, math.MaxInt, api.ErrArg},
		{"1 bit of no bytes", nil, 1, api.ErrSize},
		{"1 bit of an empty list", []byte{}, 1, api.ErrSize},
		{"8 bits of no bytes", nil, 8, api.ErrSize},
		{"4096 bits of no bytes", nil, 4096, api.ErrSize},
		{"1 bit of 2 bytes", []byte{1, 0}, 1, api.ErrSize},
		{"3 bits of 2 bytes", []byte{1, 1}, 3, api.ErrSize},
		{"7 bits of 2 bytes", []byte{1, 0}, 7, api.ErrSize},
		{"8 bits of 2 bytes", []byte{1, 0}, 8, api.ErrSize},
		{"9 bits of 1 byte", []byte{1}, 9, api.ErrSize},
		{"9 bits of 3 bytes", []byte{1, 1, 0}, 9, api.ErrSize},
		{"16 bits of 1 byte", []byte{1}, 16, api.ErrSize},
		{"16 bits of 3 bytes", []byte{1, 1, 0}, 16, api.ErrSize},
		{"17 bits of 2 bytes", []byte{1, 1}, 17, api.ErrSize},
		{"4096 bits of 511 bytes", long[:511], 4096, api.ErrSize},
		{"4096 bits of 513 bytes", long, 4096, api.ErrSize},
		{"4095 bits of 511 bytes", long[:511], 4095, api.ErrSize},
		{"4095 bits of 513 bytes", long, 4095, api.ErrSize},
		{"4088 bits of 512 bytes", long[:512], 4088, api.ErrSize},
		{"2 bytes and a further bit", []byte{0xff, 0xff}, 3, api.ErrSize},
		{"the example", []byte{0x0d}, 3, api.ErrForm},
		{"the bit behind 1", []byte{2}, 1, api.ErrForm},
		{"the last bit behind 1", []byte{0x80}, 1, api.ErrForm},
		{"the one bit behind 7", []byte{0x80}, 7, api.ErrForm},
		{"all behind 7", []byte{0xff}, 7, api.ErrForm},
		{"the bit behind 9", []byte{0, 2}, 9, api.ErrForm},
		{"the last bit behind 9", []byte{0xff, 0x81}, 9, api.ErrForm},
		{"the one bit behind 15", []byte{0, 0x80}, 15, api.ErrForm},
		{"the one bit behind 4095", append(make([]byte, 511), 0x80), 4095, api.ErrForm},
		{"the bits behind 4089", append(make([]byte, 511), 0xfe), 4089, api.ErrForm},
	} {
		l, err := bits.ReadVector(c.b, c.n)
		wantBits(t, c.name, l, err, nil, c.err)
	}
}

// TestReadVectorFurtherBits: each bit behind the last one, at each length up to three bytes, and at the longest.
func TestReadVectorFurtherBits(t *testing.T) {
	lengths := []int{4089, 4090, 4095, 4096}
	for n := 1; n <= 24; n++ {
		lengths = append(lengths, n)
	}
	for _, n := range lengths {
		room := (n + 7) / 8 * 8
		for i := range room {
			l, err := bits.ReadVector(plainVector(with(room, i)), n)
			if i < n {
				wantBits(t, "a bit of the vector", l, err, with(n, i), api.OK)
			} else {
				wantBits(t, "a further bit", l, err, nil, api.ErrForm)
			}
		}
	}
}

// P4.3

func TestReadList(t *testing.T) {
	for _, c := range []struct {
		b    string
		most int
		want string
	}{
		{"0d", 3, "101"},
		{"0d", 4, "101"},
		{"0d", 4096, "101"},
		{"01", 0, ""},
		{"01", 1, ""},
		{"01", 4096, ""},
		{"02", 1, "0"},
		{"03", 1, "1"},
		{"80", 7, "0000000"},
		{"ff", 7, "1111111"},
		{"c0", 7, "0000001"},
		{"00 01", 8, "00000000"},
		{"ff 01", 8, "11111111"},
		{"80 01", 8, "00000001"},
		{"00 02", 9, "000000000"},
		{"ff 03", 9, "111111111"},
		{"a6 0b", 11, "01100101 110"},
		{"00 80", 15, "00000000 0000000"},
		{"ff ff", 15, "11111111 1111111"},
		{"00 00 01", 16, "00000000 00000000"},
		{"ff ff 01", 16, "11111111 11111111"},
		{"01 02 04 18", 28, "10000000 01000000 00100000 0001"},
	} {
		l, err := bits.ReadList(text(t, c.b), c.most)
		wantBits(t, "ReadList of "+c.b, l, err, row(c.want), api.OK)
	}
	l, err := bits.ReadList(append(bytes.Repeat([]byte{0xff}, 512), 1), 4096)
	wantBits(t, "ReadList of 4096 set", l, err, all(true, 4096), api.OK)
	l, err = bits.ReadList(append(make([]byte, 512), 1), 4096)
	wantBits(t, "ReadList of 4096 not set", l, err, all(false, 4096), api.OK)
	l, err = bits.ReadList(append(make([]byte, 511), 0x80), 4096)
	wantBits(t, "ReadList of 4095 not set", l, err, all(false, 4095), api.OK)
}

func TestReadListRefuses(t *testing.T) {
	zeros := make([]byte, 600)
	behind := func(n int, last byte) []byte { return append(make([]byte, n), last) }
	for _, c := range []struct {
		name string
		b    []byte
		most int
		err  api.Errno
	}{
		{"most of -1", []byte{1}, -1, api.ErrArg},
		{"most of -1 and no bytes", nil, -1, api.ErrArg},
		{"most of -1 and a last byte of 0", []byte{0}, -1, api.ErrArg},
		{"most of -1 and bits", []byte{13}, -1, api.ErrArg},
		{"the least most", []byte{1}, math.MinInt, api.ErrArg},
		{"most of 4097", []byte{1}, 4097, api.ErrArg},
		{"most of 4097 and as many bits", behind(512, 2), 4097, api.ErrArg},
		{"most of 4097 and no bytes", nil, 4097, api.ErrArg},
		{"most of 4097 and a last byte of 0", zeros, 4097, api.ErrArg},
		{"the greatest most", []byte{1}, math.MaxInt, api.ErrArg},
		{"no bytes, most of 0", nil, 0, api.ErrSize},
		{"no bytes", nil, 3, api.ErrSize},
		{"an empty list of bytes", []byte{}, 3, api.ErrSize},
		{"no bytes, most of 4096", nil, 4096, api.ErrSize},
		{"the example 00", []byte{0}, 8, api.ErrForm},
		{"00, most of 0", []byte{0}, 0, api.ErrForm},
		{"01 00", []byte{1, 0}, 8, api.ErrForm},
		{"ff 00", []byte{0xff, 0}, 4096, api.ErrForm},
		{"01 00, most of 0", []byte{1, 0}, 0, api.ErrForm},
		{"too many bytes, the last one 0", zeros, 8, api.ErrForm},
		{"512 bytes and a 0", behind(512, 0), 4096, api.ErrForm},
		{"the example 0d, 2", []byte{0x0d}, 2, api.ErrLong},
		{"1 bit, most of 0", []byte{2}, 0, api.ErrLong},
		{"1 bit that is set, most of 0", []byte{3}, 0, api.ErrLong},
		{"7 bits, most of 6", []byte{0x80}, 6, api.ErrLong},
		{"8 bits, most of 7", []byte{0, 1}, 7, api.ErrLong},
		{"9 bits, most of 8", []byte{0, 2}, 8, api.ErrLong},
		{"15 bits, most of 14", []byte{0, 0x80}, 14, api.ErrLong},
		{"16 bits, most of 15", []byte{0, 0, 1}, 15, api.ErrLong},
		{"4096 bits, most of 4095", behind(512, 1), 4095, api.ErrLong},
		{"4097 bits, most of 4096", behind(512, 2), 4096, api.ErrLong},
		{"4097 bits that are set, most of 4096", append(bytes.Repeat([]byte{0xff}, 512), 3), 4096, api.ErrLong},
		{"4103 bits, most of 4096", behind(512, 0x80), 4096, api.ErrLong},
		{"4104 bits, most of 4096", behind(513, 1), 4096, api.ErrLong},
		{"8000000 bits, most of 4096", behind(1000000, 1), 4096, api.ErrLong},
		{"8000000 bits, most of 0", behind(1000000, 1), 0, api.ErrLong},
	} {
		l, err := bits.ReadList(c.b, c.most)
		wantBits(t, c.name, l, err, nil, c.err)
	}
}

// TestReadListAtItsMost: just most and one more bits, whichever bit of a byte the one behind them is.
func TestReadListAtItsMost(t *testing.T) {
	lengths := []int{4087, 4088, 4089, 4095, 4096}
	for n := range 34 {
		lengths = append(lengths, n)
	}
	for _, n := range lengths {
		for _, l := range [][]bool{all(true, n), all(false, n)} {
			b := plainList(l)
			got, err := bits.ReadList(b, n)
			wantBits(t, "just most bits", got, err, l, api.OK)
			got, err = bits.ReadList(b, 4096)
			wantBits(t, "fewer than most bits", got, err, l, api.OK)
			if n > 0 {
				got, err = bits.ReadList(b, n-1)
				wantBits(t, "one more bit than most", got, err, nil, api.ErrLong)
			}
		}
	}
}

// P4.4

func TestThereAndBack(t *testing.T) {
	for _, l := range rows() {
		got, err := bits.ReadList(bits.List(l), len(l))
		wantBits(t, "ReadList of List", got, err, l, api.OK)
		if len(l) > 0 {
			got, err = bits.ReadVector(bits.Vector(l), len(l))
			wantBits(t, "ReadVector of Vector", got, err, l, api.OK)
		}
	}
}

// eachBytes calls f with all bytes of up to two, and with those of three whose first one is of a few kinds.
func eachBytes(f func(b []byte)) {
	f(nil)
	for x := range 1 << 8 {
		f([]byte{byte(x)})
	}
	for x := range 1 << 16 {
		f([]byte{byte(x), byte(x >> 8)})
	}
	for x := range 1 << 16 {
		f([]byte{byte(x >> 3), byte(x), byte(x >> 8)})
	}
}

// TestVectorsAreOneToOne: of all bytes just those are read that Vector answers for what is read.
func TestVectorsAreOneToOne(t *testing.T) {
	for _, n := range []int{1, 2, 5, 7, 8, 9, 12, 15, 16, 17, 20, 23, 24} {
		taken := 0
		eachBytes(func(b []byte) {
			l, err := bits.ReadVector(b, n)
			want, wantErr := plainReadVector(b, n)
			if err != wantErr || !slices.Equal(l, want) {
				t.Fatalf("ReadVector of %x, %d: %s, error %d; want %s, error %d", b, n, show(l), err, show(want), wantErr)
			}
			if err != api.OK {
				return
			}
			taken++
			if again := bits.Vector(l); !bytes.Equal(again, b) {
				t.Fatalf("Vector of ReadVector of %x, %d: %x", b, n, again)
			}
		})
		if n <= 16 && taken != 1<<n {
			t.Errorf("%d vectors of %d bits", taken, n)
		}
	}
}

// TestListsAreOneToOne: likewise for lists; of the 2^16 less 1 lists of up to 15 bits each is read once.
func TestListsAreOneToOne(t *testing.T) {
	taken := 0
	eachBytes(func(b []byte) {
		for _, most := range []int{0, 2, 7, 8, 15, 20, 4096} {
			l, err := bits.ReadList(b, most)
			want, wantErr := plainReadList(b, most)
			if err != wantErr || !slices.Equal(l, want) {
				t.Fatalf("ReadList of %x, %d: %s, error %d; want %s, error %d", b, most, show(l), err, show(want), wantErr)
			}
			if err != api.OK {
				continue
			}
			if most == 15 {
				taken++
			}
			if again := bits.List(l); !bytes.Equal(again, b) {
				t.Fatalf("List of ReadList of %x: %x", b, again)
			}
		}
	})
	if taken != 1<<16-1 {
		t.Errorf("%d lists of up to 15 bits", taken)
	}
}

// TestAllBitsHaveBytesOfTheirOwn: no two lists of up to 12 bits, and no two vectors of one length, have the same bytes.
func TestAllBitsHaveBytesOfTheirOwn(t *testing.T) {
	lists := map[string]int{}
	for n := range 13 {
		vectors := map[string]int{}
		for x := range 1 << n {
			l := lowest(big.NewInt(int64(x)), n)
			lists[string(bits.List(l))]++
			vectors[string(bits.Vector(l))]++
		}
		if len(vectors) != 1<<n {
			t.Errorf("%d bytes for the vectors of %d bits", len(vectors), n)
		}
	}
	if len(lists) != 1<<13-1 {
		t.Errorf("%d bytes for the lists of up to 12 bits", len(lists))
	}
}

// roomy is a copy of l with spare room in which bits of both kinds stand.
func roomy[T any](l []T, one, two T) []T {
	wide := append(slices.Clone(l), slices.Repeat([]T{one, two}, 32)...)
	return wide[:len(l)]
}

// whole is a list with all its spare room.
func whole[T any](l []T) []T { return l[:cap(l)] }

// ownAnswer holds that a call changes neither what is handed in nor its spare room, and keeps none of it.
func ownAnswer[A, B comparable](t *testing.T, what string, handed []A, call func([]A) []B, otherA func(A) A, otherB func(B) B) {
	t.Helper()
	before := slices.Clone(whole(handed))
	got := call(handed)
	want := slices.Clone(got)
	second := call(handed)
	if !slices.Equal(second, want) {
		t.Errorf("%s answered otherwise the second time", what)
	}
	if !slices.Equal(whole(handed), before) {
		t.Errorf("%s changed what was handed in", what)
	}
	for i, x := range whole(handed) {
		whole(handed)[i] = otherA(x)
	}
	if !slices.Equal(got, want) || !slices.Equal(second, want) {
		t.Errorf("%s answered memory that was handed in", what)
	}
	copy(whole(handed), before)
	for i, x := range whole(got) {
		whole(got)[i] = otherB(x)
	}
	if !slices.Equal(whole(handed), before) {
		t.Errorf("%s: what is answered reaches what was handed in", what)
	}
	if !slices.Equal(second, want) || !slices.Equal(call(handed), want) {
		t.Errorf("%s: two answers share memory", what)
	}
}

func TestWhatIsHandedInStays(t *testing.T) {
	flip := func(bit bool) bool { return !bit }
	turn := func(x byte) byte { return ^x }
	for _, l := range rows() {
		// Whichever bit were written behind the last one, it would be another in one of the two.
		for _, handed := range [][]bool{roomy(l, true, false), roomy(l, false, true)} {
			ownAnswer(t, "Vector", handed, bits.Vector, flip, turn)
			ownAnswer(t, "List", handed, bits.List, flip, turn)
			ownAnswer(t, "Count", handed, func(l []bool) []int { return []int{bits.Count(l)} }, flip, func(n int) int { return n + 1 })
		}
		vector := roomy(plainVector(l), 0xee, 0x01)
		ownAnswer(t, "ReadVector", vector, func(b []byte) []bool { got, _ := bits.ReadVector(b, len(l)); return got }, turn, flip)
		list := roomy(plainList(l), 0xee, 0x01)
		ownAnswer(t, "ReadList", list, func(b []byte) []bool { got, _ := bits.ReadList(b, len(l)); return got }, turn, flip)
	}
}

// TestRefusedBytesStay: refused ones aren't changed either.
func TestRefusedBytesStay(t *testing.T) {
	for _, b := range [][]byte{{}, {0}, {0x0d}, {0xff, 0xff}, {1, 0}, {0xff, 0xff, 0xff}} {
		handed := roomy(b, 0xee, 0x01)
		before := slices.Clone(whole(handed))
		for _, n := range []int{-1, 0, 2, 9, 4097} {
			bits.ReadVector(handed, n)
			bits.ReadList(handed, n)
		}
		wantBytes(t, "refused bytes", whole(handed), before)
	}
}

// TestSpareRoomIsNotRead: what stands behind the bytes and the bits is no part of them.
func TestSpareRoomIsNotRead(t *testing.T) {
	b := []byte{5, 1}
	l, err := bits.ReadVector(b[:1], 3)
	wantBits(t, "ReadVector", l, err, row("101"), api.OK)
	l, err = bits.ReadList(b[:1], 3)
	wantBits(t, "ReadList", l, err, row("10"), api.OK)
	l, err = bits.ReadList(b[:0], 3)
	wantBits(t, "ReadList of no bytes", l, err, nil, api.ErrSize)
	set := row("1011")
	wantBytes(t, "Vector", bits.Vector(set[:2]), []byte{1})
	wantBytes(t, "List", bits.List(set[:2]), []byte{5})
	if got := bits.Count(set[:2]); got != 1 {
		t.Errorf("Count: %d", got)
	}
}

// TestReadsAgainstThePlainOnes: arguments of all kinds, those at which nothing may panic among them.
func TestReadsAgainstThePlainOnes(t *testing.T) {
	r := rand.New(rand.NewPCG(1, 4))
	numbers := []int{math.MinInt, math.MinInt + 1, math.MinInt32, -4096, -8, -1, 0, 1, 2, 3, 7, 8, 9, 15, 16, 17, 64, 65, 4088, 4089, 4095, 4096, 4097, 4104, 65536, math.MaxInt32, math.MaxInt - 7, math.MaxInt - 1, math.MaxInt}
	for range 60000 {
		n := numbers[r.IntN(len(numbers))]
		if r.IntN(2) == 0 {
			n = r.IntN(100)
		}
		length := r.IntN(12)
		if r.IntN(8) == 0 {
			length = 509 + r.IntN(6)
		}
		b := make([]byte, length)
		for i := range b {
			b[i] = byte(r.IntN(256) >> r.IntN(9))
		}
		l, err := bits.ReadVector(b, n)
		want, wantErr := plainReadVector(b, n)
		wantBits(t, "ReadVector", l, err, want, wantErr)
		l, err = bits.ReadList(b, n)
		want, wantErr = plainReadList(b, n)
		wantBits(t, "ReadList", l, err, want, wantErr)
	}
}
