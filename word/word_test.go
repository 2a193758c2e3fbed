package word_test

import (
	"math"
	"math/big"
	"testing"

	"pharos/api"
	"pharos/word"
)

const top = math.MaxUint64

// edges are the numbers around each power of two, where carries and bounds lie.
func edges() []uint64 {
	list := []uint64{0, 3, 5, 7, 10, 255, 258, 1000000007, 3 << 61, top - 1, top}
	for i := range 64 {
		p := uint64(1) << i
		list = append(list, p-1, p, p+1)
	}
	return list
}

// scattered are numbers of all lengths from a fixed rule, the same at each run.
func scattered(count int) []uint64 {
	list := make([]uint64, count)
	x := uint64(0x9e3779b97f4a7c15)
	for i := range list {
		x ^= x << 13
		x ^= x >> 7
		x ^= x << 17
		list[i] = x >> (i % 64)
	}
	return list
}

func numbers() []uint64 { return append(edges(), scattered(128)...) }

func bigOf(n uint64) *big.Int { return new(big.Int).SetUint64(n) }

// expect is what an exact result must be answered as.
func expect(exact *big.Int) (uint64, api.Errno) {
	if !exact.IsUint64() {
		return 0, api.ErrOver
	}
	return exact.Uint64(), api.OK
}

// P1.1

func TestAddSubMulExamples(t *testing.T) {
	calls := []struct {
		name string
		call func(a, b uint64) (uint64, api.Errno)
		a, b uint64
		want uint64
		err  api.Errno
	}{
		{"Add", word.Add, 2, 3, 5, api.OK},
		{"Add", word.Add, 0, 0, 0, api.OK},
		{"Add", word.Add, top, 0, top, api.OK},
		{"Add", word.Add, top - 1, 1, top, api.OK},
		{"Add", word.Add, 1 << 63, 1<<63 - 1, top, api.OK},
		{"Add", word.Add, top, 1, 0, api.ErrOver},
		{"Add", word.Add, 1, top, 0, api.ErrOver},
		{"Add", word.Add, 1 << 63, 1 << 63, 0, api.ErrOver},
		{"Add", word.Add, top, top, 0, api.ErrOver},
		{"Sub", word.Sub, 5, 3, 2, api.OK},
		{"Sub", word.Sub, 5, 5, 0, api.OK},
		{"Sub", word.Sub, top, top, 0, api.OK},
		{"Sub", word.Sub, top, 0, top, api.OK},
		{"Sub", word.Sub, 3, 5, 0, api.ErrOver},
		{"Sub", word.Sub, 0, 1, 0, api.ErrOver},
		{"Sub", word.Sub, 0, top, 0, api.ErrOver},
		{"Mul", word.Mul, 6, 7, 42, api.OK},
		{"Mul", word.Mul, 0, top, 0, api.OK},
		{"Mul", word.Mul, top, 0, 0, api.OK},
		{"Mul", word.Mul, 1, top, top, api.OK},
		{"Mul", word.Mul, 1<<32 - 1, 1<<32 + 1, top, api.OK},
		{"Mul", word.Mul, 1 << 32, 1 << 32, 0, api.ErrOver},
		{"Mul", word.Mul, 1 << 63, 2, 0, api.ErrOver},
		{"Mul", word.Mul, 1<<63 + 1, 2, 0, api.ErrOver},
		{"Mul", word.Mul, top, top, 0, api.ErrOver},
	}
	for _, c := range calls {
		if got, err := c.call(c.a, c.b); got != c.want || err != c.err {
			t.Errorf("%s(%d, %d): %d, %d; want %d, %d", c.name, c.a, c.b, got, err, c.want, c.err)
		}
	}
}

func TestAddSubMulLessAgainstExact(t *testing.T) {
	list := numbers()
	for _, a := range list {
		for _, b := range list {
			want, wantErr := expect(new(big.Int).Add(bigOf(a), bigOf(b)))
			if got, err := word.Add(a, b); got != want || err != wantErr {
				t.Fatalf("Add(%d, %d): %d, %d; want %d, %d", a, b, got, err, want, wantErr)
			}
			want, wantErr = expect(new(big.Int).Mul(bigOf(a), bigOf(b)))
			if got, err := word.Mul(a, b); got != want || err != wantErr {
				t.Fatalf("Mul(%d, %d): %d, %d; want %d, %d", a, b, got, err, want, wantErr)
			}
			want, wantErr = expect(new(big.Int).Sub(bigOf(a), bigOf(b)))
			if got, err := word.Sub(a, b); got != want || err != wantErr {
				t.Fatalf("Sub(%d, %d): %d, %d; want %d, %d", a, b, got, err, want, wantErr)
			}
			// Less answers 0 just where Sub refuses, and expect answers 0 there too.
			if got := word.Less(a, b); got != want {
				t.Fatalf("Less(%d, %d): %d; want %d", a, b, got, want)
			}
		}
	}
}

func TestLess(t *testing.T) {
	for _, c := range [][3]uint64{
		{5, 3, 2}, {3, 5, 0}, {4, 4, 0}, {0, 0, 0}, {0, 1, 0}, {0, top, 0}, {1, 0, 1},
		{top, 0, top}, {top, 1, top - 1}, {top, top, 0}, {top - 1, top, 0},
	} {
		if got := word.Less(c[0], c[1]); got != c[2] {
			t.Errorf("Less(%d, %d): %d; want %d", c[0], c[1], got, c[2])
		}
	}
}

// P1.2

func TestMulDivExamples(t *testing.T) {
	for _, c := range []struct {
		a, b, c uint64
		want    uint64
		err     api.Errno
	}{
		{1 << 63, 8, 4, 0, api.ErrOver},
		{1 << 63, 3, 4, 3 << 61, api.OK},
		{7, 3, 2, 10, api.OK},
		{5, 1, 6, 0, api.OK},
		{0, 0, 1, 0, api.OK},
		{0, top, top, 0, api.OK},
		{top, top, top, top, api.OK},
		{top, 1, 1, top, api.OK},
		{top, top, top - 1, 0, api.ErrOver},
		{top, top, 1, 0, api.ErrOver},
		{1 << 32, 1 << 32, 1, 0, api.ErrOver},
		{1 << 32, 1 << 32, 2, 1 << 63, api.OK},
		{1 << 63, 2, 1, 0, api.ErrOver},
		{1 << 63, 3, 2, 3 << 62, api.OK},
		{top, 2, 2, top, api.OK},
		{top, 3, 2, 0, api.ErrOver},
		{1, 1, 0, 0, api.ErrZero},
		{0, 0, 0, 0, api.ErrZero},
		{top, top, 0, 0, api.ErrZero},
	} {
		if got, err := word.MulDiv(c.a, c.b, c.c); got != c.want || err != c.err {
			t.Errorf("MulDiv(%d, %d, %d): %d, %d; want %d, %d", c.a, c.b, c.c, got, err, c.want, c.err)
		}
	}
}

func TestMulDivAgainstExact(t *testing.T) {
	list := append(edges(), scattered(16)...)
	divisors := []uint64{0, 1, 2, 3, 4, 10, 64, 1000000007, 1 << 32, 1<<32 + 1, 1<<63 - 1, 1 << 63, top - 1, top}
	for _, a := range list {
		for _, b := range list {
			product := new(big.Int).Mul(bigOf(a), bigOf(b))
			// The divisors around the bound of what fits: the high half of the product.
			high := new(big.Int).Rsh(product, 64).Uint64()
			for _, c := range append([]uint64{a, b, high, high + 1}, divisors...) {
				want, wantErr := uint64(0), api.ErrZero
				if c != 0 {
					want, wantErr = expect(new(big.Int).Div(product, bigOf(c)))
				}
				if got, err := word.MulDiv(a, b, c); got != want || err != wantErr {
					t.Fatalf("MulDiv(%d, %d, %d): %d, %d; want %d, %d", a, b, c, got, err, want, wantErr)
				}
			}
		}
	}
}

// P1.3

func TestRootExamples(t *testing.T) {
	for _, c := range [][2]uint64{
		{0, 0}, {1, 1}, {2, 1}, {3, 1}, {4, 2}, {8, 2}, {9, 3}, {15, 3}, {16, 4}, {top, 4294967295},
		{4294967295 * 4294967295, 4294967295}, {4294967295*4294967295 - 1, 4294967294},
		{1 << 62, 1 << 31}, {1<<62 - 1, 1<<31 - 1}, {1 << 63, 3037000499},
	} {
		if got := word.Root(c[0]); got != c[1] {
			t.Errorf("Root(%d): %d; want %d", c[0], got, c[1])
		}
	}
}

func TestRootOfSmallNumbers(t *testing.T) {
	root := uint64(0)
	for n := range uint64(1 << 17) {
		if (root+1)*(root+1) == n {
			root++
		}
		if got := word.Root(n); got != root {
			t.Fatalf("Root(%d): %d; want %d", n, got, root)
		}
	}
}

func TestRootAroundSquares(t *testing.T) {
	for _, x := range numbers() {
		r := x&(1<<32-1) | 1
		square := r * r
		if got := word.Root(square); got != r {
			t.Errorf("Root(%d): %d; want %d", square, got, r)
		}
		if got := word.Root(square - 1); got != r-1 {
			t.Errorf("Root(%d): %d; want %d", square-1, got, r-1)
		}
		// The last number ahead of the next square, which is at most 2^64 - 1.
		if got := word.Root(square + 2*r); got != r {
			t.Errorf("Root(%d): %d; want %d", square+2*r, got, r)
		}
	}
}

func TestRootAgainstExact(t *testing.T) {
	for _, n := range append(edges(), scattered(20000)...) {
		if got, want := word.Root(n), new(big.Int).Sqrt(bigOf(n)).Uint64(); got != want {
			t.Fatalf("Root(%d): %d; want %d", n, got, want)
		}
	}
}

// P1.4

func TestBytesExamples(t *testing.T) {
	for _, c := range []struct {
		n uint64
		b [8]byte
	}{
		{0, [8]byte{}},
		{1, [8]byte{1}},
		{258, [8]byte{2, 1}},
		{1 << 63, [8]byte{7: 128}},
		{0x0807060504030201, [8]byte{1, 2, 3, 4, 5, 6, 7, 8}},
		{0xf1e2d3c4b5a69788, [8]byte{0x88, 0x97, 0xa6, 0xb5, 0xc4, 0xd3, 0xe2, 0xf1}},
		{top, [8]byte{255, 255, 255, 255, 255, 255, 255, 255}},
	} {
		if got := word.Bytes(c.n); got != c.b {
			t.Errorf("Bytes(%d): %v; want %v", c.n, got, c.b)
		}
		if got, err := word.Read(c.b[:]); got != c.n || err != api.OK {
			t.Errorf("Read(%v): %d, %d; want %d", c.b, got, err, c.n)
		}
	}
}

func TestReadUndoesBytes(t *testing.T) {
	for _, n := range numbers() {
		b := word.Bytes(n)
		if got, err := word.Read(b[:]); got != n || err != api.OK {
			t.Errorf("Read(Bytes(%d)): %d, %d", n, got, err)
		}
	}
}

func TestReadOfOtherSizes(t *testing.T) {
	full := []byte{1, 2, 3, 4, 5, 6, 7, 8, 9, 10, 11, 12, 13, 14, 15, 16, 17}
	for size := range len(full) + 1 {
		if size == 8 {
			continue
		}
		if got, err := word.Read(full[:size]); got != 0 || err != api.ErrSize {
			t.Errorf("Read of %d bytes: %d, %d; want 0, ErrSize", size, got, err)
		}
	}
	if got, err := word.Read(nil); got != 0 || err != api.ErrSize {
		t.Errorf("Read(nil): %d, %d; want 0, ErrSize", got, err)
	}
}

func TestReadLeavesItsBytes(t *testing.T) {
	all := []byte{1, 2, 3, 4, 5, 6, 7, 8, 9, 10}
	if got, err := word.Read(all[1:9]); got != 0x0908070605040302 || err != api.OK {
		t.Errorf("Read of a piece: %#x, %d", got, err)
	}
	for i, x := range all {
		if int(x) != i+1 {
			t.Fatalf("Read changed its bytes: %v", all)
		}
	}
}

// P1.5

func TestJoin(t *testing.T) {
	for _, c := range []struct {
		re, im uint64
		want   complex128
		err    api.Errno
	}{
		{3, 4, 3 + 4i, api.OK},
		{0, 0, 0, api.OK},
		{1, 0, 1, api.OK},
		{0, 1, 1i, api.OK},
		{1 << 53, 1 << 53, complex(1<<53, 1<<53), api.OK},
		{1<<53 - 1, 7, complex(1<<53-1, 7), api.OK},
		{7, 1<<53 - 1, complex(7, 1<<53-1), api.OK},
		{1<<53 + 1, 0, 0, api.ErrOver},
		{0, 1<<53 + 1, 0, api.ErrOver},
		{1<<53 + 1, 1<<53 + 1, 0, api.ErrOver},
		{1<<53 + 2, 5, 0, api.ErrOver},
		{5, 1<<53 + 2, 0, api.ErrOver},
		{1 << 54, 0, 0, api.ErrOver},
		{top, 1, 0, api.ErrOver},
		{1, top, 0, api.ErrOver},
	} {
		if got, err := word.Join(c.re, c.im); got != c.want || err != c.err {
			t.Errorf("Join(%d, %d): %v, %d; want %v, %d", c.re, c.im, got, err, c.want, c.err)
		}
	}
}

func TestPartsOfPairs(t *testing.T) {
	below := math.Copysign(0, -1)
	for _, c := range []struct {
		pair   complex128
		re, im uint64
	}{
		{3 + 4i, 3, 4},
		{0, 0, 0},
		{complex(below, below), 0, 0},
		{complex(below, 2), 0, 2},
		{complex(2, below), 2, 0},
		{complex(1<<53, 0), 1 << 53, 0},
		{complex(0, 1<<53), 0, 1 << 53},
		{complex(1<<53-1, 1<<53-2), 1<<53 - 1, 1<<53 - 2},
	} {
		if re, im, err := word.Parts(c.pair); re != c.re || im != c.im || err != api.OK {
			t.Errorf("Parts(%v): %d, %d, %d; want %d, %d", c.pair, re, im, err, c.re, c.im)
		}
	}
}

func TestPartsRefused(t *testing.T) {
	for _, x := range []float64{
		0.5, -0.5, 1.5, -1, -3, 1<<52 - 0.5, 1<<53 + 2, 1 << 63, 1 << 64, 1e300, -1e300,
		math.SmallestNonzeroFloat64, -math.SmallestNonzeroFloat64, math.MaxFloat64,
		math.NaN(), math.Inf(1), math.Inf(-1),
	} {
		for _, pair := range []complex128{complex(x, 0), complex(0, x), complex(x, 5), complex(5, x), complex(x, x)} {
			if re, im, err := word.Parts(pair); re != 0 || im != 0 || err != api.ErrArg {
				t.Errorf("Parts(%v): %d, %d, %d; want ErrArg", pair, re, im, err)
			}
		}
	}
}

func TestPartsUndoJoin(t *testing.T) {
	list := numbers()
	for _, re := range list {
		for _, im := range list {
			pair, err := word.Join(re, im)
			if re > 1<<53 || im > 1<<53 {
				if pair != 0 || err != api.ErrOver {
					t.Fatalf("Join(%d, %d): %v, %d; want ErrOver", re, im, pair, err)
				}
				continue
			}
			if err != api.OK {
				t.Fatalf("Join(%d, %d): %d", re, im, err)
			}
			if gotRe, gotIm, err := word.Parts(pair); gotRe != re || gotIm != im || err != api.OK {
				t.Fatalf("Parts(Join(%d, %d)): %d, %d, %d", re, im, gotRe, gotIm, err)
			}
		}
	}
}

func TestSumsOfPairsAreExact(t *testing.T) {
	one, _ := word.Join(1<<53-5, 9)
	two, _ := word.Join(5, 1<<53-9)
	if re, im, err := word.Parts(one + two); re != 1<<53 || im != 1<<53 || err != api.OK {
		t.Errorf("sum: %d, %d, %d; want 2^53 twice", re, im, err)
	}
	// A part of a sum beyond 2^53 that a float64 still holds is refused.
	if re, im, err := word.Parts(one + two + 2); re != 0 || im != 0 || err != api.ErrArg {
		t.Errorf("sum above 2^53: %d, %d, %d; want ErrArg", re, im, err)
	}
}
