package sha_test

import (
	"bytes"
	"crypto/sha256"
	"encoding/hex"
	"slices"
	"strings"
	"sync"
	"testing"

	"pharos/api"
	"pharos/sha"
)

const (
	ofNothing = "e3b0c442 98fc1c14 9afbf4c8 996fb924 27ae41e4 649b934c a495991b 7852b855"
	ofABC     = "ba7816bf 8f01cfea 414140de 5dae2223 b00361a3 96177a9c b410ff61 f20015ad"
	ofZeros   = "f5a5fd42 d16a2030 2798ef6e d309979b 43003d23 20d9f0e8 ea9831a9 2759fb4b"
)

// root reads a sum as the document writes it.
func root(t *testing.T, text string) api.Root {
	t.Helper()
	b, err := hex.DecodeString(strings.ReplaceAll(text, " ", ""))
	if err != nil || len(b) != 32 {
		t.Fatalf("no root: %s", text)
	}
	return api.Root(b)
}

// message is of bytes from a fixed rule, the same at each run.
func message(size int) []byte {
	b := make([]byte, size)
	x := uint64(0x9e3779b97f4a7c15)
	for i := range b {
		x ^= x << 13
		x ^= x >> 7
		x ^= x << 17
		b[i] = byte(x >> 32)
	}
	return b
}

func exact(b []byte) api.Root { return sha256.Sum256(b) }

// edges are lengths around which the padding takes another block, or the last block is just full.
func edges() []int {
	return []int{0, 1, 2, 3, 4, 31, 32, 33, 54, 55, 56, 57, 62, 63, 64, 65, 118, 119, 120, 121, 126, 127, 128, 129, 183, 184, 191, 192, 193}
}

// written is a digest of these pieces.
func written(pieces ...[]byte) *sha.Digest {
	d := sha.New()
	for _, p := range pieces {
		d.Write(p)
	}
	return d
}

// P2.1

func TestSumExamples(t *testing.T) {
	for _, c := range []struct {
		text string
		sum  string
	}{
		{"", ofNothing},
		{"abc", ofABC},
		{"abcdbcdecdefdefgefghfghighijhijkijkljklmklmnlmnomnopnopq", "248d6a61 d20638b8 e5c02693 0c3e6039 a33ce459 64ff2167 f6ecedd4 19db06c1"},
		{"abcdefghbcdefghicdefghijdefghijkefghijklfghijklmghijklmnhijklmnoijklmnopjklmnopqklmnopqrlmnopqrsmnopqrstnopqrstu", "cf5b16a7 78af8380 036ce59e 7b049237 0b249b11 e8f07a51 afac4503 7afee9d1"},
		{strings.Repeat("a", 1000000), "cdc76e5c 9914fb92 81a1c7e2 84d73e67 f1809a48 a497200e 046d39cc c7112cd0"},
		{strings.Repeat("\x00", 64), ofZeros},
	} {
		if got := sha.Sum([]byte(c.text)); got != root(t, c.sum) {
			t.Errorf("Sum of %d bytes: %x; want %s", len(c.text), got, c.sum)
		}
	}
	if sha.Sum(nil) != root(t, ofNothing) || sha.Sum([]byte{}) != root(t, ofNothing) {
		t.Error("Sum of nil and of an empty list must be that of nothing")
	}
}

func TestSumAgainstExact(t *testing.T) {
	all := message(2000)
	for size := range 600 {
		if got, want := sha.Sum(all[:size]), exact(all[:size]); got != want {
			t.Fatalf("Sum of %d bytes: %x; want %x", size, got, want)
		}
	}
	for _, size := range []int{1023, 1024, 1025, 1999, 2000} {
		if got, want := sha.Sum(all[:size]), exact(all[:size]); got != want {
			t.Errorf("Sum of %d bytes: %x; want %x", size, got, want)
		}
	}
}

func TestSumOfOneByteRepeated(t *testing.T) {
	for _, x := range []byte{0, 1, 127, 128, 255} {
		for _, size := range edges() {
			b := bytes.Repeat([]byte{x}, size)
			if got, want := sha.Sum(b), exact(b); got != want {
				t.Errorf("Sum of %d bytes %d: %x; want %x", size, x, got, want)
			}
		}
	}
}

func TestSumOfEachSingleBit(t *testing.T) {
	for _, size := range []int{32, 55, 64} {
		for bit := range 8 * size {
			b := make([]byte, size)
			b[bit/8] = 1 << (bit % 8)
			if got, want := sha.Sum(b), exact(b); got != want {
				t.Fatalf("Sum of %d bytes with the bit %d: %x; want %x", size, bit, got, want)
			}
		}
	}
}

func TestTwoExamples(t *testing.T) {
	if got := sha.Two(api.Root{}, api.Root{}); got != root(t, ofZeros) {
		t.Errorf("Two of zero hashes: %x; want %s", got, ofZeros)
	}
	one := root(t, ofZeros)
	want := root(t, "db56114e 00fdd4c1 f85c892b f35ac9a8 9289aaec b1ebd0a9 6cde606a 748b5d71")
	if got := sha.Two(one, one); got != want {
		t.Errorf("Two of those: %x; want %x", got, want)
	}
}

func TestTwoAgainstExact(t *testing.T) {
	all := message(6400)
	for len(all) > 0 {
		a, b := api.Root(all[:32]), api.Root(all[32:64])
		if got, want := sha.Two(a, b), exact(all[:64]); got != want {
			t.Fatalf("Two(%x, %x): %x; want %x", a, b, got, want)
		}
		if sha.Two(a, b) == sha.Two(b, a) {
			t.Fatalf("Two(%x, %x) is the same the other way round", a, b)
		}
		all = all[64:]
	}
}

// P2.2

func TestNewIsOfNothing(t *testing.T) {
	d := sha.New()
	if d == nil {
		t.Fatal("New answers nil")
	}
	if got := d.Sum(); got != root(t, ofNothing) {
		t.Errorf("a new digest: %x; want %s", got, ofNothing)
	}
	d.Write(nil)
	d.Write([]byte{})
	if got := d.Sum(); got != root(t, ofNothing) {
		t.Errorf("behind empty pieces: %x; want %s", got, ofNothing)
	}
}

func TestNewDigestsAreApart(t *testing.T) {
	one, two := sha.New(), sha.New()
	one.Write([]byte("abc"))
	if two.Sum() != root(t, ofNothing) || sha.New().Sum() != root(t, ofNothing) {
		t.Error("what is written into one digest is seen in another")
	}
	two.Write(message(64))
	if one.Sum() != root(t, ofABC) || two.Sum() != exact(message(64)) {
		t.Error("two digests touch each other")
	}
}

func TestWriteInTwoPieces(t *testing.T) {
	all := message(200)
	for _, size := range edges() {
		for cut := range size + 1 {
			if got, want := written(all[:cut], all[cut:size]).Sum(), exact(all[:size]); got != want {
				t.Fatalf("%d bytes, cut at %d: %x; want %x", size, cut, got, want)
			}
		}
	}
}

func TestWriteInEqualPieces(t *testing.T) {
	all := message(700)
	want := exact(all)
	for _, size := range append(edges(), 300, 699, 700) {
		if size == 0 {
			continue
		}
		if got := written(slices.Collect(slices.Chunk(all, size))...).Sum(); got != want {
			t.Errorf("pieces of %d bytes: %x; want %x", size, got, want)
		}
	}
}

func TestWriteInGrowingPieces(t *testing.T) {
	all := message(5000)
	d := sha.New()
	done := 0
	for size := 0; done+size <= len(all); size++ {
		d.Write(all[done : done+size])
		done += size
		d.Write(nil)
		if got, want := d.Sum(), exact(all[:done]); got != want {
			t.Fatalf("behind the piece of %d bytes: %x; want %x", size, got, want)
		}
	}
}

func TestSumIsAskedBetween(t *testing.T) {
	all := message(300)
	d := sha.New()
	for i := range all {
		for range 2 {
			if got, want := d.Sum(), exact(all[:i]); got != want {
				t.Fatalf("behind %d bytes: %x; want %x", i, got, want)
			}
		}
		d.Write(all[i : i+1])
	}
	if d.Sum() != exact(all) || d.Sum() != exact(all) {
		t.Error("Sum at the end")
	}
}

func TestCopyGoesItsOwnWay(t *testing.T) {
	all := message(200)
	more, other := bytes.Repeat([]byte{7}, 130), bytes.Repeat([]byte{9}, 70)
	for _, size := range edges() {
		b := all[:size]
		d := written(b)
		c := d.Copy()
		if c == nil || c == d {
			t.Fatalf("Copy behind %d bytes: not another digest", size)
		}
		if c.Sum() != exact(b) {
			t.Errorf("Copy behind %d bytes is of something else", size)
		}
		d.Write(more)
		if d.Sum() != exact(slices.Concat(b, more)) || c.Sum() != exact(b) {
			t.Errorf("%d bytes: what is written into the digest is seen in its copy", size)
		}
		c.Write(other)
		if d.Sum() != exact(slices.Concat(b, more)) || c.Sum() != exact(slices.Concat(b, other)) {
			t.Errorf("%d bytes: what is written into the copy is seen in the digest", size)
		}
		again := c.Copy()
		c.Write(more)
		if again.Sum() != exact(slices.Concat(b, other)) || c.Sum() != exact(slices.Concat(b, other, more)) {
			t.Errorf("%d bytes: a copy of the copy", size)
		}
	}
}

func TestCopyByteByByte(t *testing.T) {
	d := written([]byte("a"))
	c := d.Copy()
	d.Write([]byte("bc"))
	if d.Sum() != root(t, ofABC) || c.Sum() != exact([]byte("a")) {
		t.Error("a copy behind one byte")
	}
	c.Write([]byte("b"))
	c.Write([]byte("c"))
	if c.Sum() != root(t, ofABC) {
		t.Error("the copy goes on to the same bytes")
	}
}

func TestNilDigest(t *testing.T) {
	var d *sha.Digest
	for _, b := range [][]byte{nil, {}, {1}, message(64), message(200)} {
		d.Write(b)
		if got := d.Sum(); got != root(t, ofNothing) {
			t.Errorf("Sum of a nil digest behind Write of %d bytes: %x; want %s", len(b), got, ofNothing)
		}
		if c := d.Copy(); c != nil {
			t.Errorf("Copy of a nil digest: %v; want nil", c)
		}
	}
	if sha.New().Sum() != root(t, ofNothing) {
		t.Error("what was written into a nil digest is seen in a new one")
	}
}

// The length of more than 2^29 bytes doesn't fit in 32 bits any more.
func TestLengthAbove32Bits(t *testing.T) {
	if testing.Short() {
		t.Skip("half a gigabyte of bytes")
	}
	piece := message(1<<20 + 1)
	mine, theirs := sha.New(), sha256.New()
	for range 1<<9 + 1 {
		mine.Write(piece)
		theirs.Write(piece)
	}
	if got := mine.Sum(); got != api.Root(theirs.Sum(nil)) {
		t.Errorf("Sum behind more than 2^32 bits: %x", got)
	}
}

// P2.3

func TestWhatIsHandedInStays(t *testing.T) {
	for _, size := range edges() {
		all := message(size + 100)
		before := bytes.Clone(all)
		// The spare room behind the piece belongs to the caller too.
		b := all[10 : 10+size]
		sha.Sum(b)
		d := sha.New()
		d.Write(b)
		d.Write(b)
		d.Sum()
		d.Copy().Write(b)
		if !bytes.Equal(all, before) {
			t.Errorf("bytes around %d that were handed in have changed", size)
		}
	}
	a, b := api.Root(message(32)), api.Root(message(64)[32:])
	wasA, wasB := a, b
	sha.Two(a, b)
	if a != wasA || b != wasB {
		t.Error("Two changed its hashes")
	}
}

func TestWhatIsHandedInIsNotKept(t *testing.T) {
	for _, size := range edges() {
		b := message(size)
		d := written(b)
		c := d.Copy()
		want := exact(b)
		for i := range b {
			b[i] ^= 255
		}
		if d.Sum() != want || c.Sum() != want {
			t.Errorf("%d bytes that change behind Write are seen in the digest", size)
		}
	}
}

func TestAnswersAreOfTheirOwn(t *testing.T) {
	d := written([]byte("abc"))
	first := d.Sum()
	first[0] ^= 255
	if d.Sum() != root(t, ofABC) || sha.Sum([]byte("abc")) != root(t, ofABC) {
		t.Error("an answer that the caller changes is seen in the next one")
	}
}

// Sums of one digest may be asked side by side: asking leaves no trace in it.
func TestSumSideBySide(t *testing.T) {
	d := written(message(119))
	want := exact(message(119))
	var group sync.WaitGroup
	for range 4 {
		group.Go(func() {
			for range 100 {
				if d.Sum() != want || d.Copy().Sum() != want {
					t.Error("sums asked side by side differ")
					return
				}
			}
		})
	}
	group.Wait()
}

func BenchmarkTwo(b *testing.B) {
	var r api.Root
	for b.Loop() {
		r = sha.Two(r, r)
	}
}

func BenchmarkSum(b *testing.B) {
	m := message(1 << 20)
	b.SetBytes(1 << 20)
	for b.Loop() {
		sha.Sum(m)
	}
}
