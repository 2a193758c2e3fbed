package merkle_test

import (
	"bytes"
	"crypto/sha256"
	"encoding/binary"
	"encoding/hex"
	"fmt"
	"math"
	"math/rand/v2"
	"slices"
	"strings"
	"testing"
	"time"

	"pharos/api"
	"pharos/merkle"
	"pharos/sha"
)

const greatest = 1 << 40

// root reads a root as the document writes it.
func root(t *testing.T, s string) api.Root {
	t.Helper()
	b, err := hex.DecodeString(strings.ReplaceAll(s, " ", ""))
	if err != nil || len(b) != 32 {
		t.Fatal(s, err)
	}
	return api.Root(b)
}

// two is the hash of two roots, by the library.
func two(a, b api.Root) api.Root { return sha256.Sum256(slices.Concat(a[:], b[:])) }

// zeroOf is the zero root, as its definition says it.
func zeroOf(depth int) api.Root {
	if depth == 0 {
		return api.Root{}
	}
	below := zeroOf(depth - 1)
	return two(below, below)
}

// widthOf a limit, by doubling.
func widthOf(limit int) (width, depth int) {
	width = 1
	for width < limit {
		width *= 2
		depth++
	}
	return width, depth
}

// filled are the chunks with as many zero ones behind them as make them n.
func filled(chunks []api.Root, n int) []api.Root {
	return append(slices.Clone(chunks), make([]api.Root, n-len(chunks))...)
}

// halves is the root of a full row of chunks, half by half.
func halves(row []api.Root) api.Root {
	if len(row) == 1 {
		return row[0]
	}
	half := len(row) / 2
	return two(halves(row[:half]), halves(row[half:]))
}

// plainTree is a tree's root by the definition, for widths that can be written out.
func plainTree(chunks []api.Root, limit int) api.Root {
	width, _ := widthOf(limit)
	return halves(filled(chunks, width))
}

// plainBranch are the roots beside the way, from the root down: of each half that the way goes into, the other one's root.
func plainBranch(chunks []api.Root, limit, i int) []api.Root {
	width, _ := widthOf(limit)
	var branch []api.Root
	for row := filled(chunks, width); len(row) > 1; {
		half := len(row) / 2
		if i < half {
			branch = append(branch, halves(row[half:]))
			row = row[:half]
		} else {
			branch = append(branch, halves(row[:half]))
			row = row[half:]
			i -= half
		}
	}
	slices.Reverse(branch)
	return branch
}

// wideTree is a tree's root for limits of any size: whole halves without chunks are zero roots.
func wideTree(chunks []api.Root, depth int) api.Root {
	if len(chunks) == 0 {
		return zeroOf(depth)
	}
	if depth == 0 {
		return chunks[0]
	}
	half := min(1<<(depth-1), len(chunks))
	return two(wideTree(chunks[:half], depth-1), wideTree(chunks[half:], depth-1))
}

// wideBranch likewise, from the root down.
func wideBranch(chunks []api.Root, depth, i int) []api.Root {
	branch := make([]api.Root, depth)
	for depth > 0 {
		depth--
		half := 1 << depth
		cut := min(half, len(chunks))
		if i < half {
			branch[depth] = wideTree(chunks[cut:], depth)
			chunks = chunks[:cut]
		} else {
			branch[depth] = wideTree(chunks[:cut], depth)
			chunks = chunks[cut:]
			i -= half
		}
	}
	return branch
}

// some are n chunks, no two alike and none of them zero.
func some(n int) []api.Root {
	chunks := make([]api.Root, n)
	for i := range chunks {
		chunks[i] = sha256.Sum256(fmt.Append(nil, "chunk", i))
	}
	return chunks
}

func wantRoot(t *testing.T, what string, got api.Root, err api.Errno, want api.Root, wantErr api.Errno) {
	t.Helper()
	if got != want || err != wantErr {
		t.Errorf("%s: %x, error %d; want %x, error %d", what, got, err, want, wantErr)
	}
}

func wantRoots(t *testing.T, what string, got []api.Root, err api.Errno, want []api.Root, wantErr api.Errno) {
	t.Helper()
	if !slices.Equal(got, want) || err != wantErr {
		t.Errorf("%s: %x, error %d; want %x, error %d", what, got, err, want, wantErr)
	}
}

// P5.1

func TestZero(t *testing.T) {
	for _, c := range []struct {
		depth int
		want  string
	}{
		{0, "00000000 00000000 00000000 00000000 00000000 00000000 00000000 00000000"},
		{1, "f5a5fd42 d16a2030 2798ef6e d309979b 43003d23 20d9f0e8 ea9831a9 2759fb4b"},
		{2, "db56114e 00fdd4c1 f85c892b f35ac9a8 9289aaec b1ebd0a9 6cde606a 748b5d71"},
	} {
		got, err := merkle.Zero(c.depth)
		wantRoot(t, fmt.Sprint("Zero of ", c.depth), got, err, root(t, c.want), api.OK)
	}
	for depth := range 41 {
		got, err := merkle.Zero(depth)
		wantRoot(t, fmt.Sprint("Zero of ", depth), got, err, zeroOf(depth), api.OK)
	}
}

func TestZeroRefuses(t *testing.T) {
	for _, depth := range []int{-1, -2, -40, math.MinInt32, math.MinInt, 41, 42, 64, 256, math.MaxInt32, math.MaxInt} {
		got, err := merkle.Zero(depth)
		wantRoot(t, fmt.Sprint("Zero of ", depth), got, err, api.Root{}, api.ErrArg)
	}
}

func TestPack(t *testing.T) {
	if got := merkle.Pack(nil); len(got) != 0 {
		t.Errorf("Pack of nil: %x", got)
	}
	if got := merkle.Pack([]byte{}); len(got) != 0 {
		t.Errorf("Pack of no bytes: %x", got)
	}
	for _, c := range []struct{ length, chunks int }{
		{1, 1}, {2, 1}, {31, 1}, {32, 1}, {33, 2}, {63, 2}, {64, 2}, {65, 3}, {95, 3}, {96, 3}, {97, 4}, {1000, 32}, {1024, 32}, {1025, 33},
	} {
		b := bytes.Repeat([]byte{0xa5, 0x5a, 0xff, 0x01, 0x77}, c.length)[:c.length]
		got := merkle.Pack(b)
		if len(got) != c.chunks {
			t.Errorf("Pack of %d bytes: %d chunks; want %d", c.length, len(got), c.chunks)
			continue
		}
		var joined []byte
		for _, chunk := range got {
			joined = append(joined, chunk[:]...)
		}
		if want := append(slices.Clone(b), make([]byte, 32*c.chunks-c.length)...); !bytes.Equal(joined, want) {
			t.Errorf("Pack of %d bytes: %x", c.length, joined)
		}
	}
}

func TestPackOfOneByte(t *testing.T) {
	got := merkle.Pack([]byte{7})
	wantRoots(t, "Pack of 07", got, api.OK, []api.Root{{7}}, api.OK)
	got = merkle.Pack(make([]byte, 33))
	wantRoots(t, "Pack of 33 zeros", got, api.OK, []api.Root{{}, {}}, api.OK)
}

func TestMix(t *testing.T) {
	roots := append(some(3), api.Root{}, zeroOf(1))
	numbers := []uint64{0, 1, 3, 255, 256, 65535, 1 << 16, 0x0102030405060708, 1 << 56, 1 << 63, math.MaxUint64 - 1, math.MaxUint64}
	for _, r := range roots {
		for _, n := range numbers {
			var number api.Root
			binary.LittleEndian.PutUint64(number[:], n)
			if got, want := merkle.Mix(r, n), two(r, number); got != want {
				t.Errorf("Mix of %x, %d: %x; want %x", r, n, got, want)
			}
		}
	}
	if got := merkle.Mix(api.Root{}, 0); got != zeroOf(1) {
		t.Errorf("Mix of nothing: %x", got)
	}
}

// P5.2

func TestTreeExamples(t *testing.T) {
	l := some(3)
	a, b, c, zero := l[0], l[1], l[2], api.Root{}
	for _, e := range []struct {
		name   string
		chunks []api.Root
		limit  int
		want   api.Root
		err    api.Errno
	}{
		{"none, 0", nil, 0, zero, api.OK},
		{"none, 1", nil, 1, zero, api.OK},
		{"none, 2", nil, 2, zeroOf(1), api.OK},
		{"none, 3", nil, 3, zeroOf(2), api.OK},
		{"none, 4", nil, 4, zeroOf(2), api.OK},
		{"none, 5", nil, 5, zeroOf(3), api.OK},
		{"none, 2^40 - 1", nil, greatest - 1, zeroOf(40), api.OK},
		{"none, 2^40", nil, greatest, zeroOf(40), api.OK},
		{"none, 2^39", nil, greatest / 2, zeroOf(39), api.OK},
		{"none, 2^39 + 1", nil, greatest/2 + 1, zeroOf(40), api.OK},
		{"an empty list, 2", []api.Root{}, 2, zeroOf(1), api.OK},
		{"a, 1", l[:1], 1, a, api.OK},
		{"a, 2", l[:1], 2, two(a, zero), api.OK},
		{"a, 3", l[:1], 3, two(two(a, zero), zeroOf(1)), api.OK},
		{"a b, 2", l[:2], 2, two(a, b), api.OK},
		{"a b, 3", l[:2], 3, two(two(a, b), zeroOf(1)), api.OK},
		{"a b c, 3", l, 3, two(two(a, b), two(c, zero)), api.OK},
		{"a b c, 4", l, 4, two(two(a, b), two(c, zero)), api.OK},
		{"a b c, 5", l, 5, two(two(two(a, b), two(c, zero)), zeroOf(2)), api.OK},
		{"three, 2", l, 2, zero, api.ErrLong},
		{"two, 1", l[:2], 1, zero, api.ErrLong},
		{"one, 0", l[:1], 0, zero, api.ErrLong},
		{"three, 0", l, 0, zero, api.ErrLong},
		{"none, -1", nil, -1, zero, api.ErrArg},
		{"three, -1", l, -1, zero, api.ErrArg},
		{"none, 2^40 + 1", nil, greatest + 1, zero, api.ErrArg},
		{"three, 2^40 + 1", l, greatest + 1, zero, api.ErrArg},
		{"three, 2^41", l, 2 * greatest, zero, api.ErrArg},
		{"none, the least", nil, math.MinInt, zero, api.ErrArg},
		{"three, the greatest", l, math.MaxInt, zero, api.ErrArg},
	} {
		got, err := merkle.Tree(e.chunks, e.limit)
		wantRoot(t, "Tree of "+e.name, got, err, e.want, e.err)
	}
}

// TestTreeAgainstHalves: all limits up to 70, with each number of chunks that they take, and one more.
func TestTreeAgainstHalves(t *testing.T) {
	l := some(71)
	for limit := range 71 {
		for n := range limit + 1 {
			got, err := merkle.Tree(l[:n], limit)
			wantRoot(t, fmt.Sprint("Tree of ", n, ", ", limit), got, err, plainTree(l[:n], limit), api.OK)
		}
		got, err := merkle.Tree(l[:limit+1], limit)
		wantRoot(t, fmt.Sprint("Tree of one more than ", limit), got, err, api.Root{}, api.ErrLong)
	}
}

// TestTreeOfZeroChunks: chunks that are zero are chunks as others are.
func TestTreeOfZeroChunks(t *testing.T) {
	for n := range 34 {
		got, err := merkle.Tree(make([]api.Root, n), 33)
		wantRoot(t, fmt.Sprint("Tree of zeros, ", n), got, err, zeroOf(6), api.OK)
	}
	_, err := merkle.Tree(make([]api.Root, 34), 33)
	if err != api.ErrLong {
		t.Errorf("one zero chunk more: error %d", err)
	}
}

func TestTreeOfGreatLimits(t *testing.T) {
	l := some(1030)
	for _, n := range []int{0, 1, 2, 3, 4, 5, 7, 8, 9, 31, 32, 33, 100, 1023, 1024, 1025, 1030} {
		for _, limit := range []int{1030, 2048, 2049, 1 << 16, 1<<16 + 1, 1 << 31, 1<<31 + 1, 1 << 32, 1<<32 + 5, greatest / 2, greatest/2 + 1, greatest - 1, greatest} {
			_, depth := widthOf(limit)
			got, err := merkle.Tree(l[:n], limit)
			wantRoot(t, fmt.Sprint("Tree of ", n, ", ", limit), got, err, wideTree(l[:n], depth), api.OK)
		}
	}
}

// leastTime that one of several runs takes: the others may have been held up.
func leastTime(run func()) time.Duration {
	least := time.Duration(math.MaxInt64)
	for range 7 {
		start := time.Now()
		run()
		least = min(least, time.Since(start))
	}
	return least
}

// TestGreatLimitsAreCheap: a great limit over few chunks takes about as many hashes as there are chunks, and the depth.
func TestGreatLimitsAreCheap(t *testing.T) {
	l := some(2000)
	hashes := leastTime(func() {
		for i := range 2000 {
			l[i] = sha.Two(l[i], l[i])
		}
	})
	for _, n := range []int{0, 1, 2, 2000} {
		// Few chunks are told often, so that what is measured is as long as the 2000 hashes are.
		times := 2000 / (n + 80)
		tree := leastTime(func() {
			for range max(times, 1) {
				merkle.Tree(l[:n], greatest)
			}
		})
		branch := leastTime(func() {
			for range max(times, 1) {
				merkle.Branch(l[:n], greatest, greatest-1)
			}
		})
		if tree > 8*hashes || branch > 8*hashes {
			t.Errorf("%d chunks of 2^40: the tree takes %v, a branch %v, as many hashes %v", n, tree, branch, hashes)
		}
	}
}

// P5.3

func TestBranchExamples(t *testing.T) {
	l := some(3)
	a, b, c, zero := l[0], l[1], l[2], api.Root{}
	for _, e := range []struct {
		name     string
		chunks   []api.Root
		limit, i int
		want     []api.Root
	}{
		{"none, 0, 0", nil, 0, 0, nil},
		{"none, 1, 0", nil, 1, 0, nil},
		{"a, 1, 0", l[:1], 1, 0, nil},
		{"none, 2, 0", nil, 2, 0, []api.Root{zero}},
		{"none, 2, 1", nil, 2, 1, []api.Root{zero}},
		{"a, 2, 0", l[:1], 2, 0, []api.Root{zero}},
		{"a, 2, 1", l[:1], 2, 1, []api.Root{a}},
		{"a b, 2, 0", l[:2], 2, 0, []api.Root{b}},
		{"a b c, 4, 0", l, 4, 0, []api.Root{b, two(c, zero)}},
		{"a b c, 4, 1", l, 4, 1, []api.Root{a, two(c, zero)}},
		{"a b c, 4, 2", l, 4, 2, []api.Root{zero, two(a, b)}},
		{"a b c, 4, 3", l, 4, 3, []api.Root{c, two(a, b)}},
		{"a b c, 3, 3", l, 3, 3, []api.Root{c, two(a, b)}},
		{"a b c, 5, 7", l, 5, 7, []api.Root{zero, zeroOf(1), two(two(a, b), two(c, zero))}},
	} {
		got, err := merkle.Branch(e.chunks, e.limit, e.i)
		wantRoots(t, "Branch of "+e.name, got, err, e.want, api.OK)
	}
}

func TestBranchRefuses(t *testing.T) {
	l := some(5)
	for _, e := range []struct {
		name     string
		n        int
		limit, i int
		err      api.Errno
	}{
		{"a limit of -1", 0, -1, 0, api.ErrArg},
		{"a limit of -1 and chunks", 3, -1, 0, api.ErrArg},
		{"the least limit", 0, math.MinInt, 0, api.ErrArg},
		{"a limit of 2^40 + 1", 3, greatest + 1, 0, api.ErrArg},
		{"the greatest limit", 3, math.MaxInt, 0, api.ErrArg},
		{"i of -1", 3, 4, -1, api.ErrArg},
		{"i of -1, a limit of 0", 0, 0, -1, api.ErrArg},
		{"the least i", 3, 4, math.MinInt, api.ErrArg},
		{"the least i, a great limit", 3, greatest, math.MinInt, api.ErrArg},
		{"i at the width of 0", 0, 0, 1, api.ErrArg},
		{"i at the width of 1", 1, 1, 1, api.ErrArg},
		{"i at the width of 2", 2, 2, 2, api.ErrArg},
		{"i at the width of 3", 3, 3, 4, api.ErrArg},
		{"i at the width of 4", 3, 4, 4, api.ErrArg},
		{"i at the width of 5", 3, 5, 8, api.ErrArg},
		{"i above the width", 3, 4, 6, api.ErrArg},
		{"i at the width of 2^40", 3, greatest, greatest, api.ErrArg},
		{"i at the width of 2^39", 3, greatest / 2, greatest / 2, api.ErrArg},
		{"the greatest i", 3, 4, math.MaxInt, api.ErrArg},
		{"the greatest i, a great limit", 3, greatest, math.MaxInt, api.ErrArg},
		{"too many chunks and i at the width", 5, 4, 4, api.ErrArg},
		{"too many chunks and i of -1", 5, 4, -1, api.ErrArg},
		{"a chunk, a limit of 0, i of 1", 1, 0, 1, api.ErrArg},
		{"a chunk, a limit of 0", 1, 0, 0, api.ErrLong},
		{"two chunks, a limit of 1", 2, 1, 0, api.ErrLong},
		{"three chunks, a limit of 2", 3, 2, 1, api.ErrLong},
		{"four chunks, a limit of 3", 4, 3, 3, api.ErrLong},
		{"five chunks, a limit of 4", 5, 4, 3, api.ErrLong},
	} {
		got, err := merkle.Branch(l[:e.n], e.limit, e.i)
		wantRoots(t, e.name, got, err, nil, e.err)
	}
}

// TestBranchAgainstHalves: each place of all small trees, those behind the last chunk and behind the limit too.
func TestBranchAgainstHalves(t *testing.T) {
	l := some(18)
	for limit := range 18 {
		width, _ := widthOf(limit)
		for n := range limit + 1 {
			for i := range width {
				got, err := merkle.Branch(l[:n], limit, i)
				wantRoots(t, fmt.Sprint("Branch of ", n, ", ", limit, ", ", i), got, err, plainBranch(l[:n], limit, i), api.OK)
			}
			got, err := merkle.Branch(l[:n], limit, width)
			wantRoots(t, "Branch at the width", got, err, nil, api.ErrArg)
		}
		for i := range width {
			got, err := merkle.Branch(l[:limit+1], limit, i)
			wantRoots(t, "Branch of one more", got, err, nil, api.ErrLong)
		}
	}
}

func TestBranchOfGreatLimits(t *testing.T) {
	l := some(130)
	for _, n := range []int{0, 1, 2, 3, 5, 64, 127, 128, 129, 130} {
		for _, limit := range []int{130, 256, 1 << 16, 1<<31 + 1, greatest / 2, greatest/2 + 1, greatest - 1, greatest} {
			width, depth := widthOf(limit)
			for _, i := range []int{0, 1, n - 1, n, n + 1, 129, 200, width/2 - 1, width / 2, width - 2, width - 1} {
				if i < 0 {
					continue
				}
				got, err := merkle.Branch(l[:n], limit, i)
				wantRoots(t, fmt.Sprint("Branch of ", n, ", ", limit, ", ", i), got, err, wideBranch(l[:n], depth, i), api.OK)
			}
		}
	}
}

// P5.4

// climb is what comes out of a leaf: the place is told by its bits, the lowest first.
func climb(leaf api.Root, branch []api.Root, set func(d int) bool) api.Root {
	for d, beside := range branch {
		if set(d) {
			leaf = two(beside, leaf)
		} else {
			leaf = two(leaf, beside)
		}
	}
	return leaf
}

func bitsOf(place uint64) func(d int) bool {
	return func(d int) bool { return place>>d&1 == 1 }
}

func TestHoldsExamples(t *testing.T) {
	l := some(4)
	a, b, c := l[0], l[1], l[2]
	zero := api.Root{}
	top := two(two(a, b), two(c, zero))
	branch := []api.Root{zero, two(a, b)}
	for _, e := range []struct {
		name   string
		leaf   api.Root
		branch []api.Root
		place  uint64
		root   api.Root
		want   bool
	}{
		{"c at 2", c, branch, 2, top, true},
		{"c at 0", c, branch, 0, top, false},
		{"c at 1", c, branch, 1, top, false},
		{"c at 3", c, branch, 3, top, false},
		{"a further bit of the place", c, branch, 6, top, true},
		{"the highest bit of the place", c, branch, 1<<63 | 2, top, true},
		{"all further bits of the place", c, branch, math.MaxUint64 - 1, top, true},
		{"all bits of the place", c, branch, math.MaxUint64, top, false},
		{"a wrong leaf", a, branch, 2, top, false},
		{"the zero leaf", zero, branch, 2, top, false},
		{"a wrong root", c, branch, 2, two(a, b), false},
		{"the zero root", c, branch, 2, zero, false},
		{"a root one bit off", c, branch, 2, api.Root(append(top[:31:31], top[31]^1)), false},
		{"the branch the other way round", c, []api.Root{two(a, b), zero}, 2, top, false},
		{"a root of the branch is missing", c, branch[:1], 2, top, false},
		{"one root too many", c, append(slices.Clone(branch), zero), 2, top, false},
		{"the leaf of a branch of no roots", top, nil, 0, top, true},
		{"the same with a place", top, nil, 5, top, true},
		{"an empty branch", top, []api.Root{}, math.MaxUint64, top, true},
		{"another leaf of no roots", c, nil, 0, top, false},
		{"zeros and no roots", zero, nil, 0, zero, true},
	} {
		if got := merkle.Holds(e.leaf, e.branch, e.place, e.root); got != e.want {
			t.Errorf("Holds, %s: %v; want %v", e.name, got, e.want)
		}
	}
}

// TestHoldsLengths: branches of each length up to 64 hold, longer ones never.
func TestHoldsLengths(t *testing.T) {
	l := some(70)
	leaf := sha256.Sum256([]byte("leaf"))
	places := []uint64{0, 1, 2, 0xaaaaaaaaaaaaaaaa, 0x5555555555555555, 1 << 63, 1<<63 - 1, math.MaxUint64}
	for n := range 65 {
		for _, place := range places {
			top := climb(leaf, l[:n], bitsOf(place))
			if !merkle.Holds(leaf, l[:n], place, top) {
				t.Errorf("a branch of %d roots at %x doesn't hold", n, place)
			}
			if n > 0 && merkle.Holds(leaf, l[:n], place^1<<(n-1), top) {
				t.Errorf("a branch of %d roots at %x holds with its highest bit turned", n, place)
			}
			if n < 64 && !merkle.Holds(leaf, l[:n], place^1<<n, top) {
				t.Errorf("a branch of %d roots at %x doesn't hold with the first further bit turned", n, place)
			}
		}
	}
	for _, n := range []int{65, 66, 70} {
		for _, place := range places {
			// Whichever way further bits were read, none of these holds.
			for _, set := range []func(d int) bool{
				func(d int) bool { return d < 64 && place>>d&1 == 1 },
				func(d int) bool { return place>>(d%64)&1 == 1 },
				func(d int) bool { return d >= 64 || place>>d&1 == 1 },
			} {
				if merkle.Holds(leaf, l[:n], place, climb(leaf, l[:n], set)) {
					t.Errorf("a branch of %d roots at %x holds", n, place)
				}
			}
			if merkle.Holds(leaf, l[:n], place, climb(leaf, l[:64], bitsOf(place))) {
				t.Errorf("the first 64 roots of %d at %x hold", n, place)
			}
		}
	}
	if merkle.Holds(leaf, make([]api.Root, 65), 0, leaf) {
		t.Error("65 zero roots hold for the leaf")
	}
}

// TestHoldsAtOnePlaceAlone: of all places of a small tree a branch holds at its own.
func TestHoldsAtOnePlaceAlone(t *testing.T) {
	l := some(16)
	top := halves(l)
	for i := range l {
		branch := plainBranch(l, 16, i)
		for place := range uint64(64) {
			for j, leaf := range l {
				want := i == j && place%16 == uint64(i)
				if got := merkle.Holds(leaf, branch, place, top); got != want {
					t.Errorf("the branch of %d, the leaf %d, the place %d: %v", i, j, place, got)
				}
			}
		}
	}
}

// P5.5

// TestBranchesHold: a branch leads from its chunk to the tree's root, and from nothing else.
func TestBranchesHold(t *testing.T) {
	l := some(40)
	for _, n := range []int{0, 1, 2, 3, 4, 7, 8, 9, 16, 17, 31, 32, 33, 40} {
		for _, limit := range []int{n, n + 1, 40, 64, 100, 1 << 20, greatest - 1, greatest} {
			width, depth := widthOf(limit)
			top, err := merkle.Tree(l[:n], limit)
			if err != api.OK {
				t.Fatal(n, limit, err)
			}
			places := []int{width - 1, width / 2}
			for i := range min(width, 42) {
				places = append(places, i)
			}
			for _, i := range places {
				chunk := api.Root{}
				if i < n {
					chunk = l[i]
				}
				branch, err := merkle.Branch(l[:n], limit, i)
				if err != api.OK || len(branch) != depth || !merkle.Holds(chunk, branch, uint64(i), top) {
					t.Errorf("the branch of %d of %d chunks, limit %d, doesn't hold", i, n, limit)
				}
				if merkle.Holds(api.Root{1}, branch, uint64(i), top) || merkle.Holds(chunk, branch, uint64(i), api.Root{1}) {
					t.Errorf("the branch of %d of %d chunks, limit %d, holds of another chunk or root", i, n, limit)
				}
				for d := range depth {
					// Where both sides are alike it holds at both places, as it must.
					same := climb(chunk, branch[:d], bitsOf(uint64(i))) == branch[d]
					if merkle.Holds(chunk, branch, uint64(i)^1<<d, top) != same {
						t.Errorf("the branch of %d of %d chunks, limit %d, at another place, bit %d", i, n, limit, d)
					}
				}
			}
		}
	}
}

// roomy is a copy of l with spare room in which both values stand.
func roomy[T any](l []T, one, other T) []T {
	wide := append(slices.Clone(l), slices.Repeat([]T{one, other}, 32)...)
	return wide[:len(l)]
}

// whole is a list with all its spare room.
func whole[T any](l []T) []T { return l[:cap(l)] }

// ownAnswer holds that a call changes neither what is handed in nor its spare room, and keeps none of it.
func ownAnswer[A comparable](t *testing.T, what string, handed []A, call func([]A) []api.Root, other A) {
	t.Helper()
	before := slices.Clone(whole(handed))
	got := call(handed)
	want := slices.Clone(got)
	second := call(handed)
	if !slices.Equal(second, want) {
		t.Errorf("%s answered otherwise the second time", what)
	}
	if !slices.Equal(whole(handed), before) {
		t.Errorf("%s changed what was handed in", what)
	}
	for i := range whole(handed) {
		whole(handed)[i] = other
	}
	if !slices.Equal(got, want) || !slices.Equal(second, want) {
		t.Errorf("%s answered memory that was handed in", what)
	}
	copy(whole(handed), before)
	for i := range whole(got) {
		whole(got)[i] = api.Root{0xbb, 31: 0xbb}
	}
	if !slices.Equal(whole(handed), before) {
		t.Errorf("%s: what is answered reaches what was handed in", what)
	}
	if !slices.Equal(second, want) || !slices.Equal(call(handed), want) {
		t.Errorf("%s: two answers share memory", what)
	}
}

func TestWhatIsHandedInStays(t *testing.T) {
	l := some(70)
	other := api.Root{0xcc, 31: 0xcc}
	for _, n := range []int{0, 1, 2, 3, 4, 5, 8, 9, 33, 64, 70} {
		// A zero chunk that were filled in behind the last one would be seen in one of the two.
		for _, handed := range [][]api.Root{roomy(l[:n], api.Root{}, api.Root{1}), roomy(l[:n], api.Root{1}, api.Root{})} {
			for _, limit := range []int{n, n + 1, 100, greatest} {
				width, _ := widthOf(limit)
				ownAnswer(t, "Tree", handed, func(l []api.Root) []api.Root { r, _ := merkle.Tree(l, limit); return []api.Root{r} }, other)
				for _, i := range []int{0, n / 2, width - 1} {
					ownAnswer(t, "Branch", handed, func(l []api.Root) []api.Root { b, _ := merkle.Branch(l, limit, i); return b }, other)
				}
			}
			ownAnswer(t, "Holds", handed, func(l []api.Root) []api.Root {
				if merkle.Holds(other, l, 0x5a, climb(other, l, bitsOf(0x5a))) {
					return []api.Root{{1}}
				}
				return []api.Root{{}}
			}, api.Root{2})
		}
	}
	for _, n := range []int{0, 1, 31, 32, 33, 64, 65} {
		for _, handed := range [][]byte{roomy(bytes.Repeat([]byte{7}, n), 0, 1), roomy(bytes.Repeat([]byte{7}, n), 1, 0)} {
			ownAnswer(t, "Pack", handed, merkle.Pack, 0xcc)
		}
	}
}

// TestRefusedChunksStay: refused ones aren't changed either.
func TestRefusedChunksStay(t *testing.T) {
	handed := roomy(some(5), api.Root{}, api.Root{1})
	before := slices.Clone(whole(handed))
	for _, limit := range []int{-1, 0, 4, greatest + 1} {
		merkle.Tree(handed, limit)
		for _, i := range []int{-1, 0, 3, 9} {
			merkle.Branch(handed, limit, i)
		}
	}
	merkle.Holds(api.Root{}, whole(handed), 1, api.Root{})
	if !slices.Equal(whole(handed), before) {
		t.Error("refused chunks were changed")
	}
}

// TestSpareRoomIsNotRead: what stands behind the chunks and the bytes is no part of them.
func TestSpareRoomIsNotRead(t *testing.T) {
	l := some(8)
	for n := range l {
		got, err := merkle.Tree(l[:n], 8)
		want, _ := merkle.Tree(slices.Clip(slices.Clone(l[:n])), 8)
		wantRoot(t, "Tree", got, err, want, api.OK)
		branch, err := merkle.Branch(l[:n], 8, 7)
		plain, _ := merkle.Branch(slices.Clip(slices.Clone(l[:n])), 8, 7)
		wantRoots(t, "Branch", branch, err, plain, api.OK)
	}
	b := bytes.Repeat([]byte{9}, 64)
	wantRoots(t, "Pack", merkle.Pack(b[:1]), api.OK, []api.Root{{9}}, api.OK)
}

// TestAgainstThePlainOnes: arguments of all kinds, those at which nothing may panic among them.
func TestAgainstThePlainOnes(t *testing.T) {
	r := rand.New(rand.NewPCG(5, 5))
	l := some(20)
	numbers := []int{math.MinInt, math.MinInt + 1, math.MinInt32, -8, -1, 0, 1, 2, 3, 4, 5, 15, 16, 17, 31, 32, 1 << 31, greatest/2 - 1, greatest / 2, greatest/2 + 1, greatest - 1, greatest, greatest + 1, 2 * greatest, math.MaxInt - 1, math.MaxInt}
	for range 6000 {
		n, limit, i := r.IntN(len(l)+1), numbers[r.IntN(len(numbers))], numbers[r.IntN(len(numbers))]
		if r.IntN(2) == 0 {
			limit = r.IntN(40)
		}
		if r.IntN(2) == 0 {
			i = r.IntN(40)
		}
		var wantTree api.Root
		var wantBranch []api.Root
		treeErr, branchErr := api.ErrArg, api.ErrArg
		if limit >= 0 && limit <= greatest {
			width, depth := widthOf(limit)
			treeErr = api.ErrLong
			if n <= limit {
				treeErr, wantTree = api.OK, wideTree(l[:n], depth)
			}
			if i >= 0 && i < width {
				branchErr = treeErr
			}
			if branchErr == api.OK {
				wantBranch = wideBranch(l[:n], depth, i)
			}
		}
		got, err := merkle.Tree(l[:n], limit)
		wantRoot(t, fmt.Sprint("Tree of ", n, ", ", limit), got, err, wantTree, treeErr)
		branch, err := merkle.Branch(l[:n], limit, i)
		wantRoots(t, fmt.Sprint("Branch of ", n, ", ", limit, ", ", i), branch, err, wantBranch, branchErr)
	}
}
