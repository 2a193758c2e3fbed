package tree_test

import (
	"crypto/sha256"
	"fmt"
	"math"
	"math/rand/v2"
	"runtime"
	"slices"
	"sync"
	"testing"
	"time"

	"pharos/api"
	"pharos/merkle"
	"pharos/tree"
)

const greatest = 1 << 30

// two is the hash of two roots, by the library.
func two(a, b api.Root) api.Root { return sha256.Sum256(slices.Concat(a[:], b[:])) }

// zeroOf is the zero root, as its definition says it.
func zeroOf(depth int) api.Root {
	if depth == 0 {
		return api.Root{}
	}
	below := zeroOf(depth - 1)
	return two(below, below)
}

// depthOf a limit, by doubling.
func depthOf(limit int) int {
	depth := 0
	for width := 1; width < limit; width *= 2 {
		depth++
	}
	return depth
}

// plainRoot is the root of leaves in a tree of a depth, half by half: whole halves without leaves are zero roots.
func plainRoot(leaves []api.Root, depth int) api.Root {
	if len(leaves) == 0 {
		return zeroOf(depth)
	}
	if depth == 0 {
		return leaves[0]
	}
	half := min(1<<(depth-1), len(leaves))
	return two(plainRoot(leaves[:half], depth-1), plainRoot(leaves[half:], depth-1))
}

// leaf of a number: no two are alike and none is zero.
func leaf(n int) api.Root { return sha256.Sum256(fmt.Append(nil, "leaf", n)) }

func leaves(n int) []api.Root {
	l := make([]api.Root, n)
	for i := range l {
		l[i] = leaf(i)
	}
	return l
}

// planted is a tree with these leaves.
func planted(t *testing.T, limit int, l []api.Root) *tree.Tree {
	t.Helper()
	x := tree.New(limit)
	if x == nil {
		t.Fatalf("New(%d) is nil", limit)
	}
	for i, a := range l {
		if err := x.Append(a); err != api.OK {
			t.Fatalf("limit %d: Append of the leaf %d: error %d", limit, i, err)
		}
	}
	return x
}

// wantLeaves holds that a tree has just these leaves.
func wantLeaves(t *testing.T, what string, x *tree.Tree, l []api.Root) {
	t.Helper()
	if x.Len() != len(l) {
		t.Errorf("%s: Len %d; want %d", what, x.Len(), len(l))
		return
	}
	for i, want := range l {
		if got, err := x.Get(i); got != want || err != api.OK {
			t.Errorf("%s: Get(%d): %x, error %d; want %x", what, i, got, err, want)
		}
	}
	for _, i := range wrongPlaces(len(l)) {
		if got, err := x.Get(i); got != (api.Root{}) || err != api.ErrArg {
			t.Errorf("%s: Get(%d) of %d leaves: %x, error %d", what, i, len(l), got, err)
		}
	}
}

func wrongPlaces(n int) []int {
	return []int{-1, -2, -n - 1, math.MinInt32, math.MinInt, n, n + 1, 2*n + 1, greatest, math.MaxInt32, math.MaxInt - 1, math.MaxInt}
}

// above counts the places above leaves, each once, in a tree of a depth.
func above(places map[int]int, depth int) int {
	type place struct{ row, i int }
	seen := map[place]int{}
	for i := range places {
		for row := 1; row <= depth; row++ {
			i /= 2
			seen[place{row, i}] = 1
		}
	}
	return len(seen)
}

// someLimits are those of the edges: the small ones, those about powers of two, and the greatest.
func someLimits() []int {
	return []int{1, 2, 3, 4, 5, 6, 7, 8, 9, 15, 16, 17, 31, 32, 33, 63, 64, 65, 1023, 1024, 1025, 1<<16 - 1, 1 << 16, 1<<16 + 1, greatest/2 - 1, greatest / 2, greatest/2 + 1, greatest - 1, greatest}
}

// P6.1

func TestNew(t *testing.T) {
	for _, limit := range []int{0, -1, -2, -greatest, math.MinInt32, math.MinInt, greatest + 1, greatest + 2, 2 * greatest, math.MaxInt32 + 1, 1 << 40, math.MaxInt - 1, math.MaxInt} {
		if x := tree.New(limit); x != nil {
			t.Errorf("New(%d) is a tree", limit)
		}
	}
	for _, limit := range someLimits() {
		x := tree.New(limit)
		if x == nil {
			t.Errorf("New(%d) is nil", limit)
			continue
		}
		wantLeaves(t, fmt.Sprint("New of ", limit), x, nil)
		if x.Hashes() != 0 {
			t.Errorf("New(%d) has %d hashes", limit, x.Hashes())
		}
		for _, i := range wrongPlaces(0) {
			if err := x.Set(i, leaf(0)); err != api.ErrArg {
				t.Errorf("New(%d): Set(%d): error %d", limit, i, err)
			}
		}
		if x.Len() != 0 {
			t.Errorf("New(%d): a refused Set left %d leaves", limit, x.Len())
		}
	}
}

func TestExamples(t *testing.T) {
	a, b, c, d, zero := leaf(0), leaf(1), leaf(2), leaf(3), api.Root{}
	x := planted(t, 5, []api.Root{a, b, c})
	if got, want := x.Root(), two(two(two(a, b), two(c, zero)), zeroOf(2)); got != want {
		t.Errorf("Root: %x; want %x", got, want)
	}
	first := x.Hashes()
	if first > 6 || first < 3 {
		t.Errorf("Hashes: %d", first)
	}
	if err := x.Set(1, d); err != api.OK {
		t.Errorf("Set(1, d): error %d", err)
	}
	if got, want := x.Root(), two(two(two(a, d), two(c, zero)), zeroOf(2)); got != want {
		t.Errorf("Root behind Set: %x; want %x", got, want)
	}
	if more := x.Hashes() - first; more > 3 || more < 3 {
		t.Errorf("Set and Root: %d hashes more", more)
	}
	if err := x.Set(3, a); err != api.ErrArg {
		t.Errorf("Set(3, a): error %d", err)
	}
	for i, want := range []api.Errno{api.OK, api.OK, api.ErrLong, api.ErrLong} {
		if err := x.Append(leaf(4 + i)); err != want {
			t.Errorf("Append of the leaf %d: error %d; want %d", 3+i, err, want)
		}
	}
	wantLeaves(t, "the full tree", x, []api.Root{a, d, c, leaf(4), leaf(5)})
	if got, want := x.Root(), two(two(two(a, d), two(c, leaf(4))), two(two(leaf(5), zero), zeroOf(1))); got != want {
		t.Errorf("Root of the full tree: %x; want %x", got, want)
	}
}

// TestUpToTheLimit: each tree takes as many leaves as its limit, and a Root between changes nothing of that.
func TestUpToTheLimit(t *testing.T) {
	for limit := 1; limit <= 40; limit++ {
		for _, asked := range []bool{false, true} {
			x := tree.New(limit)
			l := leaves(limit)
			for i, a := range l {
				if err := x.Append(a); err != api.OK {
					t.Errorf("limit %d: Append of the leaf %d: error %d", limit, i, err)
				}
				if asked {
					x.Root()
				}
			}
			wantLeaves(t, fmt.Sprint("limit ", limit), x, l)
			for range 3 {
				if err := x.Append(leaf(-1)); err != api.ErrLong {
					t.Errorf("limit %d: Append to a full tree: error %d", limit, err)
				}
			}
			wantLeaves(t, fmt.Sprint("full, limit ", limit), x, l)
			for i := range l {
				l[i] = leaf(1000 + i)
				if err := x.Set(i, l[i]); err != api.OK {
					t.Errorf("limit %d: Set(%d): error %d", limit, i, err)
				}
			}
			wantLeaves(t, fmt.Sprint("all set, limit ", limit), x, l)
			if got, want := x.Root(), plainRoot(l, depthOf(limit)); got != want {
				t.Errorf("limit %d: Root %x; want %x", limit, got, want)
			}
		}
	}
}

// TestRefusedCallsChangeNothing: neither leaves nor root nor hashes.
func TestRefusedCallsChangeNothing(t *testing.T) {
	for _, limit := range []int{1, 2, 3, 5, 8, 9} {
		for n := range limit + 1 {
			l := leaves(n)
			x := planted(t, limit, l)
			root, hashes := x.Root(), x.Hashes()
			for _, i := range wrongPlaces(n) {
				if err := x.Set(i, leaf(-1)); err != api.ErrArg {
					t.Errorf("limit %d, %d leaves: Set(%d): error %d", limit, n, i, err)
				}
			}
			if n == limit && x.Append(leaf(-1)) != api.ErrLong {
				t.Errorf("limit %d: Append to a full tree isn't ErrLong", limit)
			}
			wantLeaves(t, fmt.Sprint("refused, limit ", limit), x, l)
			if x.Root() != root || x.Hashes() != hashes {
				t.Errorf("limit %d, %d leaves: refused calls changed the root or took hashes", limit, n)
			}
		}
	}
}

// P6.2

// TestRootOfEachSize: all limits up to 40 with each number of leaves, and the great ones with few.
func TestRootOfEachSize(t *testing.T) {
	l := leaves(40)
	check := func(limit, n int) {
		got := planted(t, limit, l[:n]).Root()
		want, err := merkle.Tree(l[:n], limit)
		if got != want || err != api.OK || got != plainRoot(l[:n], depthOf(limit)) {
			t.Errorf("limit %d, %d leaves: Root %x; want %x", limit, n, got, want)
		}
	}
	for limit := 1; limit <= 40; limit++ {
		for n := range limit + 1 {
			check(limit, n)
		}
	}
	for _, limit := range someLimits() {
		for n := range min(limit, 40) + 1 {
			check(limit, n)
		}
	}
}

// TestRootBehindEachAppend: leaves that come behind a Root up to the limit.
func TestRootBehindEachAppend(t *testing.T) {
	for _, limit := range []int{1, 2, 3, 4, 5, 7, 8, 9, 16, 17, 33, 64, 65} {
		x := tree.New(limit)
		l := leaves(limit)
		depth := depthOf(limit)
		for n := range limit + 1 {
			if got, want := x.Root(), plainRoot(l[:n], depth); got != want {
				t.Errorf("limit %d, %d leaves: Root %x; want %x", limit, n, got, want)
			}
			if n < limit {
				x.Append(l[n])
			}
		}
		if x.Append(leaf(-1)) != api.ErrLong || x.Root() != plainRoot(l, depth) {
			t.Errorf("limit %d: the full tree", limit)
		}
	}
}

// TestRootBehindEachSet: one leaf after the other, from the front, from the back and from the middle.
func TestRootBehindEachSet(t *testing.T) {
	for _, limit := range []int{1, 2, 3, 5, 8, 9, 17, 1 << 16, greatest} {
		for n := range min(limit, 17) + 1 {
			l := leaves(n)
			x := planted(t, limit, l)
			x.Root()
			for k := range 2 * n {
				i := k * 7 % n
				l[i] = leaf(100 + k)
				x.Set(i, l[i])
				if got, want := x.Root(), plainRoot(l, depthOf(limit)); got != want {
					t.Errorf("limit %d, %d leaves: Root behind Set(%d) is %x; want %x", limit, n, i, got, want)
				}
			}
		}
	}
}

// TestZeroLeaves: zero leaves are leaves as others are.
func TestZeroLeaves(t *testing.T) {
	x := planted(t, 33, make([]api.Root, 33))
	if x.Len() != 33 || x.Root() != zeroOf(6) || x.Append(api.Root{}) != api.ErrLong {
		t.Error("33 zero leaves")
	}
	for i := range 33 {
		x.Set(i, leaf(i))
	}
	if x.Root() != plainRoot(leaves(33), 6) {
		t.Error("zero leaves that were set")
	}
	for i := range 33 {
		x.Set(i, api.Root{})
	}
	if x.Len() != 33 || x.Root() != zeroOf(6) {
		t.Error("leaves that were set to zero")
	}
	y := planted(t, greatest, []api.Root{{}})
	if y.Root() != zeroOf(30) {
		t.Error("one zero leaf in the greatest tree")
	}
	y.Append(leaf(1))
	if y.Root() != plainRoot([]api.Root{{}, leaf(1)}, 30) {
		t.Error("a leaf behind a zero leaf in the greatest tree")
	}
}

// P6.3

// counted asks for a root and answers how many hashes that took.
func counted(x *tree.Tree) int {
	before := x.Hashes()
	x.Root()
	return x.Hashes() - before
}

// TestHashesOfNothing: Root asked again takes none, a tree without leaves neither.
func TestHashesOfNothing(t *testing.T) {
	for _, limit := range someLimits() {
		x := tree.New(limit)
		if n := counted(x) + counted(x); n != 0 || x.Hashes() != 0 {
			t.Errorf("limit %d: %d hashes of no leaves", limit, n)
		}
		for i := range min(limit, 20) {
			x.Append(leaf(i))
			counted(x)
			if n := counted(x) + counted(x); n != 0 {
				t.Errorf("limit %d, %d leaves: Root asked again took %d hashes", limit, i+1, n)
			}
			x.Get(i)
			x.Len()
			x.Set(i+1, leaf(0))
			x.Set(-1, leaf(0))
			if n := counted(x); n != 0 {
				t.Errorf("limit %d, %d leaves: %d hashes where nothing was set", limit, i+1, n)
			}
		}
	}
}

// TestHashesOfOneChange: each takes just the depth.
func TestHashesOfOneChange(t *testing.T) {
	for _, limit := range someLimits() {
		depth := depthOf(limit)
		x := tree.New(limit)
		for i := range min(limit, 40) {
			x.Append(leaf(i))
			if n := counted(x); n != depth {
				t.Errorf("limit %d: the leaf %d appended took %d hashes; want %d", limit, i, n, depth)
			}
		}
		for i := range x.Len() {
			x.Set(i, leaf(100+i))
			if n := counted(x); n != depth {
				t.Errorf("limit %d: the leaf %d set took %d hashes; want %d", limit, i, n, depth)
			}
		}
	}
}

// TestHashesOfTheSameLeaf: set ever again, it is one change; set to what it is, it is none.
func TestHashesOfTheSameLeaf(t *testing.T) {
	for _, limit := range []int{1, 2, 3, 5, 9, 1 << 16, greatest} {
		depth := depthOf(limit)
		x := planted(t, limit, leaves(min(limit, 9)))
		last := x.Len() - 1
		counted(x)
		for k := range 100 {
			x.Set(last, leaf(1000+k))
		}
		if n := counted(x); n != depth {
			t.Errorf("limit %d: a leaf that was set often took %d hashes; want %d", limit, n, depth)
		}
		root := x.Root()
		for range 100 {
			for i := range x.Len() {
				a, _ := x.Get(i)
				x.Set(i, a)
			}
		}
		if n := counted(x); n > x.Len()+depth || x.Root() != root {
			t.Errorf("limit %d: leaves set to what they were took %d hashes", limit, n)
		}
		x.Set(last, leaf(-1))
		x.Set(last, leaf(1099))
		if n := counted(x); n > depth || x.Root() != root {
			t.Errorf("limit %d: a leaf that was set there and back took %d hashes", limit, n)
		}
	}
}

// TestHashesOfManyChanges: never more than the leaves and the depth together, and no fewer than there are roots that change.
func TestHashesOfManyChanges(t *testing.T) {
	for _, limit := range []int{64, 65, 127, 128, 1 << 16, greatest} {
		depth := depthOf(limit)
		for _, n := range []int{1, 2, 3, 5, 31, 32, 33, 63, 64} {
			x := planted(t, limit, leaves(n))
			all := map[int]int{}
			for i := range n {
				all[i] = 1
			}
			if got := counted(x); got > n+depth || got > n*depth || got != above(all, depth) {
				t.Errorf("limit %d: %d leaves took %d hashes at first; want %d", limit, n, got, above(all, depth))
			}
			for i := range n {
				x.Set(n-1-i, leaf(500+i))
			}
			if got := counted(x); got > n+depth || got != above(all, depth) {
				t.Errorf("limit %d: %d leaves set took %d hashes; want %d", limit, n, got, above(all, depth))
			}
			odd := map[int]int{}
			for i := 0; i < n; i += 3 {
				odd[i] = 1
				x.Set(i, leaf(900+i))
			}
			if got := counted(x); got > n+depth || got > len(odd)*depth || got != above(odd, depth) {
				t.Errorf("limit %d: each third leaf of %d set took %d hashes; want %d", limit, n, got, above(odd, depth))
			}
		}
	}
}

// TestHashesAreReckonedByCalls: what a great tree takes in time fits what it tells.
func TestHashesAreReckonedByCalls(t *testing.T) {
	const n = 1 << 13
	l := leaves(n)
	x := planted(t, greatest, l)
	if got := counted(x); got < n-1 || got > n+30 {
		t.Errorf("%d leaves took %d hashes", n, got)
	}
	all, _ := merkle.Tree(l, greatest)
	if x.Root() != all {
		t.Error("the root of many leaves")
	}
	whole := leastTime(func() { merkle.Tree(l, greatest) })
	k := 0
	one := leastTime(func() {
		for range 8 {
			k++
			x.Set(k*977%n, leaf(n+k))
			x.Root()
		}
	})
	// Eight changes are 240 hashes, the whole is over 8000.
	if one > whole/3 {
		t.Errorf("eight changes take %v, the whole tree %v", one, whole)
	}
	again := leastTime(func() {
		for range 8 {
			x.Root()
		}
	})
	if again > whole/20 {
		t.Errorf("Root asked again takes %v, the whole tree %v", again, whole)
	}
}

// leastTime that one of several runs takes: the others may have been held up.
func leastTime(run func()) time.Duration {
	least := time.Duration(math.MaxInt64)
	for range 7 {
		start := time.Now()
		run()
		least = min(least, time.Since(start))
	}
	return least
}

// TestManyChangesWithoutRoot: a tree keeps no list of all that was ever set.
func TestManyChangesWithoutRoot(t *testing.T) {
	x := planted(t, 4, leaves(4))
	x.Root()
	var before, after runtime.MemStats
	runtime.ReadMemStats(&before)
	var a api.Root
	for i := range 1000000 {
		a[0], a[1], a[2] = byte(i), byte(i>>8), byte(i>>16)
		x.Set(i%4, a)
	}
	runtime.ReadMemStats(&after)
	if took := after.TotalAlloc - before.TotalAlloc; took > 1<<20 {
		t.Errorf("a million changes of four leaves took %d bytes", took)
	}
}

// P6.4

func TestNilTree(t *testing.T) {
	var x *tree.Tree
	for range 2 {
		if x.Len() != 0 || x.Hashes() != 0 || x.Root() != (api.Root{}) || x.Copy() != nil {
			t.Error("a nil tree's Len, Hashes, Root or Copy")
		}
		for _, i := range append(wrongPlaces(0), 0, 1) {
			if a, err := x.Get(i); a != (api.Root{}) || err != api.ErrArg {
				t.Errorf("Get(%d) of a nil tree: %x, error %d", i, a, err)
			}
			if err := x.Set(i, leaf(0)); err != api.ErrArg {
				t.Errorf("Set(%d) of a nil tree: error %d", i, err)
			}
		}
		if err := x.Append(leaf(0)); err != api.ErrArg {
			t.Errorf("Append to a nil tree: error %d", err)
		}
	}
}

// TestCopyRemembers: behind a Root a copy takes no hashes for it, and no more than the depth for a change.
func TestCopyRemembers(t *testing.T) {
	for _, limit := range []int{1, 2, 3, 5, 8, 9, 1 << 16, greatest} {
		depth := depthOf(limit)
		for n := range min(limit, 12) + 1 {
			x := planted(t, limit, leaves(n))
			root := x.Root()
			hashes := x.Hashes()
			y := x.Copy()
			z := y.Copy()
			if y.Hashes() != 0 || z.Hashes() != 0 || x.Hashes() != hashes {
				t.Errorf("limit %d: copies have %d and %d hashes", limit, y.Hashes(), z.Hashes())
			}
			for _, c := range []*tree.Tree{y, z} {
				if c.Root() != root || c.Hashes() != 0 {
					t.Errorf("limit %d, %d leaves: the copy's Root took %d hashes", limit, n, c.Hashes())
				}
				wantLeaves(t, "the copy", c, leaves(n))
			}
			if n == 0 {
				continue
			}
			y.Set(n-1, leaf(-1))
			want := plainRoot(append(leaves(n-1), leaf(-1)), depth)
			if y.Root() != want || y.Hashes() != depth || z.Root() != root || z.Hashes() != 0 || x.Root() != root || x.Hashes() != hashes {
				t.Errorf("limit %d, %d leaves: a change of the copy", limit, n)
			}
		}
	}
}

// TestCopyAheadOfRoot: what the tree hadn't reckoned yet the copy reckons by itself, and so does the tree.
func TestCopyAheadOfRoot(t *testing.T) {
	for _, limit := range []int{1, 2, 3, 5, 8, 9, 1 << 16, greatest} {
		depth := depthOf(limit)
		for n := range min(limit, 12) + 1 {
			l := leaves(n)
			for _, copyFirst := range []bool{false, true} {
				x := planted(t, limit, l)
				y := x.Copy()
				first, second := x, y
				if copyFirst {
					first, second = y, x
				}
				want := plainRoot(l, depth)
				if first.Root() != want || second.Root() != want {
					t.Errorf("limit %d, %d leaves: the roots of a copy and its tree", limit, n)
				}
				if x.Hashes() != y.Hashes() || x.Hashes() > n+depth || x.Hashes() > n*depth {
					t.Errorf("limit %d, %d leaves: the copy took %d hashes, its tree %d", limit, n, y.Hashes(), x.Hashes())
				}
			}
		}
	}
}

// TestCopyKeepsTheLimit: both have the limit, each for itself.
func TestCopyKeepsTheLimit(t *testing.T) {
	for _, limit := range []int{1, 2, 3, 5, 8, 9} {
		for n := range limit + 1 {
			x := planted(t, limit, leaves(n))
			y := x.Copy()
			for i := n; i < limit; i++ {
				if y.Append(leaf(100+i)) != api.OK {
					t.Errorf("limit %d: the copy refuses the leaf %d", limit, i)
				}
			}
			if y.Append(leaf(0)) != api.ErrLong || x.Len() != n || y.Len() != limit {
				t.Errorf("limit %d, %d leaves: the copy's limit", limit, n)
			}
			for i := n; i < limit; i++ {
				if x.Append(leaf(200+i)) != api.OK {
					t.Errorf("limit %d: the tree refuses the leaf %d behind its copy", limit, i)
				}
			}
			l := leaves(limit)
			r := leaves(limit)
			for i := n; i < limit; i++ {
				l[i], r[i] = leaf(200+i), leaf(100+i)
			}
			wantLeaves(t, "the tree", x, l)
			wantLeaves(t, "the copy", y, r)
			if x.Root() != plainRoot(l, depthOf(limit)) || y.Root() != plainRoot(r, depthOf(limit)) {
				t.Errorf("limit %d, %d leaves: roots of a tree and its copy, both filled", limit, n)
			}
		}
	}
}

// grown is a tree beside what it must be.
type grown struct {
	x       *tree.Tree
	leaves  []api.Root
	limit   int
	calls   int         // of Set and Append since the last Root, of the trees that it is a copy of too
	changed map[int]int // the leaves that they changed
	hashes  int
}

func (g *grown) step(t *testing.T, rng *rand.Rand, n int) {
	t.Helper()
	switch op := rng.IntN(10); {
	case op < 4:
		want := api.OK
		if len(g.leaves) == g.limit {
			want = api.ErrLong
		} else {
			g.changed[len(g.leaves)] = 1
			g.leaves = append(g.leaves, leaf(n))
			g.calls++
		}
		if err := g.x.Append(leaf(n)); err != want {
			t.Fatalf("limit %d, %d leaves: Append: error %d; want %d", g.limit, len(g.leaves), err, want)
		}
	case op < 8:
		i := rng.IntN(len(g.leaves)+3) - 1
		want := api.ErrArg
		a := leaf(n)
		if i >= 0 && i < len(g.leaves) {
			want = api.OK
			if rng.IntN(4) == 0 {
				a = g.leaves[i]
			} else {
				g.changed[i] = 1
			}
			g.leaves[i] = a
			g.calls++
		}
		if err := g.x.Set(i, a); err != want {
			t.Fatalf("limit %d, %d leaves: Set(%d): error %d; want %d", g.limit, len(g.leaves), i, err, want)
		}
	default:
		g.ask(t)
	}
}

// ask for the root, and hold it and what it took against what they must be.
func (g *grown) ask(t *testing.T) {
	t.Helper()
	depth := depthOf(g.limit)
	if got, want := g.x.Root(), plainRoot(g.leaves, depth); got != want {
		t.Fatalf("limit %d, %d leaves: Root %x; want %x", g.limit, len(g.leaves), got, want)
	}
	took := g.x.Hashes() - g.hashes
	if took > g.calls*depth || took > len(g.leaves)+depth || took != above(g.changed, depth) {
		t.Fatalf("limit %d, %d leaves: %d calls took %d hashes; %d are above them", g.limit, len(g.leaves), g.calls, took, above(g.changed, depth))
	}
	g.hashes += took
	g.calls = 0
	clear(g.changed)
}

func (g *grown) copied() *grown {
	changed := map[int]int{}
	for i := range g.changed {
		changed[i] = 1
	}
	return &grown{g.x.Copy(), slices.Clone(g.leaves), g.limit, g.calls, changed, 0}
}

// TestGoneThrough: trees, their copies and the copies of those, changed in any order, are each what it would be alone.
func TestGoneThrough(t *testing.T) {
	rng := rand.New(rand.NewPCG(6, 30))
	for _, limit := range []int{1, 2, 3, 4, 5, 7, 8, 9, 15, 16, 17, 33, 64, 1 << 16, greatest - 1, greatest} {
		for range 3 {
			all := []*grown{{x: tree.New(limit), limit: limit, changed: map[int]int{}}}
			for n := range 400 {
				g := all[rng.IntN(len(all))]
				g.step(t, rng, n)
				if n%40 == 39 {
					all = append(all, g.copied())
				}
			}
			for _, g := range all {
				wantLeaves(t, fmt.Sprint("limit ", limit), g.x, g.leaves)
				g.ask(t)
				g.ask(t)
			}
		}
	}
}

// TestLeavesAreValues: what Get answered and what was handed in, changed afterwards, changes nothing in the tree.
func TestLeavesAreValues(t *testing.T) {
	a, b := leaf(0), leaf(1)
	x := tree.New(5)
	x.Append(a)
	x.Append(b)
	c := leaf(2)
	x.Set(1, c)
	for i := range a {
		a[i], b[i], c[i] = 0xcc, 0xcc, 0xcc
	}
	got, _ := x.Get(0)
	got[0] ^= 1
	wantLeaves(t, "changed by the caller", x, []api.Root{leaf(0), leaf(2)})
	root := x.Root()
	kept := root
	root[5] ^= 1
	if x.Root() != kept || kept != plainRoot([]api.Root{leaf(0), leaf(2)}, 3) {
		t.Error("the root hangs on what the caller did")
	}
}

// TestTreesSideBySide: trees and their copies share nothing that two goroutines could both touch (run with -race).
func TestTreesSideBySide(t *testing.T) {
	x := planted(t, 100, leaves(50))
	x.Root()
	x.Set(7, leaf(-1))
	l := leaves(50)
	l[7] = leaf(-1)
	var wait sync.WaitGroup
	for n := range 8 {
		c := x.Copy()
		mine := slices.Clone(l)
		wait.Go(func() {
			for k := range 50 {
				mine[k] = leaf(n*1000 + k)
				c.Set(k, mine[k])
				mine = append(mine, leaf(n*2000+k))
				c.Append(mine[50+k])
				if c.Root() != plainRoot(mine, 7) {
					t.Errorf("the copy %d behind the change %d", n, k)
				}
			}
		})
	}
	wait.Wait()
	if x.Root() != plainRoot(l, 7) {
		t.Error("the tree behind its copies' changes")
	}
}
