package shuf_test

import (
	"crypto/sha256"
	"encoding/binary"
	"fmt"
	"math/big"
	"math/rand/v2"
	"slices"
	"sync"
	"testing"

	"pharos/api"
	"pharos/shuf"
)

const (
	mostPlaces = 1 << 32
	mostListed = 1 << 16
	top        = 1<<64 - 1
)

// seedOf a number: another seed for each.
func seedOf(v int) api.Root { return sha256.Sum256(fmt.Append(nil, "seed", v)) }

// numbers from 0 on.
func numbers(n int) []uint64 {
	l := make([]uint64, n)
	for i := range l {
		l[i] = uint64(i)
	}
	return l
}

// strange are numbers of any size, no two alike.
func strange(n int) []uint64 {
	l := make([]uint64, n)
	for i := range l {
		l[i] = top - uint64(i)*0x9e3779b97f4a7c15
	}
	return l
}

// Second readings of the chapter, with the library's hash.

// plainRound takes a place through one round, in numbers that can't wrap.
func plainRound(i, n uint64, seed api.Root, r int) uint64 {
	front := append(slices.Clone(seed[:]), byte(r))
	hash := sha256.Sum256(front)
	slices.Reverse(hash[:8])
	places := new(big.Int).SetUint64(n)
	pivot := new(big.Int).SetBytes(hash[:8])
	pivot.Mod(pivot, places)
	flip := new(big.Int).Sub(pivot, new(big.Int).SetUint64(i))
	flip.Mod(flip, places)
	place := i
	if flip.Uint64() > i {
		place = flip.Uint64()
	}
	source := sha256.Sum256(binary.LittleEndian.AppendUint32(front, uint32(place/256)))
	if source[place%256/8]&(1<<(place%8)) != 0 {
		return flip.Uint64()
	}
	return i
}

// plainPlace takes a place through all rounds.
func plainPlace(i, n uint64, seed api.Root) uint64 {
	for r := range 6 {
		i = plainRound(i, n, seed, r)
	}
	return i
}

// What is wanted.

func wantPlace(t *testing.T, i, n uint64, seed api.Root, want uint64) {
	t.Helper()
	if got, err := shuf.Place(i, n, seed); got != want || err != api.OK {
		t.Errorf("Place(%d, %d, %x): %d, error %d; want %d", i, n, seed, got, err, want)
	}
}

func wantBack(t *testing.T, i, n uint64, seed api.Root, want uint64) {
	t.Helper()
	if got, err := shuf.Back(i, n, seed); got != want || err != api.OK {
		t.Errorf("Back(%d, %d, %x): %d, error %d; want %d", i, n, seed, got, err, want)
	}
}

func wantList(t *testing.T, l []uint64, seed api.Root, want []uint64) {
	t.Helper()
	if got, err := shuf.List(l, seed); !slices.Equal(got, want) || err != api.OK {
		t.Errorf("List of %d, seed %x: %v, error %d; want %v", len(l), seed, got, err, want)
	}
}

// smallCounts of places, those around a source's length among them.
func smallCounts() []uint64 {
	return []uint64{1, 2, 3, 4, 5, 6, 7, 8, 9, 15, 16, 17, 31, 33, 64, 100, 255, 256, 257, 511, 512, 513, 769}
}

// greatCounts of places, up to the most that there may be.
func greatCounts() []uint64 {
	return []uint64{
		1<<16 - 1, 1 << 16, 1<<16 + 1, 100000, 1<<24 - 1, 1 << 24, 1<<24 + 1,
		1<<31 - 1, 1 << 31, 3000000019, mostPlaces - 257, mostPlaces - 1, mostPlaces,
	}
}

// somePlaces of n: the edges of bytes and of sources, and some by chance.
func somePlaces(n uint64) []uint64 {
	r := rand.New(rand.NewPCG(n, 12))
	places := []uint64{0, n - 1, n / 2, (n - 1) / 256 * 256}
	for _, edge := range []uint64{8, 256, 512, 1 << 16, 1 << 24, 1 << 31} {
		for _, i := range []uint64{edge - 1, edge, edge + 1} {
			if i < n {
				places = append(places, i)
			}
		}
	}
	for range 40 {
		places = append(places, r.Uint64N(n))
	}
	return places
}

// The chapter's examples.

func TestExamples(t *testing.T) {
	for v := range 20 {
		wantPlace(t, 0, 1, seedOf(v), 0)
		wantBack(t, 0, 1, seedOf(v), 0)
		if got, err := shuf.Place(0, 0, seedOf(v)); got != 0 || err != api.ErrArg {
			t.Errorf("Place(0, 0, seed): %d, error %d; want ErrArg", got, err)
		}
	}
	var goals []uint64
	for i := range uint64(5) {
		goal, err := shuf.Place(i, 5, api.Root{})
		if err != api.OK || goal >= 5 || slices.Contains(goals, goal) {
			t.Errorf("Place(%d, 5, zero): %d, error %d; gone ahead: %v", i, goal, err, goals)
		}
		goals = append(goals, goal)
		wantBack(t, goal, 5, api.Root{}, i)
	}
}

// P12.1

func TestPlaceOfSmallCounts(t *testing.T) {
	for v, n := range smallCounts() {
		for _, seed := range []api.Root{{}, seedOf(v), seedOf(v + 1000)} {
			for i := range n {
				wantPlace(t, i, n, seed, plainPlace(i, n, seed))
			}
		}
	}
}

func TestPlaceOfGreatCounts(t *testing.T) {
	for v, n := range greatCounts() {
		for _, seed := range []api.Root{{}, seedOf(v)} {
			for _, i := range somePlaces(n) {
				wantPlace(t, i, n, seed, plainPlace(i, n, seed))
			}
		}
	}
}

// Two places are exchanged or not as the seed says, and both are met.
func TestTwoPlaces(t *testing.T) {
	count := [2]int{}
	for v := range 100 {
		goal := plainPlace(0, 2, seedOf(v))
		count[goal]++
		wantPlace(t, 0, 2, seedOf(v), goal)
		wantPlace(t, 1, 2, seedOf(v), 1-goal)
	}
	if count[0] == 0 || count[1] == 0 {
		t.Error("the seeds are all of one kind", count)
	}
}

// Each bit of the seed counts.
func TestEachBitOfTheSeedCounts(t *testing.T) {
	whole := goalsOf(t, 64, seedOf(5))
	for bit := range 256 {
		seed := seedOf(5)
		seed[bit/8] ^= 1 << (bit % 8)
		if slices.Equal(goalsOf(t, 64, seed), whole) {
			t.Errorf("the bit %d of the seed changes nothing", bit)
		}
	}
}

// goalsOf all places.
func goalsOf(t *testing.T, n uint64, seed api.Root) []uint64 {
	t.Helper()
	goals := make([]uint64, n)
	for i := range n {
		goal, err := shuf.Place(i, n, seed)
		if err != api.OK {
			t.Fatalf("Place(%d, %d): error %d", i, n, err)
		}
		goals[i] = goal
	}
	return goals
}

// The bounds of both, one side and the other.
func TestWhichPlacesThereAre(t *testing.T) {
	for _, c := range []struct {
		i, n uint64
		err  api.Errno
	}{
		{0, 0, api.ErrArg},
		{1, 0, api.ErrArg},
		{top, 0, api.ErrArg},
		{0, 1, api.OK},
		{1, 1, api.ErrArg},
		{2, 1, api.ErrArg},
		{1, 2, api.OK},
		{2, 2, api.ErrArg},
		{top, 2, api.ErrArg},
		{255, 256, api.OK},
		{256, 256, api.ErrArg},
		{256, 257, api.OK},
		{257, 257, api.ErrArg},
		{1 << 16, 1<<16 + 1, api.OK},
		{1 << 32, 5, api.ErrArg},
		{1<<32 + 1, 5, api.ErrArg},
		{1<<63 + 1, 5, api.ErrArg},
		{mostPlaces - 2, mostPlaces - 1, api.OK},
		{mostPlaces - 1, mostPlaces - 1, api.ErrArg},
		{0, mostPlaces, api.OK},
		{mostPlaces - 1, mostPlaces, api.OK},
		{mostPlaces, mostPlaces, api.ErrArg},
		{mostPlaces + 1, mostPlaces, api.ErrArg},
		{top, mostPlaces, api.ErrArg},
		{0, mostPlaces + 1, api.ErrArg},
		{7, mostPlaces + 1, api.ErrArg},
		{mostPlaces - 1, mostPlaces + 1, api.ErrArg},
		{mostPlaces, mostPlaces + 1, api.ErrArg},
		{mostPlaces + 1, mostPlaces + 1, api.ErrArg},
		{7, mostPlaces + 8, api.ErrArg},
		{7, 1 << 33, api.ErrArg},
		{7, 1 << 63, api.ErrArg},
		{0, top, api.ErrArg},
		{7, top, api.ErrArg},
		{top - 1, top, api.ErrArg},
		{top, top, api.ErrArg},
	} {
		place, err := shuf.Place(c.i, c.n, seedOf(1))
		if err != c.err || err != api.OK && place != 0 || place >= max(c.n, 1) {
			t.Errorf("Place(%d, %d, seed): %d, error %d; want error %d", c.i, c.n, place, err, c.err)
		}
		back, err := shuf.Back(c.i, c.n, seedOf(1))
		if err != c.err || err != api.OK && back != 0 || back >= max(c.n, 1) {
			t.Errorf("Back(%d, %d, seed): %d, error %d; want error %d", c.i, c.n, back, err, c.err)
		}
	}
}

// P12.2

func TestBackOfSmallCounts(t *testing.T) {
	for v, n := range smallCounts() {
		for _, seed := range []api.Root{{}, seedOf(v), seedOf(v + 2000)} {
			met := make([]int, n)
			for i := range n {
				goal := plainPlace(i, n, seed)
				met[goal]++
				wantBack(t, goal, n, seed, i)
				home, _ := shuf.Back(i, n, seed)
				wantPlace(t, home, n, seed, i)
			}
			if slices.Max(met) != 1 {
				t.Errorf("%d places, seed %x: one is met %d times", n, seed, slices.Max(met))
			}
		}
	}
}

func TestBackOfGreatCounts(t *testing.T) {
	for v, n := range greatCounts() {
		for _, seed := range []api.Root{{}, seedOf(v)} {
			for _, i := range somePlaces(n) {
				wantBack(t, plainPlace(i, n, seed), n, seed, i)
				home, _ := shuf.Back(i, n, seed)
				wantPlace(t, home, n, seed, i)
			}
		}
	}
}

// P12.3

// wantShuffled holds a list against Place, everywhere or at some places.
func wantShuffled(t *testing.T, l []uint64, seed api.Root, places []uint64) {
	t.Helper()
	got, err := shuf.List(l, seed)
	if err != api.OK || len(got) != len(l) {
		t.Fatalf("List of %d, seed %x: %d elements, error %d", len(l), seed, len(got), err)
	}
	for _, i := range places {
		place, err := shuf.Place(i, uint64(len(l)), seed)
		if err != api.OK || got[i] != l[place] {
			t.Fatalf("List of %d, seed %x: element %d is %d; want %d, that at %d (error %d)", len(l), seed, i, got[i], l[place], place, err)
		}
	}
}

func TestListOfEachLength(t *testing.T) {
	for n := range 40 {
		for v := range 4 {
			wantShuffled(t, strange(n), seedOf(v), numbers(n))
		}
	}
	for _, n := range []int{255, 256, 257, 511, 512, 513, 700, 1025} {
		for v := range 4 {
			wantShuffled(t, strange(n), seedOf(n+v), numbers(n))
		}
	}
}

func TestListOfManyElements(t *testing.T) {
	for _, n := range []int{1<<15 + 3, mostListed - 1, mostListed} {
		for v := range 3 {
			wantShuffled(t, strange(n), seedOf(v), somePlaces(uint64(n)))
		}
	}
}

// What is answered has each element as often as what was handed in.
func TestListKeepsItsElements(t *testing.T) {
	for _, n := range []int{0, 1, 2, 3, 255, 256, 257, 600, mostListed} {
		l := strange(n)
		got, err := shuf.List(l, seedOf(n))
		slices.Sort(l)
		slices.Sort(got)
		if err != api.OK || !slices.Equal(got, l) {
			t.Errorf("List of %d: error %d, or other elements", n, err)
		}
	}
}

func TestListWithElementsThatRepeat(t *testing.T) {
	for _, n := range []int{2, 3, 5, 255, 256, 257, 600} {
		for _, kinds := range []uint64{1, 2, 3, 7} {
			l := numbers(n)
			for i := range l {
				l[i] = top - l[i]%kinds
			}
			wantShuffled(t, l, seedOf(n), numbers(n))
		}
		wantShuffled(t, make([]uint64, n), seedOf(n), numbers(n))
	}
}

// The elements are not places: those beyond all places come out as they are.
func TestListOfAnyElements(t *testing.T) {
	wantList(t, []uint64{top, 1 << 63, 0, 1 << 32, 7}, zero, []uint64{1 << 32, 7, 0, top, 1 << 63})
	wantList(t, []uint64{9}, seedOf(1), []uint64{9})
	wantList(t, []uint64{top}, seedOf(2), []uint64{top})
}

func TestListOfNothing(t *testing.T) {
	for v := range 5 {
		for _, l := range [][]uint64{nil, {}, make([]uint64, 0, 9)} {
			if got, err := shuf.List(l, seedOf(v)); len(got) != 0 || err != api.OK {
				t.Errorf("List of nothing: %v, error %d", got, err)
			}
		}
	}
}

func TestListTooLong(t *testing.T) {
	for _, n := range []int{mostListed + 1, mostListed + 2, 2 * mostListed, 3*mostListed + 5} {
		if got, err := shuf.List(numbers(n), seedOf(n)); len(got) != 0 || err != api.ErrArg {
			t.Errorf("List of %d: %d elements, error %d; want ErrArg", n, len(got), err)
		}
	}
	// Room behind the end isn't length.
	if got, err := shuf.List(numbers(mostListed + 9)[:mostListed], zero); len(got) != mostListed || err != api.OK {
		t.Errorf("List of 2^16 with room: %d elements, error %d", len(got), err)
	}
}

// What is handed in stays, and what is answered is new memory.

func TestListLeavesWhatIsHandedIn(t *testing.T) {
	for _, n := range []int{0, 1, 2, 3, 5, 255, 256, 257, 600, mostListed, mostListed + 1} {
		whole := strange(n + 8)
		for _, l := range [][]uint64{whole[:n], whole[3 : n+3], whole[3 : n+3 : n+3]} {
			shuf.List(l, seedOf(n))
			if !slices.Equal(whole, strange(n+8)) {
				t.Fatalf("List of %d changed what was handed in, or its room", n)
			}
		}
	}
}

func TestListAnswersNewMemory(t *testing.T) {
	for _, n := range []int{0, 1, 2, 3, 5, 255, 256, 257, 600} {
		whole := strange(n + 8)
		l := whole[:n]
		first, _ := shuf.List(l, seedOf(n))
		second, _ := shuf.List(l, seedOf(n))
		want := slices.Clone(second)
		// All of the answer, its room too.
		first = first[:cap(first)]
		for i := range first {
			first[i] = ^first[i]
		}
		_ = append(first[:n:n], 77)
		if !slices.Equal(whole, strange(n+8)) {
			t.Errorf("List of %d: the answer is the memory that was handed in", n)
		}
		if !slices.Equal(second, want) {
			t.Errorf("List of %d: two answers share memory", n)
		}
		for i := range whole {
			whole[i] = 5
		}
		if !slices.Equal(second, want) {
			t.Errorf("List of %d: what was handed in is kept", n)
		}
		wantList(t, strange(n), seedOf(n), want)
	}
}

// Nothing is kept from call to call, and calls side by side don't meet.
func TestCallsSideBySide(t *testing.T) {
	l := strange(300)
	wants := make([][]uint64, 8)
	for v := range wants {
		for i := range uint64(300) {
			wants[v] = append(wants[v], l[plainPlace(i, 300, seedOf(v))])
		}
	}
	var group sync.WaitGroup
	for v, want := range wants {
		group.Go(func() {
			for k := range uint64(40) {
				got, err := shuf.List(l, seedOf(v))
				if err != api.OK || !slices.Equal(got, want) {
					t.Errorf("seed %d: the list differs, error %d", v, err)
					return
				}
				shuf.Place(300, 300, seedOf(v))
				place, _ := shuf.Place(k, 300, seedOf(v))
				home, _ := shuf.Back(place, 300, seedOf(v))
				if l[place] != want[k] || home != k {
					t.Errorf("seed %d: %d goes to %d and back to %d", v, k, place, home)
					return
				}
			}
		})
	}
	group.Wait()
}

func BenchmarkPlace(b *testing.B) {
	for b.Loop() {
		shuf.Place(70000, 1<<20, zero)
	}
}

func BenchmarkList(b *testing.B) {
	l := numbers(mostListed)
	for b.Loop() {
		shuf.List(l, zero)
	}
}
