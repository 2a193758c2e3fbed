package comm_test

import (
	"crypto/sha256"
	"encoding/binary"
	"encoding/hex"
	"slices"
	"testing"

	"pharos/api"
	"pharos/comm"
)

// Answers that were reckoned apart from the program, in another language.

// noMixes are zeros; risingMixes go on from byte to byte, from 0 to 255.

func noMixes() [8]api.Root { return [8]api.Root{} }

func risingMixes() [8]api.Root {
	var all [8]api.Root
	for i := range 256 {
		all[i/32][i%32] = byte(i)
	}
	return all
}

// always are so many that are active in every epoch; waves come in the epochs 0 to 4, and two thirds of them leave in 5 to 8.

func always(n int) []api.Validator { return members(n) }

func waves(n int) []api.Validator {
	all := make([]api.Validator, n)
	for i := range all {
		exit := uint64(far)
		if i%3 != 0 {
			exit = uint64(5 + i%4)
		}
		all[i] = member(uint64(i%5), exit)
	}
	return all
}

// withMixes is a right state at a slot that needn't be of the epoch that is asked for.
func withMixes(t *testing.T, mixes [8]api.Root, validators []api.Validator) api.State {
	t.Helper()
	x := withValidators(103, validators...)
	x.Mixes = mixes
	mustRight(t, x)
	return x
}

// TestKnownCommittees tells the pieces of an epoch, one behind the other: four or eight of them.
func TestKnownCommittees(t *testing.T) {
	for _, known := range []struct {
		mixes      [8]api.Root
		validators []api.Validator
		epoch      uint64
		pieces     [][]uint64
	}{
		{noMixes(), always(0), 0, [][]uint64{{}, {}, {}, {}}},
		{risingMixes(), always(0), 25, [][]uint64{{}, {}, {}, {}}},
		{noMixes(), always(1), 0, [][]uint64{{}, {}, {}, {0}}},
		{risingMixes(), always(1), 25, [][]uint64{{}, {}, {}, {0}}},
		{noMixes(), always(2), 0, [][]uint64{{}, {1}, {}, {0}}},
		{risingMixes(), always(2), 25, [][]uint64{{}, {0}, {}, {1}}},
		{noMixes(), always(3), 0, [][]uint64{{}, {2}, {0}, {1}}},
		{risingMixes(), always(3), 25, [][]uint64{{}, {2}, {1}, {0}}},
		{noMixes(), always(4), 0, [][]uint64{{1}, {3}, {0}, {2}}},
		{risingMixes(), always(4), 25, [][]uint64{{0}, {3}, {2}, {1}}},
		{noMixes(), always(5), 0, [][]uint64{{4}, {0}, {3}, {1, 2}}},
		{risingMixes(), always(5), 25, [][]uint64{{3}, {2}, {0}, {1, 4}}},
		{noMixes(), always(7), 0, [][]uint64{{1}, {4, 5}, {3, 6}, {0, 2}}},
		{risingMixes(), always(7), 25, [][]uint64{{0}, {2, 1}, {3, 6}, {4, 5}}},
		{noMixes(), always(8), 0, [][]uint64{{1, 3}, {6, 2}, {4, 0}, {7, 5}}},
		{risingMixes(), always(8), 25, [][]uint64{{3, 5}, {6, 7}, {4, 1}, {2, 0}}},
		{noMixes(), always(9), 0, [][]uint64{{8, 5}, {3, 7}, {4, 0}, {6, 2, 1}}},
		{risingMixes(), always(9), 25, [][]uint64{{5, 7}, {2, 6}, {4, 3}, {0, 1, 8}}},
		{noMixes(), always(15), 0, [][]uint64{{12, 2, 0}, {9, 10, 6, 5}, {1, 8, 13, 11}, {4, 3, 14, 7}}},
		{risingMixes(), always(15), 25, [][]uint64{{11, 1, 13}, {3, 0, 10, 6}, {8, 7, 5, 9}, {12, 2, 4, 14}}},
		{noMixes(), always(16), 0, [][]uint64{{5, 0}, {2, 9}, {4, 7}, {15, 13}, {8, 3}, {1, 10}, {14, 12}, {6, 11}}},
		{risingMixes(), always(16), 25, [][]uint64{{3, 6}, {10, 1}, {15, 8}, {5, 0}, {13, 9}, {2, 11}, {4, 12}, {14, 7}}},
		{noMixes(), always(17), 0, [][]uint64{{14, 5}, {6, 0}, {16, 3}, {2, 8}, {12, 13}, {15, 1}, {11, 4}, {7, 9, 10}}},
		{risingMixes(), always(17), 25, [][]uint64{{5, 7}, {15, 1}, {10, 12}, {3, 13}, {2, 14}, {9, 11}, {0, 6}, {16, 4, 8}}},
		{noMixes(), always(23), 0, [][]uint64{{12, 8}, {3, 21, 6}, {18, 14, 13}, {2, 9, 0}, {19, 16, 20}, {4, 22, 15}, {7, 10, 5}, {1, 17, 11}}},
		{risingMixes(), always(23), 25, [][]uint64{{6, 21}, {0, 5, 22}, {20, 8, 17}, {4, 1, 10}, {13, 19, 2}, {11, 3, 15}, {12, 7, 14}, {18, 16, 9}}},
		{noMixes(), always(24), 0, [][]uint64{{4, 23, 21}, {0, 19, 2}, {20, 18, 8}, {3, 10, 15}, {14, 12, 17}, {11, 16, 13}, {6, 22, 5}, {7, 1, 9}}},
		{risingMixes(), always(24), 25, [][]uint64{{9, 8, 5}, {17, 0, 13}, {11, 21, 10}, {14, 2, 18}, {12, 22, 1}, {3, 6, 16}, {15, 19, 4}, {20, 7, 23}}},
		{noMixes(), always(25), 0, [][]uint64{{0, 9, 14}, {12, 22, 11}, {24, 7, 23}, {16, 13, 2}, {15, 8, 19}, {21, 10, 1}, {17, 4, 3}, {20, 5, 18, 6}}},
		{risingMixes(), always(25), 25, [][]uint64{{0, 12, 15}, {17, 2, 24}, {4, 20, 7}, {21, 19, 1}, {18, 11, 14}, {13, 10, 3}, {22, 5, 23}, {8, 6, 9, 16}}},
		{noMixes(), always(31), 0, [][]uint64{{25, 11, 24}, {10, 1, 18, 9}, {6, 15, 14, 26}, {19, 12, 27, 7}, {17, 20, 13, 2}, {16, 8, 21, 28}, {23, 4, 0, 5}, {3, 30, 29, 22}}},
		{risingMixes(), always(31), 25, [][]uint64{{16, 5, 23}, {0, 30, 8, 13}, {4, 3, 27, 15}, {26, 19, 1, 24}, {7, 25, 20, 18}, {28, 14, 11, 10}, {2, 22, 9, 12}, {29, 6, 21, 17}}},
		{risingMixes(), always(3), 4611686018427387903, [][]uint64{{}, {1}, {0}, {2}}},
		{risingMixes(), always(3), 4611686018427387902, [][]uint64{{}, {1}, {0}, {2}}},
		{risingMixes(), always(8), 4611686018427387903, [][]uint64{{2, 0}, {4, 3}, {5, 7}, {6, 1}}},
		{risingMixes(), always(8), 4611686018427387902, [][]uint64{{7, 1}, {5, 6}, {3, 4}, {0, 2}}},
		{risingMixes(), always(16), 4611686018427387903, [][]uint64{{7, 5}, {11, 9}, {12, 15}, {6, 1}, {14, 0}, {3, 2}, {8, 13}, {4, 10}}},
		{risingMixes(), always(16), 4611686018427387902, [][]uint64{{3, 1}, {15, 10}, {9, 4}, {0, 2}, {7, 6}, {8, 14}, {13, 11}, {5, 12}}},
		{risingMixes(), always(17), 4611686018427387903, [][]uint64{{13, 14}, {5, 8}, {6, 1}, {2, 3}, {10, 12}, {11, 16}, {9, 0}, {4, 15, 7}}},
		{risingMixes(), always(17), 4611686018427387902, [][]uint64{{7, 0}, {2, 10}, {1, 9}, {4, 3}, {11, 8}, {15, 16}, {13, 5}, {6, 12, 14}}},
		{risingMixes(), always(40), 4611686018427387903, [][]uint64{{18, 22, 25, 9, 14}, {10, 0, 12, 27, 24}, {31, 5, 4, 33, 2}, {1, 17, 16, 37, 39}, {13, 34, 32, 28, 15}, {20, 38, 19, 36, 35}, {8, 6, 3, 30, 7}, {23, 29, 11, 26, 21}}},
		{risingMixes(), always(40), 4611686018427387902, [][]uint64{{35, 7, 12, 18, 28}, {11, 24, 16, 0, 17}, {39, 6, 32, 22, 4}, {26, 5, 38, 14, 13}, {34, 27, 36, 29, 30}, {10, 8, 33, 31, 9}, {3, 37, 1, 23, 15}, {25, 19, 20, 21, 2}}},
		{risingMixes(), waves(24), 0, [][]uint64{{15}, {0}, {20}, {10, 5}}},
		{risingMixes(), waves(24), 1, [][]uint64{{6, 10}, {20, 11, 21}, {0, 1}, {15, 5, 16}}},
		{risingMixes(), waves(24), 2, [][]uint64{{17, 2, 0}, {7, 6, 1, 11}, {10, 21, 16, 12}, {15, 20, 5, 22}}},
		{risingMixes(), waves(24), 3, [][]uint64{{10, 13}, {21, 5, 17}, {23, 7}, {3, 11, 22}, {0, 16}, {2, 15, 20}, {8, 6}, {18, 12, 1}}},
		{risingMixes(), waves(24), 4, [][]uint64{{9, 11, 3}, {4, 2, 0}, {1, 19, 5}, {21, 23, 15}, {13, 7, 10}, {12, 20, 17}, {16, 22, 18}, {8, 6, 14}}},
		{risingMixes(), waves(24), 5, [][]uint64{{13, 3}, {5, 10, 23}, {9, 17}, {6, 0, 2}, {22, 1}, {21, 19, 11}, {12, 15}, {7, 14, 18}}},
		{risingMixes(), waves(24), 6, [][]uint64{{3, 2}, {19, 7}, {23, 18}, {0, 14}, {11, 6}, {10, 15}, {21, 22}, {9, 12}}},
		{risingMixes(), waves(24), 7, [][]uint64{{9, 11, 12}, {7, 15, 0}, {3, 6, 19}, {18, 23, 21}}},
		{risingMixes(), waves(24), 8, [][]uint64{{3, 12}, {21, 9}, {15, 18}, {6, 0}}},
		{risingMixes(), waves(24), 9, [][]uint64{{15, 6}, {3, 21}, {12, 0}, {18, 9}}},
		{risingMixes(), waves(24), 10, [][]uint64{{3, 6}, {12, 9}, {18, 15}, {0, 21}}},
		{risingMixes(), waves(24), 11, [][]uint64{{12, 3}, {0, 6}, {18, 9}, {21, 15}}},
		{risingMixes(), waves(33), 2199023255552, [][]uint64{{18, 27}, {21, 0, 9}, {15, 30, 6}, {3, 24, 12}}},
		{noMixes(), waves(100), 4611686018427387903, [][]uint64{{78, 3, 24, 21}, {15, 87, 45, 48}, {66, 30, 9, 81}, {96, 18, 51, 54, 6}, {90, 27, 57, 0}, {63, 12, 33, 39}, {93, 42, 36, 72}, {99, 60, 69, 75, 84}}},
	} {
		x := withMixes(t, known.mixes, known.validators)
		count := uint64(len(known.pieces) / 4)
		wantCount(t, x, known.epoch, count)
		for k, want := range known.pieces {
			slot := 4*known.epoch + uint64(k)/count
			wantCommittee(t, x, slot, uint64(k)%count, want...)
		}
		for slot := range uint64(4) {
			wantNone(t, x, 4*known.epoch+slot, count)
		}
	}
}

// TestKnownGreatCommittees tells the hash of each piece's length and members, eight bytes each.
func TestKnownGreatCommittees(t *testing.T) {
	for _, known := range []struct {
		mixes      [8]api.Root
		validators []api.Validator
		epoch      uint64
		hash       string
	}{
		{noMixes(), always(100), 0, "cfb657122f29959dde22f943f83fe3f35dc906e20253ef67d99961fbd2e479ec"},
		{risingMixes(), always(257), 24, "637ebd3bbdca1abda113cac9d1f93a8ccf002359c10d0ff39270932b59c4d874"},
		{risingMixes(), waves(1000), 3, "7f1f1b68cb6e7a8fbe3f442f831507111b9bb00668bc1e54c7be5c443a6b14a1"},
		{risingMixes(), waves(1001), 6, "794778d28063ad1d7869602da030d9319a7da415dfa10341f9c130689730adfc"},
		{risingMixes(), always(5000), 4611686018427387903, "b93462c751e880a17afecae3e9499f978e6d75d181cc9e0085706d09ec4daa59"},
		{risingMixes(), always(65535), 26, "7f84f148b42182ad4708b4b0e66dbe44f15249639505d8c833e3f39ab02f1e7b"},
		{noMixes(), always(65536), 27, "7fec762c38e0d3aa394e58d1a366f2be406a2f82f335b246ea6834ab18237de5"},
	} {
		x := withMixes(t, known.mixes, known.validators)
		var b []byte
		for k := range uint64(8) {
			l, err := comm.Of(x, 4*known.epoch+k/2, k%2)
			if err != api.OK {
				t.Errorf("the piece %d of %d validators in epoch %d: error %d", k, len(known.validators), known.epoch, err)
			}
			b = binary.LittleEndian.AppendUint64(b, uint64(len(l)))
			for _, v := range l {
				b = binary.LittleEndian.AppendUint64(b, v)
			}
		}
		if hash := sha256.Sum256(b); hex.EncodeToString(hash[:]) != known.hash {
			t.Errorf("the committees of %d validators in epoch %d: hash %x; want %s", len(known.validators), known.epoch, hash, known.hash)
		}
	}
}

func TestKnownWho(t *testing.T) {
	for _, known := range []struct {
		mixes       [8]api.Root
		validators  []api.Validator
		slot, index uint64
		bits        string
		want        []uint64
	}{
		{noMixes(), always(3), 0, 0, "", []uint64{}},
		{noMixes(), always(3), 1, 0, "0", []uint64{}},
		{noMixes(), always(3), 1, 0, "1", []uint64{2}},
		{noMixes(), always(16), 0, 0, "11", []uint64{0, 5}},
		{noMixes(), always(16), 0, 1, "10", []uint64{2}},
		{noMixes(), always(16), 3, 1, "01", []uint64{11}},
		{noMixes(), always(15), 1, 0, "1101", []uint64{5, 9, 10}},
		{noMixes(), always(15), 0, 0, "111", []uint64{0, 2, 12}},
		{noMixes(), always(15), 3, 0, "1111", []uint64{3, 4, 7, 14}},
		{risingMixes(), always(40), 101, 0, "11111", []uint64{2, 7, 12, 21, 32}},
		{risingMixes(), always(40), 102, 1, "10101", []uint64{20, 22, 37}},
		{risingMixes(), always(40), 103, 1, "01110", []uint64{0, 14, 19}},
		{risingMixes(), always(100), 18446744073709551615, 1, "1111111111111", []uint64{9, 17, 19, 25, 29, 38, 41, 42, 44, 63, 64, 70, 87}},
		{risingMixes(), always(100), 18446744073709551614, 0, "101010101010", []uint64{8, 10, 14, 27, 50, 85}},
		{risingMixes(), always(100), 18446744073709551612, 0, "000000000000", []uint64{}},
		{risingMixes(), waves(60), 29, 1, "1011", []uint64{21, 31, 42}},
		{risingMixes(), waves(60), 10, 0, "1011", []uint64{12, 21, 36}},
		{risingMixes(), waves(60), 11, 1, "10110", []uint64{31, 32, 35}},
	} {
		x := withMixes(t, known.mixes, known.validators)
		wantWho(t, x, known.slot, known.index, bitsOf(known.bits), known.want...)
		if !slices.IsSorted(known.want) {
			t.Errorf("the test's own answer %d isn't rising", known.want)
		}
	}
}
