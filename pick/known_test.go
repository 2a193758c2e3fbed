package pick_test

import (
	"crypto/sha256"
	"encoding/hex"
	"testing"

	"pharos/api"
	"pharos/pick"
)

// Answers that were reckoned apart from the program.

// none is told where there is no proposer.
const none = -1

// noMixes are zeros; risingMixes go on from byte to byte, from 0 to 255.

func noMixes() [8]api.Root { return [8]api.Root{} }

func risingMixes() [8]api.Root {
	var all [8]api.Root
	for i := range 256 {
		all[i/32][i%32] = byte(i)
	}
	return all
}

// always are so many that are active in every epoch, with so many Increments each; stairs have from 0 to 32 Increments, one after the other; waves come in the epochs 0 to 4, and two thirds of them leave in 5 to 8.

func always(n int, increments uint64) []api.Validator { return members(n, increments) }

func stairs(n int) []api.Validator {
	all := members(n, 0)
	for i := range all {
		all[i].Effective = uint64(i%33) * gwei
	}
	return all
}

func waves(n int) []api.Validator {
	all := make([]api.Validator, n)
	for i := range all {
		exit := uint64(far)
		if i%3 != 0 {
			exit = uint64(5 + i%4)
		}
		all[i] = member(uint64(7*i%33), uint64(i%5), exit)
	}
	return all
}

// rising is a key whose bytes go on from those of the one ahead of it, up to 250 and round again.
func rising(k int) api.Key {
	var key api.Key
	for i := range key {
		key[i] = byte((48*k + i) % 251)
	}
	return key
}

func risings(n int) []api.Key {
	var all []api.Key
	for k := range n {
		all = append(all, rising(k))
	}
	return all
}

func withMixes(t *testing.T, mixes [8]api.Root, validators []api.Validator, slot uint64) api.State {
	t.Helper()
	x := withValidators(slot, validators...)
	for i := range x.Validators {
		x.Validators[i].Key = rising(i)
	}
	x.Mixes = mixes
	mustRight(t, x)
	return x
}

func TestKnownChoices(t *testing.T) {
	for _, known := range []struct {
		mixes      [8]api.Root
		validators []api.Validator
		slot       uint64
		proposer   int
		sync       []uint64
	}{
		{noMixes(), always(0, 32), 0, none, nil},
		{risingMixes(), always(0, 32), 100, none, nil},
		{noMixes(), always(1, 32), 0, 0, []uint64{0, 0, 0, 0, 0, 0, 0, 0}},
		{risingMixes(), always(1, 32), 101, 0, []uint64{0, 0, 0, 0, 0, 0, 0, 0}},
		{noMixes(), always(2, 32), 0, 1, []uint64{1, 0, 1, 0, 1, 0, 1, 0}},
		{risingMixes(), always(2, 32), 102, 1, []uint64{0, 1, 0, 1, 0, 1, 0, 1}},
		{noMixes(), always(3, 32), 0, 0, []uint64{1, 0, 2, 1, 0, 2, 1, 0}},
		{risingMixes(), always(3, 32), 103, 2, []uint64{0, 1, 2, 0, 1, 2, 0, 1}},
		{noMixes(), always(5, 32), 0, 4, []uint64{1, 2, 0, 3, 4, 1, 2, 0}},
		{risingMixes(), always(5, 32), 100, 3, []uint64{1, 0, 2, 3, 4, 1, 0, 2}},
		{noMixes(), always(8, 32), 0, 0, []uint64{5, 6, 1, 0, 4, 3, 2, 7}},
		{risingMixes(), always(8, 32), 101, 4, []uint64{3, 1, 2, 7, 4, 5, 6, 0}},
		{noMixes(), always(32, 32), 0, 24, []uint64{3, 2, 12, 26, 23, 25, 16, 20}},
		{risingMixes(), always(32, 32), 102, 10, []uint64{31, 15, 6, 9, 10, 26, 18, 7}},
		{noMixes(), always(33, 32), 0, 15, []uint64{16, 26, 6, 27, 20, 12, 17, 1}},
		{risingMixes(), always(33, 32), 103, 20, []uint64{12, 24, 7, 6, 11, 4, 2, 16}},
		{noMixes(), always(255, 32), 0, 30, []uint64{25, 194, 200, 56, 193, 51, 161, 2}},
		{risingMixes(), always(255, 32), 100, 0, []uint64{153, 98, 59, 90, 180, 130, 168, 129}},
		{noMixes(), always(256, 32), 0, 198, []uint64{200, 36, 153, 121, 91, 148, 231, 66}},
		{risingMixes(), always(256, 32), 101, 144, []uint64{125, 116, 164, 84, 244, 247, 119, 246}},
		{noMixes(), always(257, 32), 0, 219, []uint64{232, 79, 203, 100, 234, 178, 201, 62}},
		{risingMixes(), always(257, 32), 102, 58, []uint64{211, 7, 235, 253, 187, 58, 147, 239}},
		{noMixes(), always(1000, 32), 0, 93, []uint64{962, 785, 948, 514, 653, 418, 655, 682}},
		{risingMixes(), always(1000, 32), 103, 793, []uint64{855, 995, 950, 547, 439, 69, 511, 205}},
		{noMixes(), always(1, 0), 0, 0, nil},
		{risingMixes(), always(1, 1), 1, 0, []uint64{0, 0, 0, 0, 0, 0, 0, 0}},
		{risingMixes(), always(1, 17), 1, 0, []uint64{0, 0, 0, 0, 0, 0, 0, 0}},
		{risingMixes(), always(2, 0), 4, 0, nil},
		{noMixes(), always(2, 1), 5, 0, nil},
		{noMixes(), always(2, 17), 5, 0, []uint64{1, 1, 1, 0, 1, 1, 0, 1}},
		{noMixes(), always(3, 0), 8, 1, nil},
		{risingMixes(), always(3, 1), 9, 1, nil},
		{risingMixes(), always(3, 17), 9, 0, []uint64{1, 2, 2, 0, 2, 0, 2, 1}},
		{risingMixes(), always(32, 0), 12, 7, nil},
		{noMixes(), always(32, 1), 13, 17, []uint64{8, 5, 15, 9, 3, 1, 5, 20}},
		{noMixes(), always(32, 17), 13, 30, []uint64{7, 22, 3, 8, 30, 6, 25, 5}},
		{noMixes(), always(33, 0), 16, none, nil},
		{risingMixes(), always(33, 1), 17, 24, []uint64{4, 20, 12, 7, 14, 20, 32, 31}},
		{risingMixes(), always(33, 17), 17, 29, []uint64{3, 16, 11, 25, 13, 1, 2, 4}},
		{risingMixes(), always(255, 0), 20, none, nil},
		{noMixes(), always(255, 1), 21, 173, []uint64{59, 137, 36, 232, 67, 75, 132, 220}},
		{noMixes(), always(255, 17), 21, 147, []uint64{197, 163, 230, 236, 17, 64, 59, 62}},
		{noMixes(), always(256, 0), 24, none, nil},
		{risingMixes(), always(256, 1), 25, 208, nil},
		{risingMixes(), always(256, 17), 25, 143, []uint64{70, 237, 164, 27, 69, 46, 37, 217}},
		{risingMixes(), always(257, 0), 28, 56, nil},
		{noMixes(), always(257, 1), 29, 137, nil},
		{noMixes(), always(257, 17), 29, 130, []uint64{188, 143, 55, 255, 103, 160, 199, 96}},
		{noMixes(), always(1000, 0), 32, none, nil},
		{risingMixes(), always(1000, 1), 33, 809, nil},
		{risingMixes(), always(1000, 17), 33, 553, []uint64{865, 627, 5, 598, 183, 937, 785, 719}},
		{risingMixes(), stairs(40), 0, 28, []uint64{21, 17, 12, 28, 22, 26, 27, 25}},
		{risingMixes(), stairs(40), 1, 22, []uint64{21, 17, 12, 28, 22, 26, 27, 25}},
		{risingMixes(), stairs(40), 2, 29, []uint64{21, 17, 12, 28, 22, 26, 27, 25}},
		{risingMixes(), stairs(40), 3, 30, []uint64{21, 17, 12, 28, 22, 26, 27, 25}},
		{risingMixes(), stairs(40), 4, 9, []uint64{28, 16, 19, 24, 30, 26, 3, 29}},
		{risingMixes(), stairs(40), 5, 18, []uint64{28, 16, 19, 24, 30, 26, 3, 29}},
		{risingMixes(), stairs(40), 6, 28, []uint64{28, 16, 19, 24, 30, 26, 3, 29}},
		{risingMixes(), stairs(40), 7, 32, []uint64{28, 16, 19, 24, 30, 26, 3, 29}},
		{risingMixes(), stairs(40), 101, 31, []uint64{31, 30, 27, 4, 32, 14, 22, 21}},
		{risingMixes(), stairs(40), 102, 17, []uint64{31, 30, 27, 4, 32, 14, 22, 21}},
		{risingMixes(), stairs(40), 103, 15, []uint64{31, 30, 27, 4, 32, 14, 22, 21}},
		{risingMixes(), stairs(40), 1099511627772, 25, []uint64{26, 16, 24, 21, 13, 17, 31, 22}},
		{risingMixes(), stairs(40), 1099511627773, 28, []uint64{26, 16, 24, 21, 13, 17, 31, 22}},
		{risingMixes(), stairs(40), 1099511627774, 32, []uint64{26, 16, 24, 21, 13, 17, 31, 22}},
		{risingMixes(), stairs(40), 1099511627775, 30, []uint64{26, 16, 24, 21, 13, 17, 31, 22}},
		{risingMixes(), waves(24), 0, 20, []uint64{21, 15, 6, 16, 10, 11, 5, 11}},
		{risingMixes(), waves(24), 3, 20, []uint64{21, 15, 6, 16, 10, 11, 5, 11}},
		{risingMixes(), waves(24), 7, 21, []uint64{6, 2, 22, 5, 11, 21, 7, 2}},
		{risingMixes(), waves(24), 11, 11, []uint64{15, 7, 8, 16, 18, 13, 3, 20}},
		{risingMixes(), waves(24), 15, 23, []uint64{7, 13, 4, 18, 22, 23, 3, 14}},
		{risingMixes(), waves(24), 16, 22, []uint64{15, 9, 3, 18, 13, 11, 17, 12}},
		{risingMixes(), waves(24), 19, 14, []uint64{15, 9, 3, 18, 13, 11, 17, 12}},
		{risingMixes(), waves(24), 20, 21, []uint64{9, 14, 7, 23, 3, 22, 18, 21}},
		{risingMixes(), waves(24), 23, 2, []uint64{9, 14, 7, 23, 3, 22, 18, 21}},
		{risingMixes(), waves(24), 27, 18, []uint64{23, 12, 6, 3, 9, 23, 7, 21}},
		{risingMixes(), waves(24), 28, 9, []uint64{12, 18, 12, 3, 9, 18, 12, 6}},
		{risingMixes(), waves(24), 31, 9, []uint64{12, 18, 12, 3, 9, 18, 12, 6}},
		{risingMixes(), waves(24), 35, 18, []uint64{9, 18, 3, 12, 21, 9, 18, 3}},
		{risingMixes(), waves(24), 1099511627775, 21, []uint64{12, 15, 18, 9, 3, 12, 15, 18}},
		{noMixes(), stairs(65535), 103, 24976, []uint64{22260, 62069, 63254, 6754, 16617, 8081, 52556, 36063}},
		{noMixes(), stairs(65536), 103, 4137, []uint64{12599, 63612, 48077, 62320, 52961, 13291, 25176, 25902}},
		{noMixes(), always(65536, 1), 103, 54450, []uint64{53366, 23342, 18619, 49881, 206, 21515, 54671, 47858}},
		{risingMixes(), always(3, 0), 62, 2, nil},
		{risingMixes(), always(3, 0), 1385, 0, nil},
		{risingMixes(), always(3, 0), 565, 1, nil},
		{risingMixes(), always(4, 1), 376, 0, []uint64{1, 3, 2, 0, 0, 2, 2, 1}},
		{risingMixes(), always(4, 1), 124, 0, []uint64{3, 1, 1, 2, 0, 2, 0, 2}},
		{risingMixes(), always(4, 1), 1660, 3, []uint64{3, 1, 2, 2, 2, 0, 2, 1}},
		{risingMixes(), always(4, 1), 1116, 1, []uint64{1, 2, 1, 0, 2, 1, 2, 2}},
	} {
		x := withMixes(t, known.mixes, known.validators, known.slot)
		if known.proposer == none {
			wantNoProposer(t, x)
		} else {
			wantProposer(t, x, uint64(known.proposer))
		}
		if known.sync == nil {
			wantNoSync(t, x)
		} else {
			wantSync(t, x, known.sync...)
		}
	}
}

func TestKnownSums(t *testing.T) {
	for _, known := range []struct {
		keys []api.Key
		want string
	}{
		{nil, "e3b0c44298fc1c149afbf4c8996fb92427ae41e4649b934ca495991b7852b8555df6e0e2761359d30a8275058e299fcc"},
		{[]api.Key{{}}, "17b0761f87b081d5cf10757ccc89f12be355c70e2e29df288b65b30710dcbcd13126699de7d6dd866bd2989eda9b230f"},
		{[]api.Key{rising(0)}, "4dbdc2b2b62cb00749785bc84202236dbc3777d74660611b8e58812f0cfde6c3d68015a49a0534894520514bc908133e"},
		{[]api.Key{rising(0), rising(1)}, "08359b108fa567f5dcf319fa3434da6abbc1d595f426372666447f09cc5a87dc3198e166b9838b1197e95db73260f815"},
		{[]api.Key{rising(1), rising(0)}, "d41d559270b9ee078d6d46f1f63547172173b3ba1df4f00c77bde438807dbf98165303a41f9fcb842415a705c4e937f1"},
		{[]api.Key{rising(0), rising(0)}, "c35f229e7e934c5eedf4007e5d9c1466d8f752fff5072a6b8597d1eb30263ee7200c018080c9dfbdd821a67f1bdd0e49"},
		{risings(3), "66f952a83339274eb287b64ef7b028d88915ac6df06a183f7c0436fa2b25107b87462a3c536eb684f15861fd9a58a436"},
		{risings(4), "8b4a544837a1a0280fa8a7c82865c27a1064b3cc6281fda0753566b9bb104a873e3a04222b2636a99e9d3a23205565b1"},
		{risings(5), "abf4bafcddb38bbf3855e47b5e61b75dedbcf42aa44ffd4bb85d0b08d97e2682535c8435abb17b8f30bd0e0b410204fa"},
		{risings(8), "085f12ff09b2f8ff36c44d6d9fad1eb95eef3f8ee79f1196eab73702bec4034407aa36de2139c713ed60dc1168a73fa3"},
		{risings(64), "5f24b2f16026ec7d0450a5a08283d3cfd47302fe859f579ed79fe7d2663b73f9acce683cc40bcce1d2fc83d70aaee076"},
		{risings(1000), "23900eb442d833a72ea3700427542258c06462388621488c5471b624ee5c345cf3b03a073068e8c8540618cdca32e48b"},
	} {
		if got := pick.Sum(known.keys); hex.EncodeToString(got[:]) != known.want {
			t.Errorf("Sum of %d keys: %x; want %s", len(known.keys), got, known.want)
		}
	}
}

// TestKnownCommittees tells the hash of the keys and their sum, one behind the other.
func TestKnownCommittees(t *testing.T) {
	for _, known := range []struct {
		mixes      [8]api.Root
		validators []api.Validator
		slot       uint64
		hash       string
	}{
		{noMixes(), always(1, 32), 0, "1bac61524ea7db6423a6d6d76b8c8fc2582f2191d9af7ec7fc97f39454ef19a4"},
		{risingMixes(), always(3, 17), 101, "f0cfe871b8816ff8a24554aad5ed744831bbf9b9edcd7156b912352c3b3359ed"},
		{risingMixes(), stairs(40), 1099511627775, "0bb36daeac71c73e98d145e48420c2bc764e0552014b8eca30eb8a0a45698573"},
		{risingMixes(), waves(24), 19, "56a2ab2f2ea12452bc3131589972e56c74837062cf49546ebb3f68167c1dac05"},
		{noMixes(), stairs(1000), 50, "f22c56d5c3c8fcf81fbdefe4dcaf7d668bc207f7235051da53725821ce07a8b7"},
	} {
		c, err := pick.Next(withMixes(t, known.mixes, known.validators, known.slot))
		var b []byte
		for _, key := range append(c.Keys[:], c.Sum) {
			b = append(b, key[:]...)
		}
		if hash := sha256.Sum256(b); hex.EncodeToString(hash[:]) != known.hash || err != api.OK {
			t.Errorf("Next of %d validators at slot %d: hash %x, error %d; want %s", len(known.validators), known.slot, hash, err, known.hash)
		}
	}
}
