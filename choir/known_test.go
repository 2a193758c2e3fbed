package choir_test

import (
	"crypto/sha256"
	"encoding/binary"
	"encoding/hex"
	"fmt"
	"testing"

	"pharos/api"
	"pharos/choir"
)

// Answers that were reckoned apart from the program, in another language.

// rise so many bytes from a first one on, each one more than the last.
func rise(first, n int) []byte {
	b := make([]byte, n)
	for i := range b {
		b[i] = byte(first + i)
	}
	return b
}

func riseRoot(first int) api.Root { return api.Root(rise(first, 32)) }

// risingKey is one whose bytes go on from those of the one ahead of it, up to 250 and round again, so that the 252nd is the first one again.
func risingKey(k int) api.Key {
	var key api.Key
	for i := range key {
		key[i] = byte((48*k + i) % 251)
	}
	return key
}

// riseState has so many validators, of whom a quarter isn't active yet, with about so many Increments each, and with balances that rise; a step lies between the committee's members.
func riseState(n int, increments, slot, rises uint64, step int) api.State {
	x := withValidators(slot, members(n, increments)...)
	for i := range x.Validators {
		v := &x.Validators[i]
		v.Key = risingKey(i)
		if increments > 3 {
			v.Effective -= uint64(i%3) * gwei
		}
		if i%4 == 1 {
			v.Activation = slot/4 + 1
		}
		x.Balances[i] = rises * uint64(i)
	}
	for i := range 8 {
		x.Mixes[i], x.BlockRoots[i] = riseRoot(32*i), riseRoot(40+i)
		x.Sync.Keys[i] = risingKey((step*i + 1) % n)
	}
	x.GenesisRoot = riseRoot(7)
	return x
}

// sumOf all balances.
func sumOf(x api.State) string {
	var b []byte
	for _, balance := range x.Balances {
		b = binary.LittleEndian.AppendUint64(b, balance)
	}
	return text(sha256.Sum256(b))
}

// text of the front half of a root.
func text(root api.Root) string { return hex.EncodeToString(root[:16]) }

// known answers to an aggregate whose bits are those of a number, the lowest first.
type known struct {
	n                int
	increments, slot uint64
	bits             int
	rises            uint64
	step             int
	share, more      uint64
	question, sum    string
}

func TestKnown(t *testing.T) {
	for _, k := range knowns() {
		what := fmt.Sprintf("slot %d, %d validators", k.slot, k.n)
		x := riseState(k.n, k.increments, k.slot, k.rises, k.step)
		mustRight(t, x)
		a := eachBits()[k.bits]
		a.Sig = api.Sig(rise(3, 96))
		if share, more := choir.Shares(x); share != k.share || more != k.more {
			t.Errorf("Shares, %s: %d, %d; want %d, %d", what, share, more, k.share, k.more)
		}
		y, asked, err := choir.Sync(x, a, nil)
		if err != api.OK || len(asked) != 1 || text(asked[0]) != k.question || sumOf(y) != k.sum {
			t.Errorf("%s: asked %x, error %d, sum %s", what, asked, err, sumOf(y))
		}
	}
}

func knowns() []known {
	return []known{
		{1, 32, 1, 255, 0, 1, 11180, 1597, "c3fd7501df6d49dc7cff431b0b13d920", "58c9f3c617f2ed519cf6958b061e14eb"},
		{1, 32, 4, 1, 0, 1, 11180, 1597, "bae0c756ff5228b40c27a675ab04aaff", "af5570f5a1810b7af78caf4bc70a660f"},
		{1, 32, 39, 128, 0, 1, 11180, 1597, "97332183492246e8c34ed8a8287cf253", "9500cca06a7d882f147fc9498ef73bde"},
		{1, 32, 40, 90, 0, 1, 11180, 1597, "983d85b75394c48956317c8c6a82bdda", "5e2920b779bef89997d1dea4f9a89bd0"},
		{1, 32, 41, 199, 0, 1, 11180, 1597, "8119ca59ac3421ed7accbe87c83b4974", "a277b1e405ecfd7302c50c06a2836463"},
		{1, 32, 103, 49, 0, 1, 11180, 1597, "d68c5251b2097563cf76883a86f35e3b", "89dae2bbb6f3580594114e82d74b8a57"},
		{1, 32, 1099511627775, 0, 0, 1, 11180, 1597, "482db8f2c34ef55e4b1a288f752fcc2e", "af5570f5a1810b7af78caf4bc70a660f"},
		{2, 32, 1, 1, 90000, 1, 11180, 1597, "7394aa3f29bd89ee1e43f4440ffe769c", "ea72e5626563943a4fa63e494aeb2e26"},
		{2, 32, 4, 128, 90000, 1, 11180, 1597, "bae0c756ff5228b40c27a675ab04aaff", "0f653a331faaede53223afc3327182de"},
		{2, 32, 39, 90, 90000, 1, 11180, 1597, "38f592a0a8ad0f8928c83dcb9675f072", "02861cfeb80499879c4c98cecb172be2"},
		{2, 32, 40, 199, 90000, 1, 11180, 1597, "a4fb76c3465c1615ffca3a9abab61151", "a48c4cada82a8556f0347e11896ed3bb"},
		{2, 32, 41, 49, 90000, 1, 11180, 1597, "2c84f8b083809dcbf3b57a1f2ef7e25f", "91a69eaccadb40efa96530c9f35dae76"},
		{2, 32, 103, 0, 90000, 1, 11180, 1597, "482db8f2c34ef55e4b1a288f752fcc2e", "6e05cbbe4639ee159bedf91d46b36aaa"},
		{2, 32, 1099511627775, 255, 90000, 1, 11180, 1597, "1440ac3ee19f2a445f22f3ce3e757358", "028270c16a18f78099ebb4936179c1a4"},
		{3, 17, 1, 128, 5000, 2, 11180, 1597, "d4f3e3b5bafe327a5d0b41852c1c744b", "50304f84582e71d02828b0461ccecede"},
		{3, 17, 4, 90, 5000, 2, 11180, 1597, "4251e3e89d70a6ff24d9ce9249725fcc", "9bbf72129597fd8a969bb48a532b0da2"},
		{3, 17, 39, 199, 5000, 2, 11180, 1597, "3e45aeb3322dee7e634594d07ea7719b", "2c404b8b3f77bd2e0840e294bed12b5d"},
		{3, 17, 40, 49, 5000, 2, 11180, 1597, "81139de09931d14ce63263051cf337a5", "61eb070e49c52ea22e480f24ca68d290"},
		{3, 17, 41, 0, 5000, 2, 11180, 1597, "5095f8ea908bcfb782f8d53ae6a156e9", "9d908ecfb6b256def8b49a7c504e6c88"},
		{3, 17, 103, 255, 5000, 2, 11180, 1597, "a5ccd4758ea059e65777c9da1f3ce5db", "c03d9a515d8d5d3ccae817b0255dbeb2"},
		{3, 17, 1099511627775, 1, 5000, 2, 11180, 1597, "bb1baeca48ba14cfdf93c06165b1b945", "9d908ecfb6b256def8b49a7c504e6c88"},
		{8, 32, 1, 255, 1000, 1, 27099, 3871, "e7fd4798555bf518f6c6620189a7608d", "e1a30195769f61baaff188c3e3181930"},
		{8, 32, 4, 1, 1000, 1, 27099, 3871, "e5a6a7f3d9e208e9672a9db57d8e7a63", "ea2370a06ec0879d3c92d3831f9e9097"},
		{8, 32, 39, 128, 1000, 1, 27099, 3871, "97332183492246e8c34ed8a8287cf253", "188be5ba6e8f17af51db3ccdb6da4fba"},
		{8, 32, 40, 90, 1000, 1, 27099, 3871, "200b2e4b396a7e485432fcbe9a75f832", "a7fa3b5c3596ef78e0fa156a833a295b"},
		{8, 32, 41, 199, 1000, 1, 27099, 3871, "a3999cc2893546337ab0c21e0995d741", "70e899607c01be03f551d12e827f7ac3"},
		{8, 32, 103, 49, 1000, 1, 27099, 3871, "a608f2fba672b1c9fc9c084da13557b0", "fa41c93056b9242319cc5b8f6ffec595"},
		{8, 32, 1099511627775, 0, 1000, 1, 27099, 3871, "482db8f2c34ef55e4b1a288f752fcc2e", "f5a5fd42d16a20302798ef6ed309979b"},
		{9, 5, 1, 1, 300, 4, 10643, 1520, "7394aa3f29bd89ee1e43f4440ffe769c", "145dd4c17e69f57a62ebdaa5c7d0e987"},
		{9, 5, 4, 128, 300, 4, 10643, 1520, "bebc965aebb3fe7792a95abcc8c2ec52", "fd7a1ad07d32e68cadb6729cf2654137"},
		{9, 5, 39, 90, 300, 4, 10643, 1520, "8c6bd97fe56d085da49e1608618b2443", "4cd36a2f861e43bb18f3fbb9fa1310a4"},
		{9, 5, 40, 199, 300, 4, 10643, 1520, "b4cd5e9f591b406e22efa901be7a2975", "3000bc84a8324ad5a26c1d482c5025b4"},
		{9, 5, 41, 49, 300, 4, 10643, 1520, "175d33388bd4c9b4f4295ae2f3c5a87a", "4b199d216164e8d435f71ba013ef1285"},
		{9, 5, 103, 0, 300, 4, 10643, 1520, "482db8f2c34ef55e4b1a288f752fcc2e", "d13b5baf0096f1226d6e6e0b616f1000"},
		{9, 5, 1099511627775, 255, 300, 4, 10643, 1520, "6f7917ed84f9071ed948eba65bac1090", "e6e91df319e9ce68d17d17a539b86402"},
		{16, 32, 1, 1, 7000000000, 3, 38170, 5452, "7394aa3f29bd89ee1e43f4440ffe769c", "e06d7b2a389073dd919838f8bc7e5a86"},
		{16, 32, 4, 128, 7000000000, 3, 38170, 5452, "9a5746c4c10775614665a49ae48b1cff", "0bdddc08a9e6807ee555e27b73d2fb22"},
		{16, 32, 39, 90, 7000000000, 3, 38170, 5452, "687d7d7cd1ab9e63bf96c7f3df112558", "bc05ca6f47cfcd33c1eafbd00def75a8"},
		{16, 32, 40, 199, 7000000000, 3, 38170, 5452, "2b646d5579e170bd0eea5da9c7f69179", "ddc595994529b2b11805b65dc7f096ad"},
		{16, 32, 41, 49, 7000000000, 3, 38170, 5452, "960bbbb79a513cf633452e7549710a34", "9876c66de3cfdbb091fb97d892352ec9"},
		{16, 32, 103, 0, 7000000000, 3, 38170, 5452, "482db8f2c34ef55e4b1a288f752fcc2e", "a72681a9f3f412d120b0e3187d58ecca"},
		{16, 32, 1099511627775, 255, 7000000000, 3, 38170, 5452, "27f3a8f5d982943c98616a824deb25fd", "47085bffd0e42eeddf5fa7f959354ed5"},
		{40, 31, 1, 199, 2000, 7, 59325, 8475, "b44ad43ac9af928d4c718842c35df996", "4460a5d13314abf98c6fddbfb6e149cd"},
		{40, 31, 4, 49, 2000, 7, 59325, 8475, "f62cc14b27f9bcd527178973af0e893f", "36461d43e7d7685f1396781512d2ff19"},
		{40, 31, 39, 0, 2000, 7, 59325, 8475, "23c0551f319ee6c865c73bed4cd3f39b", "deed34bd65b5d82e74933a789d380c02"},
		{40, 31, 40, 255, 2000, 7, 59325, 8475, "a6f8c008589c12d8a8172aa74c6afecf", "3950e5955224267bb7ecd74352524249"},
		{40, 31, 41, 1, 2000, 7, 59325, 8475, "4210d5e365514de72f043a93da207164", "b7f6b906afa05381d45c442ea4a16ea6"},
		{40, 31, 103, 128, 2000, 7, 59325, 8475, "88841f9eb9cf65f8a54fc7f2d86000d8", "f90ad90e34418bc9c8023fec470f3643"},
		{40, 31, 1099511627775, 90, 2000, 7, 59325, 8475, "914bad0c465d1190a4bba906c7727301", "833a656b32d873cea418db4ca8e803c0"},
		{100, 20, 1, 1, 100, 13, 74633, 10661, "7394aa3f29bd89ee1e43f4440ffe769c", "7cafa30fcfe4423b8de14755e0f20a29"},
		{100, 20, 4, 128, 100, 13, 74633, 10661, "4e32267834fd285ff03063b4bcf7261e", "76c28f9b5f872225e1458ddd1059c627"},
		{100, 20, 39, 90, 100, 13, 74633, 10661, "2d07341aaf92eaaff0cefdd09f3fe0f8", "009537e3fae7837aa6899904859e1e88"},
		{100, 20, 40, 199, 100, 13, 74633, 10661, "460ca6b9560b09a6b60edf946aa5c5ab", "d38977a27803cfcb6a9ff719908a9137"},
		{100, 20, 41, 49, 100, 13, 74633, 10661, "fd55d3a3a383fb7086540117b5c9a379", "59ad84095b32e33929bf562a0b67694a"},
		{100, 20, 103, 0, 100, 13, 74633, 10661, "482db8f2c34ef55e4b1a288f752fcc2e", "82fb4d0869559bcf9265a913a8ee71c3"},
		{100, 20, 1099511627775, 255, 100, 13, 74633, 10661, "38b061d92d69e24e21f7965638bf0c45", "a2dadfbc60cbbbda6d8158a530a9eb90"},
		{257, 32, 1, 199, 400, 101, 152884, 21840, "52a057479f4aa0fef5a22f836858af13", "37e7130ea68805963cf33098e33e9b84"},
		{257, 32, 4, 49, 400, 101, 152884, 21840, "42752f723e343a6d29ac1599ac4ccdd3", "b52d6f20d7e553fb05219bc82a5d0248"},
		{257, 32, 39, 0, 400, 101, 152884, 21840, "23c0551f319ee6c865c73bed4cd3f39b", "ef3110fddf3ad3d6088ac73e27f78153"},
		{257, 32, 40, 255, 400, 101, 152884, 21840, "97aa6f20e4dae3cd9e614c802c81d067", "c3e50ade9220991ed75708e1c28ae420"},
		{257, 32, 41, 1, 400, 101, 152884, 21840, "4210d5e365514de72f043a93da207164", "dd9933e55c4bfdac1596d3bfdac62b2c"},
		{257, 32, 103, 128, 400, 101, 152884, 21840, "5579c83c5a61e0a6b5055e6ec3823fcb", "494061f6520ba9a2b6ad745356db33fd"},
		{257, 32, 1099511627775, 90, 400, 101, 152884, 21840, "efecac6c07a4c543df59b3282cc98fa1", "0231519966e75036feac3874d90e7096"},
		{300, 1, 1, 49, 50, 77, 29646, 4235, "158ce0ee3ea39cf16811a223341b0672", "d802097c3499ef1a961209a68a3593cf"},
		{300, 1, 4, 0, 50, 77, 29646, 4235, "e9ae6507b8c0c6f80da57ce7e046d198", "eadc9674618be3f28e071bdef8c0475d"},
		{300, 1, 39, 255, 50, 77, 29646, 4235, "84ef9ee52a59173e70c78bad0d15a7ea", "381d01410daebe3f77e9d56ab967da23"},
		{300, 1, 40, 1, 50, 77, 29646, 4235, "e0d9a524e19626b0af62e91334a1b260", "4eae17c96b3da54494bafdd98b4d6359"},
		{300, 1, 41, 128, 50, 77, 29646, 4235, "6c2ba983c4f3b817a6d83e77194aac64", "d10b03c5ed44080287ae9eda9f737b08"},
		{300, 1, 103, 90, 50, 77, 29646, 4235, "a8ee6927376fc21349d329656c63411b", "2573e21cd4a37e6d431e7784cc8a59f4"},
		{300, 1, 1099511627775, 199, 50, 77, 29646, 4235, "829222ea315188741a90c4ed98b11b12", "dd0018778adc5548609a3fe747ed0c59"},
		{1000, 32, 1, 49, 3000, 251, 301354, 43050, "d61d5dd38b3ed93397a48345b91a7426", "aeee899915404cbd917924c3bae9555d"},
		{1000, 32, 4, 0, 3000, 251, 301354, 43050, "e9ae6507b8c0c6f80da57ce7e046d198", "3b2593c4840f71c245263ed310198938"},
		{1000, 32, 39, 255, 3000, 251, 301354, 43050, "dbc444af98b9fbfc24fbfc61b887bdfd", "f7123561f45b6bc9403a8235af945926"},
		{1000, 32, 40, 1, 3000, 251, 301354, 43050, "e0d9a524e19626b0af62e91334a1b260", "73e800ee2f75a1f07c557131aaeeb454"},
		{1000, 32, 41, 128, 3000, 251, 301354, 43050, "3f29cc62f60523c41b8bb9396c0ae735", "e2963cfdd5a20d9ea1484f88b7c2fb8e"},
		{1000, 32, 103, 90, 3000, 251, 301354, 43050, "e95b5c888ce4baacdea8161110acd4db", "ae61154c7ee916b37a85588d9d1fd483"},
		{1000, 32, 1099511627775, 199, 3000, 251, 301354, 43050, "cdf5ac9dba1e48fcbb1283905da5afc8", "223e5bbf872051c6b9ca3114b746ae50"},
	}
}
