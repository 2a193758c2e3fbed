package join_test

import (
	"crypto/sha256"
	"encoding/binary"
	"encoding/hex"
	"fmt"
	"testing"

	"pharos/api"
	"pharos/join"
)

// Answers that were reckoned apart from the program, in another language.

// rise so many bytes from a first one on, each one more than the last.
func rise(first, n int) []byte {
	b := make([]byte, n)
	for i := range b {
		b[i] = byte(first + i)
	}
	return b
}

func riseRoot(first int) api.Root { return api.Root(rise(first, 32)) }

// risingKey is one whose bytes go on from those of the one ahead of it, up to 250 and round again, so that the 252nd is the first one again.
func risingKey(k int) api.Key {
	var key api.Key
	for i := range key {
		key[i] = byte((48*k + i) % 251)
	}
	return key
}

// riseState has so many validators, of several kinds, of whom a quarter leaves already.
func riseState(n int, slot, deposits uint64) api.State {
	x := withValidators(slot, members(n, 0)...)
	epoch := slot / 4
	for i := range x.Validators {
		v, k := &x.Validators[i], uint64(i)
		v.Key, v.Credentials = risingKey(i), riseRoot(i)
		v.Effective, v.Slashed, v.Eligible, v.Activation = k%33*gwei, i%5 == 2, k, max(epoch, k%4)-k%4
		if i%4 == 1 {
			v.Exit = epoch + 3 + k%3
			v.Withdrawable = v.Exit + 2
		}
		x.Balances[i], x.Previous[i], x.Current[i], x.Scores[i] = k*gwei+k, uint8(i%8), uint8((i+1)%8), k+4
	}
	x.GenesisRoot, x.Deposits = riseRoot(7), deposits
	return x
}

func riseDeposit(who int, amount uint64) api.Deposit {
	d := api.Deposit{Data: api.DepositData{Key: risingKey(who), Credentials: riseRoot(9), Amount: amount, Sig: api.Sig(rise(1, 96))}}
	for i := range d.Proof {
		d.Proof[i] = riseRoot(20 + i)
	}
	return d
}

// sumOf all validators, what belongs to each, and Deposits.
func sumOf(x api.State) string {
	var b []byte
	for i, v := range x.Validators {
		slashed := byte(0)
		if v.Slashed {
			slashed = 1
		}
		b = append(append(b, v.Key[:]...), v.Credentials[:]...)
		b = append(binary.LittleEndian.AppendUint64(b, v.Effective), slashed)
		for _, n := range []uint64{v.Eligible, v.Activation, v.Exit, v.Withdrawable, x.Balances[i]} {
			b = binary.LittleEndian.AppendUint64(b, n)
		}
		b = binary.LittleEndian.AppendUint64(append(b, x.Previous[i], x.Current[i]), x.Scores[i])
	}
	return text(sha256.Sum256(binary.LittleEndian.AppendUint64(b, x.Deposits)))
}

// text of the front half of a root.
func text(root api.Root) string { return hex.EncodeToString(root[:16]) }

// known answers to a deposit of a validator's key, and to an exit of another one.
type known struct {
	n            int
	slot         uint64
	amount       uint64
	deposits     uint64
	who          int
	isBad        bool // the deposit's question, if it is asked
	root         string
	question     string // none, if somebody has the key
	sum          string
	leaves       int // none, if below 0
	exitQuestion string
	exitSum      string
}

func TestKnown(t *testing.T) {
	for _, k := range knowns() {
		what := fmt.Sprintf("slot %d, %d of %d", k.slot, k.who, k.n)
		x, d := riseState(k.n, k.slot, k.deposits), riseDeposit(k.who, k.amount)
		x = expecting(x, d)
		mustRight(t, x)
		if text(x.Eth1.Deposits) != k.root {
			t.Fatalf("%s: the test's own root is %x", what, x.Eth1.Deposits)
		}
		var bad []api.Root
		if k.isBad {
			_, bad, _ = join.Deposit(x, d, nil)
		}
		y, asked, err := join.Deposit(x, d, bad)
		if err != api.OK || sumOf(y) != k.sum || texts(asked) != k.question {
			t.Errorf("Deposit, %s: asked %x, error %d, sum %s", what, asked, err, sumOf(y))
		}
		if k.leaves < 0 {
			continue
		}
		e := api.SignedExit{Exit: api.Exit{Epoch: k.slot / 4 * 2 / 3, Validator: uint64(k.leaves)}, Sig: api.Sig(rise(2, 96))}
		y, asked, err = join.Exit(x, e, bad)
		if err != api.OK || sumOf(y) != k.exitSum || texts(asked) != k.exitQuestion {
			t.Errorf("Exit, %s: asked %x, error %d, sum %s", what, asked, err, sumOf(y))
		}
	}
}

func texts(roots []api.Root) string {
	all := ""
	for _, root := range roots {
		all += text(root)
	}
	return all
}

func knowns() []known {
	return []known{
		{1, 8, 33000000000, 0, 1, false, "256daec04762ffa4f1bb826bed0df7ce", "95e9c31f386ca3e2b083491f10a28ee5", "6230b11d457c2d575f9e1730e59799d5", -1, "", ""},
		{1, 39, 31999999999, 5, 0, false, "86a212e23fb5e7f3f5da45a5d3287434", "", "5aa14e8201119255a5726aaf80301559", -1, "", ""},
		{1, 40, 0, 42, 2, false, "3deaea56a96a4dcc58aec8d48fbd9b29", "257da707adceb2824636f57aa215c119", "c17eed8cbabc68e0b483320e0a66363a", -1, "", ""},
		{1, 103, 72057594037927936, 64, 1, true, "c5456669778329c891a71ebb0093da19", "2b3ae442eb8c0bce5037d21f5f14b6aa", "c79d8019d5728aa8ff23a3e39b1c1682", -1, "", ""},
		{1, 1099511627775, 17000000003, 127, 0, false, "8d5e428bec42d25ff56ececfdf299ee6", "", "e9d89028aad6fbdfffcbb161757722ad", -1, "", ""},
		{1, 61, 5000000000, 1099511627774, 2, true, "6eb5018492134d4716e26c3ed15e1bca", "629e36b4d35d1da7ff6922eb42c8852d", "d24e6c958043cc9b4d8696451d33b4d9", -1, "", ""},
		{1, 62, 32000000000, 1000, 4, false, "f85cb45bd4532a0be8bc5cb9cb24a0ca", "34585b5d98bd5598495adf9793149b77", "11418cfdaecdf791f3f215dd82a0fff6", -1, "", ""},
		{3, 8, 33000000000, 0, 3, false, "02db53135285460d2d1b98b53b9cc741", "ad7b20c816aa07d8c28e005ec9d0ca60", "ed633ef05f683f5f6b8b7048d1ff4809", 2, "a6938403b7fe601bbc7529414580c379", "542b78d0154003f7d70400334dea3ae0"},
		{3, 39, 31999999999, 5, 2, false, "43fffd6dcbb3616fc9528ab45c0ff581", "", "65449a4d7a3de6a16c7f9c90a0c6d428", 2, "f56de049a03de645183077e1218b1cc6", "9f2bd9a07e1d8461d46703766bbeb881"},
		{3, 40, 0, 42, 4, false, "3b3792f293c288a76da1acadf3d27c90", "6ca0486b25ae70508e6207044e9b5203", "ca36bb7f7497ce4ed194cbe1bd2b1fd0", 2, "f56de049a03de645183077e1218b1cc6", "53249452d32d556b8e0383b0e80670c0"},
		{3, 103, 72057594037927936, 64, 3, true, "58d76fdc842bb192468e9041b5feb1d4", "f9e726d5a2b00392fb831b894309c6a1", "4c42cdac7c508ce704c54347de90bce7", 2, "42b00c7c84ccf730a2c962624188c2f9", "2323c8ca2f291a2ac78df6ad22aa0c37"},
		{3, 1099511627775, 17000000003, 127, 1, false, "ca37175f3b10ad537d84171323f40d4a", "", "b91f330b864e4b80e87994237be35a1c", 2, "c4cf21c67aee04dfe1e9c7e8d73e4ad0", "1ba23e79638800688336eef27359af0c"},
		{3, 61, 5000000000, 1099511627774, 4, true, "fcf6728418d7829078b13a034630fa78", "0176d7431c0ddbf7866827a7cc191e66", "728d4ccfecac8acaa7768617b06d20db", 2, "c71d58460ea3eedfa71ea0ae64315963", "a46ec5c57f28f065b08cb81ddda30ffb"},
		{3, 62, 32000000000, 1000, 6, false, "c3c1470fc509851447e869c7bd0f69bb", "58c77736fd3fc2f0c2a6aa297c2f2f9d", "d3b0eddb707e8c62a17890933e240642", 2, "c71d58460ea3eedfa71ea0ae64315963", "bc4836d6d4777b132038abdecf6f51a8"},
		{8, 8, 33000000000, 0, 8, false, "2b224a6be1b2af71b0264d91e1b95d44", "140399e15bc6f31a5b67f31add157776", "99ef8af784580f6a59d54b4aae3b23b3", 6, "114a9dc983158d2d0a3c603c61041505", "5393aad9dd422de00cba4cb5d3c6834f"},
		{8, 39, 31999999999, 5, 7, false, "5c343e052c94d1f8bafd8f03a12be868", "", "cfa1b049ea2763ffab05c2fb529d40b9", 6, "7c24a938f309db39ac06700e5bb197a6", "d0c94197286c77d1bead982ae1f5a13b"},
		{8, 40, 0, 42, 9, false, "6334d3e5efe428820ba255fd526aaacc", "ce348636de933db7a40affe70126f313", "530afb2ea5fb26026d5727b8f300c503", 6, "7c24a938f309db39ac06700e5bb197a6", "2a18b71f0a5a2ef9b030e9d664c5c7fe"},
		{8, 103, 72057594037927936, 64, 8, true, "68aa8c188e835dd15f8ec95421343c13", "dbeb5c5b76d3e725602edd7e1a28a9e3", "c4152985ce56218a3c39727da59a2c9e", 6, "11f748c6b3d5c54f6d7969a8a387622e", "830424f6b82d0cc46740a5426e9a55ad"},
		{8, 1099511627775, 17000000003, 127, 3, false, "579751ca69d79a3c1f4ca0140a5f9251", "", "4ddbb79b987b40b0a2301f4f5d2adca0", 6, "a98699f93591d239c1c43a15cda2e791", "8ed4ffce5ab87cb2085e9193715848f8"},
		{8, 61, 5000000000, 1099511627774, 9, true, "3d32fb4cc9ed4360ea5c4cbe24729e8c", "e57901c16e6ac265cc770f48f4d2a0d1", "b71b12870b7a3437d0b67a29725e16f3", 6, "12e64adc2571b46fb6710d38af6da5cb", "74c5b519131192786f97e3dea0fee2c6"},
		{8, 62, 32000000000, 1000, 11, false, "dda809e3fa14d56b56f05dc05d7bca96", "d799002ffa20aeaedb8b2cc28b6976b1", "6f85dbb5468bfc5848fa1e58bd66c2d9", 6, "12e64adc2571b46fb6710d38af6da5cb", "6b3040a6919420f470175b7b44181b0a"},
		{16, 8, 33000000000, 0, 16, false, "944ae926bc4029aea818ca8d338d7705", "368ac81c4aa71d674c52f1a239745710", "27755398d5ae4b4ad4f581efabcb4848", 10, "668a6d45ff746946495a4820de0dc1f0", "1fba91682e05d46ac846cd4f5f9e3dee"},
		{16, 39, 31999999999, 5, 15, false, "c9256b9858b3dad58853719b7715cc2e", "", "641115bac16c739709a447c5af723d85", 10, "0eaefce0339e89c9fb231cb581341dab", "ec11bf08b695ddfabf0c0a11648393f3"},
		{16, 40, 0, 42, 17, false, "b824db4a060dca93417126e5c019ac59", "fccd3ab0f717b8ec680ede99608b8de4", "1999e22da3c4f8ba7d0e2c4895e0570e", 10, "0eaefce0339e89c9fb231cb581341dab", "1474aadca6f93b49278d9608f249eb26"},
		{16, 103, 72057594037927936, 64, 16, true, "dd8694a104da736e45c25b7d9084ea1f", "e3c955aa8819c7ff371808ad6e163cf9", "85decfe3594a375d5499abc24dca91c1", 10, "24248d72cdeb4c4fc0594032e6f37cd4", "7ee95610a6af06c86b6784b612947bfe"},
		{16, 1099511627775, 17000000003, 127, 7, false, "6c1df22ddc0677e96e59850460dcc267", "", "488683ed826233c742c150ece93927c8", 10, "fbef9a41973d4398c5a0906ef1c0affa", "ab60d612d0a5f400495873b0db98154b"},
		{16, 61, 5000000000, 1099511627774, 17, true, "285f4d75653649fc8fef8b55ed43b181", "5bca4453dc8dd92310642e021f4236d5", "5f513ea17ea8619f4f81c0f1b0a0ba12", 10, "ee7951e795f68d60f904017e6a278de3", "b6cd0c2575758c956770c88785e6c4b1"},
		{16, 62, 32000000000, 1000, 19, false, "a835e1bd57ccb5327c38324532330449", "84542500d0e05c3cd860b8c5cf040c46", "c31956c77066336cafb38bbb6529c0cb", 10, "ee7951e795f68d60f904017e6a278de3", "81fbd3264cc693514615b552ea27364e"},
		{40, 8, 33000000000, 0, 40, false, "9323819589d49cf3313063d2e3133d85", "211798c93a8afe34ab64958df28da305", "0a338898ba4eabdda642bf4fb7d13778", 22, "c082f938cabc01a85174d385161f12f7", "a564687d7a627455f6a63db82a260cc6"},
		{40, 39, 31999999999, 5, 39, false, "2e50b2192f9678fa815488d3147cccbc", "", "42a6a14785bd36a0c01924a12f9b3465", 22, "b383113bc217e1d6d87eb774f15c4157", "dbd97a07faae4dac66d0019ed43cbba6"},
		{40, 40, 0, 42, 41, false, "ca22e2d8ac281492c3ff0f61ae647e77", "076ccfdd34120b7a1661b9e7dd0f59c5", "620f1b564bfbe44233b6dba23444530d", 22, "b383113bc217e1d6d87eb774f15c4157", "28f578f4eb7a32faf4d9d80d31c75285"},
		{40, 103, 72057594037927936, 64, 40, true, "d5b529ce7fcca4f246a80851c508335e", "03e7f0513f966d5fc89086b89321757e", "97816dcbc4b299606c379ccfc4147d29", 22, "904ad3c646a2130daaf184157349f2f6", "188b4cedfbf88243ea4db9bc463c047e"},
		{40, 1099511627775, 17000000003, 127, 19, false, "86bb23d94fe0a5c20515d9704a664395", "", "3dda892a06677cc9471142fa14061f78", 22, "8ca3c1c257987f442d4b67baa9b0549f", "52ffbbd72582a7c36ba9211af5f3de7a"},
		{40, 61, 5000000000, 1099511627774, 41, true, "68005bd9378e4c1c4e33578af55f3118", "21333626b25d1e23f70f7954777b465a", "7e004385728f222961530d964725a0b9", 22, "7a28e0eb3cc0513a4b8f4da35e886d34", "ef3425c78267918bccc3ffa01e3710f2"},
		{40, 62, 32000000000, 1000, 43, false, "6281e8f986c0923f67ffad1f81abed81", "2eb8244c7f547dfe4cc04f3eb206868d", "18af463a133d1af8ca152e7b6e5b205f", 22, "7a28e0eb3cc0513a4b8f4da35e886d34", "669d6cd9cfd5ea61b531149d2ea4d33f"},
		{257, 8, 33000000000, 0, 257, false, "35cde8a43b80b166df41cde43fb83e37", "", "8143c3320a72e10d235d81105ac5e972", 130, "9c3c90f17b67eda820c4fb2f0b6257f4", "1527da98b2b3e1aa8d454e2679746810"},
		{257, 39, 31999999999, 5, 256, false, "2f7b1cc694c8219e1184997f1e55e225", "", "14890edcc95717c5bcca8f134ace3c44", 130, "fd72da5131f30e4767ef5038d133eb03", "0c39366d4402baeaa93c0ec448e3c239"},
		{257, 40, 0, 42, 258, false, "4b21fcec0d6e312c16778b3bd7965079", "", "1b850a381d7656e86dfabc2a837d12a5", 130, "fd72da5131f30e4767ef5038d133eb03", "7c0a745b3b345f0f3d95b4c7bbf1f2e5"},
		{257, 103, 72057594037927936, 64, 257, true, "c81905068755a3b054bf3da3a22f04ed", "", "a5fb8034151862f98e4f0eea628ae071", 130, "1f7f0ff820af0979721c4829501fa493", "2dcc26cffb00acb00c75ca0f42405678"},
		{257, 1099511627775, 17000000003, 127, 128, false, "98e88d5759abf4908673360d5185779b", "", "48b2c47ab5bffecfec1356fe5970ed6c", 130, "d3b6d65d21aac5d46b461d29ca34f8dd", "a42024f6995690b1e953d0c35ec83053"},
		{257, 61, 5000000000, 1099511627774, 258, true, "77aa35304cc758fc6453ea0328c50817", "", "2976cf932283155a3f8a2ea3dea6857a", 130, "754fc712ba4bea10d5c8294d6d3faf24", "836c5e082b1715bc43211b2d071f1788"},
		{257, 62, 32000000000, 1000, 260, false, "c2a0b898906d9323920558094bc8f022", "", "cedb66991aba70a78267d0faf326e48c", 130, "754fc712ba4bea10d5c8294d6d3faf24", "2c0cb887919aeedb2506ee7d2f56d977"},
		{1000, 8, 33000000000, 0, 1000, false, "968f62f2a785b7e230ac552ed38eda3e", "", "4453b9290925ad25dd12c381be35f584", 502, "0c3f674b2511a3f338bb48a3468a0457", "189bedf0a8bd18f9ed47100e9c279cf4"},
		{1000, 39, 31999999999, 5, 999, false, "103d7ef61380bbdd8eec0fcd449d4dda", "", "fa44f25f7a61df600a1b947584f044aa", 502, "9dba390bb10f9047aefceaf6c9bc5c3d", "eebea40689ca9a0bb9516ba199b943b2"},
		{1000, 40, 0, 42, 1001, false, "81fa2b2ba4f9d82a73b56c4e67c1d6fb", "", "cee8646df23fba6dc24bba400a15ac82", 502, "9dba390bb10f9047aefceaf6c9bc5c3d", "55a405f692aec4b3cb530552a2f07536"},
		{1000, 103, 72057594037927936, 64, 1000, true, "14ebfd1d4629a4426ef9f7d4e8571bb1", "", "5b72215511e195599608fa4599e8a541", 502, "9f1de9e107c497aae55aee6875330445", "4a270641a4f7851d8a8fbb3d8fb993a5"},
		{1000, 1099511627775, 17000000003, 127, 499, false, "b2453080ce3625c7a807022bcca321f9", "", "ba6b5befcc59f67a708fcd780a9ba624", 502, "0057e9ff7f0290c2e0725c7f66729ee0", "129d05570706291887656001b6961cfd"},
		{1000, 61, 5000000000, 1099511627774, 1001, true, "834311218844c1e66c917788ee5782e5", "", "60b3234fd4e4168189dd07922378019a", 502, "03d8dfd4d9056e15270413b36aa19d5d", "330668d6fc919fa35c06e60108ceffd4"},
		{1000, 62, 32000000000, 1000, 1003, false, "7aa737d5cace0636da92831e7a3fc6e7", "", "7a5c5d998fa2fc382cb0e8c35db164b3", 502, "03d8dfd4d9056e15270413b36aa19d5d", "ed7906cd2a72c527ed9e5e27499c330a"},
	}
}
