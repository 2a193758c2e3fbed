package vote_test

import (
	"crypto/sha256"
	"encoding/binary"
	"encoding/hex"
	"fmt"
	"slices"
	"testing"

	"pharos/api"
	"pharos/comm"
	"pharos/vote"
)

// Answers that were reckoned apart from the program, in another language.

// rise so many bytes from a first one on, each one more than the last.
func rise(first uint64, n int) []byte {
	b := make([]byte, n)
	for i := range b {
		b[i] = byte(first + uint64(i))
	}
	return b
}

func riseRoot(first uint64) api.Root { return api.Root(rise(first, 32)) }

// risingKey is one whose bytes go on from those of the one ahead of it, up to 250 and round again.
func risingKey(k int) api.Key {
	var key api.Key
	for i := range key {
		key[i] = byte((48*k + i) % 251)
	}
	return key
}

// riseState has so many validators with up to so many Increments each, of whom some leave at the state's epoch, and some come; its mixes go on from byte to byte.
func riseState(t *testing.T, n int, increments, slot uint64) api.State {
	t.Helper()
	x := withValidators(slot, members(n, 0)...)
	for i := range x.Validators {
		v := &x.Validators[i]
		v.Key = risingKey(i)
		v.Effective = (max(increments, uint64(i%4)) - uint64(i%4)) * gwei
		if i%5 == 1 {
			v.Exit = slot / 4
		}
		if i%7 == 2 {
			v.Activation = slot / 4
		}
		x.Previous[i], x.Current[i] = uint8(37*i), uint8(53*i+11)
	}
	for i := range uint64(8) {
		x.Mixes[i], x.BlockRoots[i] = riseRoot(32*i), riseRoot(9*i)
	}
	x.GenesisRoot, x.Just.Root, x.OldJust.Root = riseRoot(7), riseRoot(9), riseRoot(10)
	mustRight(t, x)
	return x
}

// riseAttest: two thirds of a committee attest.
func riseAttest(t *testing.T, x api.State, slot, index uint64) api.Attest {
	t.Helper()
	committee, err := comm.Of(x, slot, index)
	if err != api.OK {
		t.Fatalf("error %d", err)
	}
	a := api.Attest{Data: dataAt(x, slot, index), Sig: api.Sig(rise(slot%200, 96))}
	for k := range committee {
		a.Bits = append(a.Bits, k%3 != 1)
	}
	return a
}

// sumOf all that an attestation may change.
func sumOf(x api.State) string {
	b := slices.Concat(x.Previous, x.Current)
	for _, n := range x.Balances {
		b = binary.LittleEndian.AppendUint64(b, n)
	}
	return text(sha256.Sum256(b))
}

// text of the front half of a root.
func text(root api.Root) string { return hex.EncodeToString(root[:16]) }

func TestKnown(t *testing.T) {
	const (
		allIsRight = iota
		anotherBlock
		anotherTarget
	)
	for _, known := range []struct {
		n                              int
		increments, slot, delay, index uint64
		fault                          int
		flags                          string
		proposer, given                uint64
		question, sum                  string
	}{
		{1, 32, 39, 4, 0, 0, "T", 0, 664431, "2b637b20d7b949cf62e7e74e40d5d932", "6dfc0826cd2d5fbb20b523f0af08a03d"},
		{1, 32, 40, 1, 0, 0, "STH", 0, 1379973, "a05dbb40e26576dc5c7533cb6d543a83", "ba9ce5e2ed14919076a8c63996b27f07"},
		{1, 32, 41, 2, 0, 0, "ST", 0, 1022202, "a05dbb40e26576dc5c7533cb6d543a83", "e63c15b66acf003fd067a13cbc1b43e7"},
		{1, 32, 103, 4, 0, 0, "T", 0, 664431, "6de64f29714b0bfb413a1ccff35f9a35", "6dfc0826cd2d5fbb20b523f0af08a03d"},
		{1, 32, 104, 1, 0, 0, "STH", 0, 1379973, "969a87969169dbd702d875636b1ba5cd", "ba9ce5e2ed14919076a8c63996b27f07"},
		{1, 32, 1099511627775, 4, 0, 0, "T", 0, 664431, "7db7db77ec532a97ef96aa87658e71b4", "6dfc0826cd2d5fbb20b523f0af08a03d"},
		{2, 32, 39, 4, 0, 0, "T", 0, 643668, "2e6adf7155f359a78c05f2f521ae80c0", "ce8d662588144eccc83e3957775097d0"},
		{2, 32, 40, 1, 0, 1, "ST", 0, 643668, "470e49a02f48b1e00f6029f024086918", "ce8d662588144eccc83e3957775097d0"},
		{2, 32, 40, 3, 0, 0, "T", 0, 664431, "71e25b9c9eb864c218a6519345566e15", "55cd0d81b8ecca17183eb022bfd92ee6"},
		{2, 32, 41, 2, 0, 0, "ST", 0, 643668, "baaab747251c55f454a5aa30d100cd9e", "ce8d662588144eccc83e3957775097d0"},
		{2, 32, 41, 4, 0, 0, "T", 0, 664431, "71e25b9c9eb864c218a6519345566e15", "55cd0d81b8ecca17183eb022bfd92ee6"},
		{2, 32, 103, 4, 0, 0, "T", 0, 664431, "6de64f29714b0bfb413a1ccff35f9a35", "55cd0d81b8ecca17183eb022bfd92ee6"},
		{2, 32, 104, 1, 0, 1, "ST", 0, 643668, "c57bd9a619ff6ed4068db8d41d0737ce", "ce8d662588144eccc83e3957775097d0"},
		{2, 32, 104, 3, 0, 0, "T", 0, 664431, "f9952888c727ccbc4109a274ec6d87bd", "55cd0d81b8ecca17183eb022bfd92ee6"},
		{2, 32, 1099511627775, 4, 0, 0, "T", 0, 643668, "bfbcc359feba4bad4dda6ce2df70ca62", "ce8d662588144eccc83e3957775097d0"},
		{3, 17, 3, 2, 0, 2, "S", 2, 0, "22a3ca2b7d24d29d157fb4d16ac22fcc", "68f45efd11f8d51dee915b29c6b45899"},
		{3, 17, 39, 2, 0, 0, "ST", 2, 0, "cbf08b307619c11a9de6c3b8dd1ef547", "68f45efd11f8d51dee915b29c6b45899"},
		{3, 17, 39, 4, 0, 0, "T", 2, 332215, "2e6adf7155f359a78c05f2f521ae80c0", "96188cbd3dbe955f5d857a5a819639c3"},
		{3, 17, 40, 1, 0, 2, "S", 2, 0, "15d75c9e5fd3c4dabdd64db7c97404f9", "68f45efd11f8d51dee915b29c6b45899"},
		{3, 17, 40, 3, 0, 1, "T", 2, 352979, "63161a8599de44b7c7b697420c312ec4", "946a06eb38c4a04e0ee708db927cfe2a"},
		{3, 17, 41, 2, 0, 0, "ST", 2, 332215, "baaab747251c55f454a5aa30d100cd9e", "96188cbd3dbe955f5d857a5a819639c3"},
		{3, 17, 41, 4, 0, 0, "T", 2, 352979, "71e25b9c9eb864c218a6519345566e15", "946a06eb38c4a04e0ee708db927cfe2a"},
		{3, 17, 103, 2, 0, 0, "ST", 2, 0, "db108d23f46c5b6df098bb3aabbced52", "68f45efd11f8d51dee915b29c6b45899"},
		{3, 17, 103, 4, 0, 0, "T", 2, 352979, "6de64f29714b0bfb413a1ccff35f9a35", "946a06eb38c4a04e0ee708db927cfe2a"},
		{3, 17, 104, 1, 0, 2, "S", 0, 0, "0392ffadee2a403cb2eda2ed348b6fe2", "68f45efd11f8d51dee915b29c6b45899"},
		{3, 17, 104, 3, 0, 1, "T", 0, 352979, "ddb12a839748c45a81510e33360a9711", "5095ee5ba6407fb1c4b08a97a8233fc8"},
		{3, 17, 1099511627775, 2, 0, 0, "ST", 0, 0, "f9d050064084d9d7fb94b8a2bb79097a", "68f45efd11f8d51dee915b29c6b45899"},
		{3, 17, 1099511627775, 4, 0, 0, "T", 0, 332215, "bfbcc359feba4bad4dda6ce2df70ca62", "62a1abca954d0b9b2ee58388d4ffb45a"},
		{7, 32, 3, 1, 0, 0, "STH", 3, 451401, "8013d76fecf3d7b8587abcfb75b583a0", "ff4e829c100de69ab29abe4060ed7a51"},
		{7, 32, 39, 2, 0, 0, "ST", 3, 283946, "a459e9131281739149ecfa3ef0711b7a", "bb0c0e8a4467b774070afd86ce31fd5d"},
		{7, 32, 40, 3, 0, 2, "", 4, 0, "89140c7ff9eaba59c353cea8b2d14017", "f5316f3978a155b6de989dc88c23645a"},
		{7, 32, 41, 4, 0, 0, "T", 3, 0, "dc1ee727f8cc2ec27192c7c5370ab6b0", "f5316f3978a155b6de989dc88c23645a"},
		{7, 32, 103, 2, 0, 0, "ST", 4, 147797, "d3d3cddb712707931e0465c23bbedc50", "ba8ad5a065829ae79794a10d30985f55"},
		{7, 32, 104, 3, 0, 2, "", 4, 0, "f26f84881b104c0d827dd1aa21dbaa0f", "f5316f3978a155b6de989dc88c23645a"},
		{7, 32, 1099511627775, 2, 0, 0, "ST", 0, 0, "f9d050064084d9d7fb94b8a2bb79097a", "f5316f3978a155b6de989dc88c23645a"},
		{16, 32, 1, 1, 0, 2, "S", 12, 0, "4abf966b7b52d6160831d65faca925ac", "ac213f755dc2b078a515b1aeef86dce2"},
		{16, 32, 3, 2, 0, 1, "ST", 5, 457412, "cf7f131cca9dab55799fabbd486cd6f8", "3293866e1492e4b8afaeec0508164f7e"},
		{16, 32, 39, 3, 0, 2, "", 3, 0, "fd94faef2a459b11722318cb791dc091", "ac213f755dc2b078a515b1aeef86dce2"},
		{16, 32, 40, 4, 0, 0, "T", 3, 370911, "ac33341e66f5de510a59533d53db3969", "92563a1104f6132ea16adaeabf1a5181"},
		{16, 32, 41, 1, 0, 2, "S", 10, 190211, "5ad0cb788c7e7389fff9fab059d6f0a9", "de619895b66b4e778e4b837098b8a18e"},
		{16, 32, 103, 3, 0, 2, "", 5, 0, "809921ae6e77a692bf13bd71c69aa6ec", "ac213f755dc2b078a515b1aeef86dce2"},
		{16, 32, 104, 4, 0, 0, "T", 4, 370911, "44b34694886a247f2099d2273e79aacc", "3a0c85b81e8e9c69989dda939e85b3bd"},
		{16, 32, 1099511627775, 3, 0, 1, "T", 4, 359136, "2394e26362d684a5336bb69020c44991", "bfbd6e53b72125ee4057fdfb3533ca49"},
		{21, 5, 1, 1, 1, 0, "STH", 10, 45116, "e2258f68d8648c0fee062286fde0805c", "371359ee498af173fdf903f4e5f538f9"},
		{21, 5, 3, 1, 1, 0, "STH", 13, 32391, "7b25ffc0c606c8bf08ac615f3ac54d5a", "ce09dbffc73a5c921c75ee86ef8812d5"},
		{21, 5, 3, 3, 1, 0, "T", 13, 45116, "e2258f68d8648c0fee062286fde0805c", "933cd037ce04fa5b494333045c5a98ee"},
		{21, 5, 39, 2, 1, 0, "ST", 5, 92546, "d85bfcaacc37897ff8bf5e538293a35f", "3e9163a00610edc2215fe1e3f00dd584"},
		{21, 5, 39, 4, 1, 0, "T", 5, 75193, "38c9e42ec420e7ba8d4b77987a0265cb", "f10b6d891611115aa117c7cf85ab9331"},
		{21, 5, 40, 1, 0, 1, "ST", 14, 24293, "c8a02b375caa2fa5212e0adf67fed749", "0dcc7cfaa0e935fce0e8f183d0f302ba"},
		{21, 5, 40, 3, 0, 2, "", 14, 0, "f7a0f6e99f2d07d51abe1884eb550524", "01b0853b2dbf8ac126b564604745da4e"},
		{21, 5, 41, 1, 1, 0, "STH", 4, 16195, "957a4ceba36b12461fe43e63f7c9cbe5", "6f8bd5506ab6c2ca2089049bfed79dc3"},
		{21, 5, 41, 3, 1, 0, "T", 4, 60154, "8b4c37fb2a5080a90301abac44e46f10", "95481ce1a053edec11ec5bbfee211dfc"},
		{21, 5, 103, 2, 1, 0, "ST", 7, 0, "4292f2f2ecc42368f73ac7169895119f", "01b0853b2dbf8ac126b564604745da4e"},
		{21, 5, 103, 4, 1, 0, "T", 7, 120309, "978fa64889d6189c2f4d0223f806980c", "a07fa72165d68b816a0046c1e16b9180"},
		{21, 5, 104, 1, 0, 1, "ST", 3, 115682, "3d2edff89d0db54d560175eca9f8107e", "3c4cb60fa8b9d1b414ba983d9a6d9772"},
		{21, 5, 104, 3, 0, 2, "", 3, 0, "e46d6cee436a0351b1d9c1a1bf9bf1cc", "01b0853b2dbf8ac126b564604745da4e"},
		{21, 5, 1099511627775, 2, 1, 0, "ST", 4, 0, "bcfa0a685ac9f3786c4fb1c473c6e172", "01b0853b2dbf8ac126b564604745da4e"},
		{21, 5, 1099511627775, 4, 1, 0, "T", 4, 135348, "baaf74c51d3e8263fdaf7765e2cc5673", "229b713e93eb677a04f0fb9eea1a3f61"},
		{40, 31, 1, 1, 0, 2, "S", 8, 0, "299eeedc0e8c1825a8be8314a83c121b", "d417e452f1d19cfa668411f437a6440c"},
		{40, 31, 3, 1, 0, 1, "ST", 20, 234073, "e8a5e0340b7058adc6f24c4a295c29ce", "37bb65ff3dcaa8db9ef370ae6a1081de"},
		{40, 31, 3, 3, 0, 2, "", 20, 0, "299eeedc0e8c1825a8be8314a83c121b", "d417e452f1d19cfa668411f437a6440c"},
		{40, 31, 39, 2, 0, 0, "ST", 3, 287299, "0c51dd013f92bfe1197912590212f063", "489474144f529573622f0aa05a4b6036"},
		{40, 31, 39, 4, 0, 1, "T", 3, 233191, "3ee3ad4c9db15154be42aa16c9f30339", "8e0b38d64af598c294c921e4d89b2cc2"},
		{40, 31, 40, 2, 1, 0, "ST", 38, 242013, "abb8ab738e0fa5b4d9d8e0ec9ec63827", "1afc128209862a0a5f6c4bb1e1413524"},
		{40, 31, 40, 4, 1, 0, "T", 38, 114684, "c7a73c8aa16e9abfbdce736cfb5a926b", "c5c0e603dd7bc5b1883433ca5bc00fa3"},
		{40, 31, 41, 1, 0, 2, "S", 22, 57636, "63d27a7a55a2a6fcef10997bff6f7502", "a8a76ab67ec68744c4a56f63242422d6"},
		{40, 31, 41, 3, 0, 0, "T", 22, 229368, "f199c52a12cf57613952ef56b9f316eb", "0409d302462330d62abb4fd36c763fe6"},
		{40, 31, 103, 2, 0, 0, "ST", 19, 463736, "ca7342f8b9fcb06d91db0f7f8db9e1be", "a0d87078434ff66be03ead7c59a3b041"},
		{40, 31, 103, 4, 0, 1, "T", 19, 237014, "ae91434dfeedca5583b86b8fd2bfa493", "68abbc33f0cfb0741013083c6a2ae692"},
		{40, 31, 104, 2, 1, 0, "ST", 27, 182318, "6f394d2099b7d14812ce44769adc5614", "726a32631ce2832ee716f6c7a509abad"},
		{40, 31, 104, 4, 1, 0, "T", 27, 233191, "991682b6b79bab6d8266f94d57b5a0b3", "91ebcb01faef6386cf663b31b072872a"},
		{40, 31, 1099511627775, 2, 0, 1, "ST", 17, 226134, "206afd2623faa07b475de18a867729df", "b62f777dff2ceb70fb0afa4371fef957"},
		{40, 31, 1099511627775, 4, 0, 2, "", 17, 0, "ec3e1dcad3654bb0f6f85f76565e3107", "d417e452f1d19cfa668411f437a6440c"},
		{100, 20, 1, 1, 0, 1, "ST", 12, 249648, "6edd25ec7b8454fa26f659d0280752ef", "8b5ba8a143b583a7111e095ae461f84c"},
		{100, 20, 3, 1, 0, 0, "STH", 34, 444341, "15cffe13dc1c295496ce7b758087b003", "e72907f550057e9e7c4f1df1086e0219"},
		{100, 20, 3, 3, 0, 1, "T", 34, 109911, "6edd25ec7b8454fa26f659d0280752ef", "c7a5175ec2bab194cb311dd2a947cc6c"},
		{100, 20, 39, 2, 0, 2, "S", 37, 90418, "febc3d35312a2111239fdd8789146cbd", "95852c50a3270bf0541c9bbfbfc892b4"},
		{100, 20, 39, 4, 0, 0, "T", 37, 174025, "212766283a0b4725be3a86a8253b7990", "687fae9a1a37ffa5cd5a715adbe942f1"},
		{100, 20, 40, 2, 1, 0, "ST", 22, 339831, "da00bbba74ab6c6dd95a8e8cc2e471a8", "b620544df765cd9eaf2ebc5c6870a611"},
		{100, 20, 40, 4, 1, 0, "T", 22, 235087, "b51781ca1f848ddfd63239b09841c088", "75c98e67990010b77223760c08ee984f"},
		{100, 20, 41, 1, 0, 1, "ST", 39, 433538, "a40ab7cf87683d3985df6ce9d7f93bc1", "8255f85d02c081eb30dc2bdf36aad656"},
		{100, 20, 41, 3, 0, 2, "", 39, 0, "959efeb3e47d3fd314c9efeb2ad082f5", "15a5129af99a967500a39393d455b428"},
		{100, 20, 103, 2, 0, 2, "S", 43, 115077, "5819c468c71fd3131863cfcc1290fe94", "786a81e3f709af7c7d6ff07f02a3020f"},
		{100, 20, 103, 4, 0, 0, "T", 43, 177078, "c58ec5d8f7f6a19085c2a0534db0eb01", "eb0b5f8eca360cbd512255c741a067dc"},
		{100, 20, 104, 2, 1, 0, "ST", 54, 292391, "6d6158c6268d3f97c97fc4f33e0a21e5", "ee33030fad0b41e43c0a765b63469fba"},
		{100, 20, 104, 4, 1, 0, "T", 54, 119070, "d9114a78af54917073fb626a45b12d56", "e565384268abb2c5653ec427e77344d0"},
		{100, 20, 1099511627775, 2, 0, 0, "ST", 53, 317285, "2078ef108a58db0320f4ec038708fbda", "b66e23cbfddc4905f49407969baec509"},
		{100, 20, 1099511627775, 4, 0, 1, "T", 53, 238140, "b9b4b7624b59079f0d20cd483486d30d", "08ac2f4ff995b73cea99a1c0f750a9d0"},
		{257, 32, 1, 1, 1, 0, "STH", 180, 845302, "b5754c83fbdc00786e1b620cafc4baef", "6d63ab755eb1cd65a3b4b87a19c2269f"},
		{257, 32, 3, 1, 1, 0, "STH", 44, 750935, "55db114f56c5b2db75054c61f6dc31ea", "17882f614bee1bee192451e72eadb17a"},
		{257, 32, 3, 3, 1, 0, "T", 44, 363872, "b5754c83fbdc00786e1b620cafc4baef", "be419f18dc04407671c92e2b3efe3f2c"},
		{257, 32, 39, 2, 1, 0, "ST", 195, 601959, "2ce236ed9ae965cb1a126d4a2a01d80d", "e09c6c576592801544f1ac483ee6c007"},
		{257, 32, 39, 4, 1, 0, "T", 195, 326742, "7d6dd81b76f5f5db02ee8c374e686d94", "860df9c9a02d1552087a409358b64dda"},
		{257, 32, 40, 1, 0, 1, "ST", 37, 483601, "6e587633f52ddf54a8c49000c06bf506", "f0e99ae1648044e25162b43fb3cc76eb"},
		{257, 32, 40, 3, 0, 2, "", 37, 0, "02d8b3308a5d3f82bb04e8e8c21d68c4", "8814a0aeb232c90ea405e6de1cd862c8"},
		{257, 32, 41, 1, 1, 0, "STH", 140, 901054, "2e99b0517d5200fb1e6eadad0a782324", "b29ac5000821b37c07bbd818de903d18"},
		{257, 32, 41, 3, 1, 0, "T", 140, 558432, "cea5db50860e3b122686da4949b833d1", "de5f2fab72ed00a17477478cfb174939"},
		{257, 32, 103, 2, 1, 0, "ST", 57, 498681, "7c79701783a53d1069111fab5387098e", "5c9027a30731fac5834c856862127d1e"},
		{257, 32, 103, 4, 1, 0, "T", 57, 375753, "9be1fffd96fb172154c4dc8e94103d42", "bc90a80d1bdbc5c33c379a1bd18148b3"},
		{257, 32, 104, 1, 0, 1, "ST", 168, 786923, "9c3d7c291edba4a1dd7d1c8f749d8972", "8dc420d5c5c1317469486fa918233b92"},
		{257, 32, 104, 3, 0, 2, "", 168, 0, "a423e3e0a2c3e071967fb8c235bfa451", "8814a0aeb232c90ea405e6de1cd862c8"},
		{257, 32, 1099511627775, 2, 1, 0, "ST", 179, 559231, "d70d3d619bccf24f7ed4b6bca86e78f0", "ad289391d18110928a4ecac34ebd9cb7"},
		{257, 32, 1099511627775, 4, 1, 0, "T", 179, 421794, "35ed17ef39b78fcef8e4a864e4b62ccc", "fbd72bf2796be3765575dc80760e4c6c"},
		{410, 3, 3, 2, 0, 0, "ST", 329, 113008, "ffb714e474ff5bcd25e477b101ab4633", "7e8aa900fb382d18cf39f1c9d125806e"},
		{410, 3, 39, 1, 0, 1, "ST", 117, 134552, "eceffe48b4038d209249e164442417ab", "73fc8bae128d7601ff09f8054d06f536"},
		{410, 3, 39, 3, 0, 2, "", 117, 0, "8a06cdda08e0e43e04ad0867b08285d5", "7a80ae1601be29978b1bcc89dc7762c3"},
		{410, 3, 40, 1, 1, 0, "STH", 192, 398374, "9848a6b750215431b10cb81b65926538", "785626113634078e3f91b3fc853b1e5c"},
		{410, 3, 40, 3, 1, 0, "T", 192, 190244, "7191cecc17de5c8cf686753fd45b4dab", "212c0f951bce2b66f79b8689c58149b3"},
		{410, 3, 41, 2, 0, 1, "ST", 4, 266666, "1083fa218105145fdaba8639bcfedf87", "1f07890233ac7036f83b1034bffe78c6"},
		{410, 3, 41, 4, 0, 2, "", 4, 0, "32c31df71ab1708bbb471233e392429e", "7a80ae1601be29978b1bcc89dc7762c3"},
		{410, 3, 103, 1, 0, 1, "ST", 188, 200000, "d16d14f0b3c5fc4c7302fd45791d0097", "1dc16ed210720502a09fa2de70e707a4"},
		{410, 3, 103, 3, 0, 2, "", 188, 0, "2777829167b52f8647a7ed18cd3db22c", "7a80ae1601be29978b1bcc89dc7762c3"},
		{410, 3, 104, 1, 1, 0, "STH", 397, 446748, "4f18048bfcb16250db1511719f41ccaf", "5f2bb62c55e66fcda28b74571376b07d"},
		{410, 3, 104, 3, 1, 0, "T", 397, 163821, "9f0448b0026a656a61bea98cc4b2dd2d", "a48c5ddf689b19906eed3c2a8d32a9f9"},
		{410, 3, 1099511627775, 1, 0, 2, "S", 38, 45528, "6f32e147c40b2dd2dbd8f0ffd5161a6e", "22685425f00004d91d248ee5e7a75c7f"},
		{410, 3, 1099511627775, 3, 0, 0, "T", 38, 190244, "db8a6728ceebae3cee011e09b76a66a9", "2dfa6ce417d9c814b59a3b7984a7df3a"},
	} {
		what := fmt.Sprintf("slot %d, delay %d, index %d, %d validators", known.slot, known.delay, known.index, known.n)
		x := riseState(t, known.n, known.increments, known.slot)
		a := riseAttest(t, x, known.slot-known.delay, known.index)
		switch known.fault {
		case anotherBlock:
			a.Data.Block = riseRoot(200)
		case anotherTarget:
			a.Data.Target.Root = riseRoot(201)
		case allIsRight:
		}
		flags, err := vote.Flags(x, a.Data)
		if flags != flagsOf(known.flags) || err != api.OK {
			t.Errorf("Flags, %s: %v, error %d; want %s", what, flags, err, known.flags)
		}
		y, asked, err := vote.Attest(x, a, nil)
		if err != api.OK || len(asked) != 1 || text(asked[0]) != known.question || sumOf(y) != known.sum {
			t.Errorf("Attest, %s: asked %x, error %d, sum %s", what, asked, err, sumOf(y))
			continue
		}
		if given := y.Balances[known.proposer] - x.Balances[known.proposer]; given != known.given {
			t.Errorf("Attest, %s: the proposer %d was given %d; want %d", what, known.proposer, given, known.given)
		}
	}
}
