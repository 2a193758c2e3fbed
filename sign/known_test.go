package sign_test

import (
	"encoding/hex"
	"testing"

	"pharos/api"
	"pharos/sign"
)

// Answers that were reckoned apart from the program, in another language.

// rise so many bytes from a first one on, each one more than the last.
func rise(first, n int) []byte {
	b := make([]byte, n)
	for i := range b {
		b[i] = byte(first + i)
	}
	return b
}

// risings: so many keys, each of which begins one above the last.
func risings(n int) []api.Key {
	keys := make([]api.Key, n)
	for i := range keys {
		keys[i] = api.Key(rise(i, 48))
	}
	return keys
}

func wantKnown(t *testing.T, what string, got api.Root, want string) {
	t.Helper()
	if hex.EncodeToString(got[:]) != want {
		t.Errorf("%s: %x; want %s", what, got, want)
	}
}

// TestKnownDomains: versions and genesis roots rise from these first bytes on.
func TestKnownDomains(t *testing.T) {
	for _, known := range []struct {
		previous, current int
		fork              uint64
		genesis           int
		kind              int
		epoch             uint64
		want              string
	}{
		{1, 5, 10, 0, 0, 9, "00000000458943c3111e2a94f18c6aa6168f9f0af52620c440b7510651b9fc22"},
		{1, 5, 10, 0, 0, 10, "00000000f64f0d4241ba4c358fe3ad3cabf34cc7771b1796cbed9d1e6587fbb6"},
		{1, 5, 10, 0, 1, 9, "01000000458943c3111e2a94f18c6aa6168f9f0af52620c440b7510651b9fc22"},
		{1, 5, 10, 0, 1, 10, "01000000f64f0d4241ba4c358fe3ad3cabf34cc7771b1796cbed9d1e6587fbb6"},
		{1, 5, 10, 0, 2, 9, "02000000458943c3111e2a94f18c6aa6168f9f0af52620c440b7510651b9fc22"},
		{1, 5, 10, 0, 2, 10, "02000000f64f0d4241ba4c358fe3ad3cabf34cc7771b1796cbed9d1e6587fbb6"},
		{1, 5, 10, 0, 3, 9, "03000000458943c3111e2a94f18c6aa6168f9f0af52620c440b7510651b9fc22"},
		{1, 5, 10, 0, 3, 10, "03000000f64f0d4241ba4c358fe3ad3cabf34cc7771b1796cbed9d1e6587fbb6"},
		{1, 5, 10, 0, 4, 9, "04000000458943c3111e2a94f18c6aa6168f9f0af52620c440b7510651b9fc22"},
		{1, 5, 10, 0, 4, 10, "04000000f64f0d4241ba4c358fe3ad3cabf34cc7771b1796cbed9d1e6587fbb6"},
		{1, 5, 10, 0, 7, 9, "07000000458943c3111e2a94f18c6aa6168f9f0af52620c440b7510651b9fc22"},
		{1, 5, 10, 0, 7, 10, "07000000f64f0d4241ba4c358fe3ad3cabf34cc7771b1796cbed9d1e6587fbb6"},
		{1, 5, 10, 0, 0, 11, "00000000f64f0d4241ba4c358fe3ad3cabf34cc7771b1796cbed9d1e6587fbb6"},
		{1, 5, 10, 0, 0, 0, "00000000458943c3111e2a94f18c6aa6168f9f0af52620c440b7510651b9fc22"},
		{1, 5, 10, 0, 0, 18446744073709551615, "00000000f64f0d4241ba4c358fe3ad3cabf34cc7771b1796cbed9d1e6587fbb6"},
		{1, 5, 0, 0, 1, 0, "01000000f64f0d4241ba4c358fe3ad3cabf34cc7771b1796cbed9d1e6587fbb6"},
		{1, 5, 0, 0, 1, 18446744073709551615, "01000000f64f0d4241ba4c358fe3ad3cabf34cc7771b1796cbed9d1e6587fbb6"},
		{1, 5, 18446744073709551615, 0, 1, 0, "01000000458943c3111e2a94f18c6aa6168f9f0af52620c440b7510651b9fc22"},
		{1, 5, 18446744073709551615, 0, 1, 18446744073709551614, "01000000458943c3111e2a94f18c6aa6168f9f0af52620c440b7510651b9fc22"},
		{1, 5, 18446744073709551615, 0, 1, 18446744073709551615, "01000000f64f0d4241ba4c358fe3ad3cabf34cc7771b1796cbed9d1e6587fbb6"},
		{0, 252, 9223372036854775808, 200, 2, 9223372036854775807, "0200000011df641dff05b3368be0f18ece1916f83f37c5203ffd8b765c26054a"},
		{0, 252, 9223372036854775808, 200, 2, 9223372036854775808, "02000000de12c3a7516243e555465eb714a9fdf52e9679196e1d656f11ca2971"},
		{0, 252, 4294967296, 200, 2, 4294967295, "0200000011df641dff05b3368be0f18ece1916f83f37c5203ffd8b765c26054a"},
		{0, 252, 4294967296, 200, 2, 4294967296, "02000000de12c3a7516243e555465eb714a9fdf52e9679196e1d656f11ca2971"},
		{17, 34, 3, 77, 255, 3, "ff000000715cef7f8696c100883ac353db4631ce848b254af6f36243bca04660"},
		{17, 34, 3, 77, 256, 3, "00010000715cef7f8696c100883ac353db4631ce848b254af6f36243bca04660"},
		{17, 34, 3, 77, 16909060, 3, "04030201715cef7f8696c100883ac353db4631ce848b254af6f36243bca04660"},
		{17, 34, 3, 77, 2147483647, 3, "ffffff7f715cef7f8696c100883ac353db4631ce848b254af6f36243bca04660"},
		{17, 34, 3, 77, 2147483648, 3, "00000080715cef7f8696c100883ac353db4631ce848b254af6f36243bca04660"},
		{17, 34, 3, 77, 4294967295, 3, "ffffffff715cef7f8696c100883ac353db4631ce848b254af6f36243bca04660"},
		{17, 34, 3, 77, 4294967296, 3, "00000000715cef7f8696c100883ac353db4631ce848b254af6f36243bca04660"},
		{17, 34, 3, 77, 4294967303, 3, "07000000715cef7f8696c100883ac353db4631ce848b254af6f36243bca04660"},
		{17, 34, 3, 77, 1099511627781, 3, "05000000715cef7f8696c100883ac353db4631ce848b254af6f36243bca04660"},
		{17, 34, 3, 77, 9223372036854775807, 3, "ffffffff715cef7f8696c100883ac353db4631ce848b254af6f36243bca04660"},
		{17, 34, 3, 77, -1, 3, "ffffffff715cef7f8696c100883ac353db4631ce848b254af6f36243bca04660"},
		{17, 34, 3, 77, -2, 3, "feffffff715cef7f8696c100883ac353db4631ce848b254af6f36243bca04660"},
		{17, 34, 3, 77, -256, 3, "00ffffff715cef7f8696c100883ac353db4631ce848b254af6f36243bca04660"},
		{17, 34, 3, 77, -2147483648, 3, "00000080715cef7f8696c100883ac353db4631ce848b254af6f36243bca04660"},
		{17, 34, 3, 77, -4294967296, 3, "00000000715cef7f8696c100883ac353db4631ce848b254af6f36243bca04660"},
		{17, 34, 3, 77, -9223372036854775808, 3, "00000000715cef7f8696c100883ac353db4631ce848b254af6f36243bca04660"},
	} {
		fork := api.Fork{Previous: api.Version(rise(known.previous, 4)), Current: api.Version(rise(known.current, 4)), Epoch: known.fork}
		x := api.State{Fork: fork, GenesisRoot: api.Root(rise(known.genesis, 32))}
		wantKnown(t, "Domain", sign.Domain(x, known.kind, known.epoch), known.want)
	}
}

// TestKnownRoots: objects and domains rise from these first bytes on.
func TestKnownRoots(t *testing.T) {
	for _, known := range []struct {
		object, domain int
		want           string
	}{
		{0, 0, "7c26fdd1387b71ca2b32c7778087933352bceddf1b767f4f9230aa543df6153a"},
		{0, 32, "fdeab9acf3710362bd2658cdc9a29e8f9c757fcf9811603a8c447cd1d9151108"},
		{32, 0, "84e4bd6ca2af96412fdc62fe44d4e9709cdc31933081a62486a48a154b582d53"},
		{1, 2, "163bc0b1df17dae81bf4a53fd7a0d1199253944c89b1567ecde027695b9a1f8b"},
		{2, 1, "b1d768b37d44ab86371b9fb490ce48b948944ddec9ff1294182fce7ebfd5b0f6"},
		{255, 128, "fe9f77f6c0ddc753480c57ca4cfa7258960f485407533683931b18da51b518f2"},
		{128, 255, "f12b5a713fb987b7b2cdceb15406d84f77ad8c5933ef8cb3836ef39906305c9e"},
	} {
		wantKnown(t, "Root", sign.Root(api.Root(rise(known.object, 32)), api.Root(rise(known.domain, 32))), known.want)
	}
	wantKnown(t, "Root of zeros", sign.Root(api.Root{}, api.Root{}), "f5a5fd42d16a20302798ef6ed309979b43003d2320d9f0e8ea9831a92759fb4b")
}

// TestKnownMessages: keys, credentials and signatures rise from these first bytes on.
func TestKnownMessages(t *testing.T) {
	for _, known := range []struct {
		key, credentials int
		amount           uint64
		sig              int
		want             string
	}{
		{0, 0, 0, 0, "3593e920cb998b2983f82a933296fd2c6757d45633d38497d1d6d60e6c7321ed"},
		{0, 0, 0, 1, "3593e920cb998b2983f82a933296fd2c6757d45633d38497d1d6d60e6c7321ed"},
		{0, 0, 1, 0, "a631d69b55b3da8831ec3ba35aee63af53a8f9cee72e10903b47e3f9965525a1"},
		{0, 1, 0, 0, "ece380aaee89163f18f8c5dd27bcd68dc7555d19e9dadd08f3da50e88057501d"},
		{1, 0, 0, 0, "86b93a8818fba9345eea77e8fe3a33f1d4164718acdda1aa74c411f4f38860f3"},
		{0, 0, 18446744073709551615, 0, "c7aaf38b875f9a3a5170dae4d4a9376259fa6bf6ff0f6e7a69fcd1510fbd3eb5"},
		{0, 0, 9223372036854775808, 0, "6707d14638dd49e2aa8d928eaa043b94a8381e0ad75bca3f25a12ac9b8bfb048"},
		{7, 99, 32000000000, 200, "8bad9ba9624b132d2c0ed44482f2a12489947ff881055b5248059c0109eac023"},
		{99, 7, 32000000000, 200, "3196877f0924c0f8dce940c51b764a0dbc3c09844ef580074c0625432596b770"},
		{7, 99, 72623859790382856, 200, "0837bd78bc6f867b9cda96f7e59c44d1dd5d66eb8b0abb80237b108fc2fdb650"},
		{7, 99, 256, 0, "c8c2359ffe82a12b1eb7116fd83b67e244b121063e489ba4d6c30f838489fead"},
		{250, 251, 1000000000, 252, "af60daf34eeab5231a960d95a05a1361e37c9a3caa72c2358bdfcf0cbbf4b029"},
		{250, 251, 17000000001, 252, "9423cbe6d5a25cd3a61adae9fe620eb069576ed85fa28d647c6484c86a0c22c3"},
	} {
		d := api.DepositData{
			Key: api.Key(rise(known.key, 48)), Credentials: api.Root(rise(known.credentials, 32)),
			Amount: known.amount, Sig: api.Sig(rise(known.sig, 96)),
		}
		wantKnown(t, "Message", sign.Message(d), known.want)
	}
	wantKnown(t, "Message of zeros", sign.Message(api.DepositData{}), "da6d807bf795106146e5822775d914b0277a65240f650ed4c8a7ca77824e5adf")
}

// TestKnownQuestions: so many rising keys; roots and signatures rise from these first bytes on.
func TestKnownQuestions(t *testing.T) {
	for _, known := range []struct {
		keys, root, sig int
		want            string
	}{
		{0, 0, 0, "2743f5b670651e2d015e63e6329f95d759a855c06df1e614331fbbd5bfba0e5d"},
		{1, 0, 0, "462ab77bbf8964be5d53f40be2764fb96aa06c4934ce55609086775b4c10015e"},
		{2, 0, 0, "3762ffe54f1ceab19d1fa3754139dec3234356ddb8d4545e129efcfb2767516f"},
		{3, 0, 0, "e71172c578230faf655cbc289603f0418667f04f3338773dbb8be2140374abf6"},
		{4, 0, 0, "87b52c53d8540f986a2af715b026d32238c122fe78474cc8ba23a3a1d6db8cc8"},
		{5, 0, 0, "9fba72754c7be46ec8c995b034d82e1be5daeacc47f7d44926aa179847aefc07"},
		{6, 0, 0, "ba9fd96dadc716a4b6a677f8d1235efc45e95f8efe5914e5d8f9be6d83715db6"},
		{7, 0, 0, "7e070fa255f1383eff74f2c2371e8656066e49686d66c3fef33117fa50bf5528"},
		{8, 0, 0, "6e8d1c35c9bea5492cc0c75d266e8c5f514ea572a173b6cf798fd6993a34e3fd"},
		{9, 0, 0, "595158cf0cca85cb9784eefbcc99ead524b109696ec6fc69bfba575e1f66e2a5"},
		{0, 100, 200, "dd3e1c65df6844b26418a05f8994c42490bc51ee780a6d9994ca688954497eb5"},
		{1, 100, 200, "0140a5d8af1be6dec1d394e252531bee22db2fbeab30e2bd8bc16f93367651fd"},
		{2, 100, 200, "7a1ec5b55f95502144ed5e4638b76a5e3ce62a1501977a11e325875203d99b09"},
		{3, 100, 200, "509c7b3b109e964df9883b878de14864f48d5eeae8e4dbd13dfd4f7930a89d91"},
		{4, 100, 200, "2d6b181037ab61b9ddee157b183119c83d53149628aaf94728ed6c8d6cea1763"},
		{7, 100, 200, "4ce8f00ab6090bd559949bc57020c94bce438a033ccbc46d7a697e2812b426f1"},
		{8, 100, 200, "1e26430a364dde39b34d28dc77884bf045ad0e03a465b7ae64bc1b66d99b6172"},
		{9, 100, 200, "edf6f013c279f6a2cd885a5e1aa1a897d0c1436b3075081ea64fbeb4b40894d8"},
		{12, 100, 200, "01815ef49345fecbf06a4d05e30f23492cddb0562008464c769e74f8e64ae951"},
		{15, 100, 200, "071c2a52779abe16e57b4391221f151e167193dfdc5c3f50b0f383ace022ed27"},
		{16, 100, 200, "1c16a42021072c8aa7c2b144accab9997dd0044463a8d4abc557c4413ade8646"},
		{17, 100, 200, "7ec191f64d797b39ab58790359c8dd1164f67fc523826b4ee530db8ba1c68bbe"},
		{64, 100, 200, "e963ed2453537b7b3e0234f62b3550bd155188911d6d4cbccb08c655a1c7b0cd"},
		{100, 100, 200, "30ceff45b7cb488b422f2db9bcadc9fbd9e320c6cf5ef15908ed81da9163bd48"},
		{1000, 100, 200, "0e2f427990f66a50960517485275ca8f526bf7ded8ecde0865bad7e8bbd09733"},
		{65536, 100, 200, "e315335ddcf5afba32e67542675366f9d305b039464e4fc50ea4aae27ecd4f36"},
		{1, 200, 100, "1c9f9ec57376ededa3bcd3d51bc459f955ddb26b559a863986e5431c031c2f3d"},
		{2, 0, 32, "4f691347358d76e2598758c24ea6db3755f00231c0e5727e3ba84af54229b6ac"},
		{2, 32, 0, "d4d0bf384980d0f580d4335d5b3384e5d2f4b03408cd5fe4c660d411128aa4c2"},
	} {
		root, sig := api.Root(rise(known.root, 32)), api.Sig(rise(known.sig, 96))
		wantKnown(t, "Question", sign.Question(risings(known.keys), root, sig), known.want)
	}
	wantKnown(t, "Question of zeros", sign.Question(nil, api.Root{}, api.Sig{}), "38723a2e5e8a17aa7950dc008209944e898f69a7bd10a23c839d341e935fd5ca")
	wantKnown(t, "Question of a zero key", sign.Question([]api.Key{{}}, api.Root{}, api.Sig{}), "86d2cf5b090f43ee54d8f7c1dcf746a853951191457ff6dac96269a9d24860b9")
}
