package slash_test

import (
	"crypto/sha256"
	"encoding/binary"
	"encoding/hex"
	"fmt"
	"testing"

	"pharos/api"
	"pharos/slash"
)

// Answers that were reckoned apart from the program, in another language.

// rise so many bytes from a first one on, each one more than the last.
func rise(first uint64, n int) []byte {
	b := make([]byte, n)
	for i := range b {
		b[i] = byte(first + uint64(i))
	}
	return b
}

func riseRoot(first uint64) api.Root { return api.Root(rise(first, 32)) }

func riseSig(first uint64) api.Sig { return api.Sig(rise(first, 96)) }

// risingKey is one whose bytes go on from those of the one ahead of it, up to 250 and round again.
func risingKey(k int) api.Key {
	var key api.Key
	for i := range key {
		key[i] = byte((48*k + i) % 251)
	}
	return key
}

// riseState has so many validators that are active always, with so many Increments each, of whom a quarter leaves already; its mixes go on from byte to byte.
func riseState(t *testing.T, n int, increments, slot uint64) api.State {
	t.Helper()
	x := withValidators(slot, members(n, increments)...)
	for i := range x.Validators {
		v := &x.Validators[i]
		v.Key = risingKey(i)
		if i%4 == 1 {
			v.Exit = slot/4 + 3 + uint64(i%3)
			v.Withdrawable = v.Exit + 2
		}
	}
	for i := range x.Mixes {
		x.Mixes[i] = riseRoot(uint64(32 * i))
	}
	x.GenesisRoot = riseRoot(7)
	mustRight(t, x)
	return x
}

// riseHeaders of a proposer for a slot: two that differ in their bodies.
func riseHeaders(slot, proposer uint64) api.ProposerSlashing {
	h := api.Header{Slot: slot, Proposer: proposer, Parent: riseRoot(slot % 200), State: riseRoot((slot + 50) % 200), Body: riseRoot(100)}
	s := api.ProposerSlashing{One: api.SignedHeader{Header: h, Sig: riseSig(1)}, Two: api.SignedHeader{Header: h, Sig: riseSig(2)}}
	s.Two.Header.Body = riseRoot(101)
	return s
}

func riseData(v, source, target uint64) api.Data {
	return api.Data{
		Slot: v, Index: v + 1, Block: riseRoot(v),
		Source: api.Checkpoint{Epoch: source, Root: riseRoot(9)}, Target: api.Checkpoint{Epoch: target, Root: riseRoot(10)},
	}
}

// each so many steps apart, as many as there may be of so many validators.
func each(step uint64, n int) []uint64 {
	var who []uint64
	for i := uint64(0); i < uint64(n) && len(who) < 64; i += step {
		who = append(who, i)
	}
	return who
}

// riseAround: an attestation of each second one, around one of each third one.
func riseAround(n int, first uint64) api.AttesterSlashing {
	return api.AttesterSlashing{
		One: api.Indexed{Who: each(2, n), Data: riseData(3, first, first+4), Sig: riseSig(3)},
		Two: api.Indexed{Who: each(3, n), Data: riseData(5, first+1, first+3), Sig: riseSig(4)},
	}
}

// sumOf all that a slashing may change.
func sumOf(x api.State) string {
	var b []byte
	for i, v := range x.Validators {
		slashed := byte(0)
		if v.Slashed {
			slashed = 1
		}
		b = append(b, slashed)
		for _, n := range []uint64{v.Exit, v.Withdrawable, x.Balances[i]} {
			b = binary.LittleEndian.AppendUint64(b, n)
		}
	}
	for _, n := range x.Slashings {
		b = binary.LittleEndian.AppendUint64(b, n)
	}
	return text(sha256.Sum256(b))
}

// text of the front half of a root.
func text(root api.Root) string { return hex.EncodeToString(root[:16]) }

func TestKnown(t *testing.T) {
	for _, known := range []struct {
		n                         int
		increments, slot          uint64
		headerOne, headerTwo, sum string
		dataOne, dataTwo, dataSum string
		leaveSum                  string
	}{
		{1, 32, 1, "fbe94e4ec0284bade28f1614ef4b77db", "0e106f8c5cc4ad2e9865f30e51e59314", "93a1bd385c58d0e41d99b7441dc2141e", "576fc52952bafd4f6abc301d66275084", "72a8a9f9bf8527ea3409e930d77597ee", "93a1bd385c58d0e41d99b7441dc2141e", "d7bbd36a77ed8ac47e89c6039e400f51"},
		{1, 32, 39, "20ca6629013732e01cb1c901234a85a2", "f9583604d8366def148774e7c2176dac", "8de5dc917925d2c563db05e5e8b94ba3", "3a4f1978b52d91cae7ac9b99447da35f", "a7f1be8de3e5aca395dc54d740213410", "8de5dc917925d2c563db05e5e8b94ba3", "c28c70e5c4a8ae74763debc2a69a95b4"},
		{1, 32, 40, "1d438a05401f56ae07069a0d94100e3b", "5566b4f15d94f1fea3f327c0b9578d89", "ca61e04d9718670bdd9b60a6abfdcefa", "27bca386ac585a3118ceb1d83ab6ed35", "2e46310ab7ab0ea6a37091b152ea7548", "ca61e04d9718670bdd9b60a6abfdcefa", "b481ef7853ea5ef1f43b659e7cb366e4"},
		{1, 32, 103, "1de15cc42f09cab06bc1f71d61157cc3", "8dbb94ca5ba769d33ead11c85f54f7ac", "50145e69d7e53cc9bf3a460d88578f30", "c6857ad867a440aa1ce4e5b56f435f74", "ad9d379c0ff68ce234655cb51cad365c", "50145e69d7e53cc9bf3a460d88578f30", "fcb2e610c715af7f7b5000edd641195d"},
		{1, 32, 1099511627775, "67abc4b3160b853b31184fe77a7b1cfa", "d1fcf9ab45cef62ffaa8eba80ca3fff7", "8d0e2b2db3dac74f47b3faec254e61c3", "b2985c7f4d8f3d7923f566a9211751f7", "01778ae0c07a4f6a9ffaaf596eee6f82", "8d0e2b2db3dac74f47b3faec254e61c3", "c6b4ef3be51b2820d246adbb2af98b1f"},
		{2, 32, 1, "a4147f4482f1e2c5c3071edbb110a7c3", "f7e9c148feb7d9ba58f502b5e0222da2", "748a21fb8fb262e01063baba9cd2b352", "576fc52952bafd4f6abc301d66275084", "72a8a9f9bf8527ea3409e930d77597ee", "365f59fb9e8bb36b96f8e730f82e52fe", "bfd7d1350d6dcaa82fa8546fc0df57dc"},
		{2, 32, 39, "6ae36306a67610f7dc5a0db8b66dbace", "fcfdfae18b578513563371d5d7d790ce", "545cb0d5e71f11d7c29e24b0e7e4641a", "3a4f1978b52d91cae7ac9b99447da35f", "a7f1be8de3e5aca395dc54d740213410", "dc160b3cf8c2fab5d9500cd1e7a064be", "91acb7f732118c655d3fa883bc3775bb"},
		{2, 32, 40, "9af9591da59e8c92fd2550a6c3751661", "83ebcd9baeeabab966e6b0aa3359ef20", "6f66d39c89587753302f9d52e958c60f", "27bca386ac585a3118ceb1d83ab6ed35", "2e46310ab7ab0ea6a37091b152ea7548", "25ef6149137e2f6467c3e9367871ba6c", "2ea5e5f65ff0049ed95989e363ceaa63"},
		{2, 32, 103, "867c12e3c933a198a424fbbbb155a4e4", "255f51e8beba239c4820bd046c97de9e", "a3db2272cc49fe667a509fe237918145", "c6857ad867a440aa1ce4e5b56f435f74", "ad9d379c0ff68ce234655cb51cad365c", "734e013c879bfa57b28055f8f74b7f2f", "c59a82337080ac0187db91261a70667b"},
		{2, 32, 1099511627775, "f3059a4c22b128795b37ce13c2e9cee0", "70cf241c57c8ff454f34e564fb68cdd5", "1860debc3684f3785c53d1033544ce4b", "b2985c7f4d8f3d7923f566a9211751f7", "01778ae0c07a4f6a9ffaaf596eee6f82", "9dbbfc9875814b72997557c49103acc3", "4f02677da8039ccc98b62b5893b066f7"},
		{3, 17, 1, "a4147f4482f1e2c5c3071edbb110a7c3", "f7e9c148feb7d9ba58f502b5e0222da2", "1363d9d05e2fb2f017aaf73f9f2109a5", "15ebeee02406091d5594d0223ea06426", "72a8a9f9bf8527ea3409e930d77597ee", "c6827e3ef509df112a7164c8ffb853bd", "dc16727659b590dc37fd7dd7d7368d42"},
		{3, 17, 39, "6ae36306a67610f7dc5a0db8b66dbace", "fcfdfae18b578513563371d5d7d790ce", "c2e6f097b5e8ae7c69d764752f0ec443", "bd584f63c276134570b379b8ca6baf86", "a7f1be8de3e5aca395dc54d740213410", "49566e882bcbf19491a16aa5419ce242", "aaef0ed48fb079d0151bd242172411d5"},
		{3, 17, 40, "9af9591da59e8c92fd2550a6c3751661", "83ebcd9baeeabab966e6b0aa3359ef20", "c4c80b0e249214c39e18dfdc6937c752", "742dd44e2df192a556ee4d0f4195e49d", "2e46310ab7ab0ea6a37091b152ea7548", "6b84112ed0b370e7ee31da5c60c5073b", "d4861ebdb02b3e0311da67680786a038"},
		{3, 17, 103, "867c12e3c933a198a424fbbbb155a4e4", "255f51e8beba239c4820bd046c97de9e", "ac0667ac122c21c2901c1666f33a26f8", "3f7ed7577c7af0ca05b615b39d538b52", "ad9d379c0ff68ce234655cb51cad365c", "e8321f6d649aaa773644a4dd9da7eebc", "df55aebc36c8bd4c46dd427e8795126f"},
		{3, 17, 1099511627775, "f3059a4c22b128795b37ce13c2e9cee0", "70cf241c57c8ff454f34e564fb68cdd5", "b757f3021502cbcbe399cc952c90ea38", "af08245b17d373ff80bfc60d8cf3dcca", "01778ae0c07a4f6a9ffaaf596eee6f82", "4a5b0bdf55562347b40ea6d7f7fda669", "15fcf78885872ee00d85be82bb465e9b"},
		{5, 32, 1, "f82e3c4d7e92620c87b0cd3bcd0420ca", "82585c92c9530eef62439eef11394591", "989f93bc93e0b502771229b96a21d6af", "3647d44b50630c4ffd0429a6e8c11eb8", "a0bef0c00105f857bd0446e24b3bb83d", "3cfc1f07fa63d2061ace511851a441e7", "306671d5aabf54705a492a5447702ce5"},
		{5, 32, 39, "f734205560a3b118f5a469ace395134a", "ad7045fd1bf1bad8919c87202c5bf3e2", "30d30e33f4086850c4bef5b95091273d", "a7f3ab6211d119607e2a75f0040e3d81", "6a2e1e038182031e9cff98852971c956", "f09d08d23df5f2ab8c7e65a1d30f9191", "73d76a0ded157051cdde81ab2c4055b4"},
		{5, 32, 40, "974be4608d9eb75442969d79e345755f", "ed328db1f4896f153641e5d5ecbdde5d", "71b9f5e531ec59f08877e48e98db0f9e", "ad46126d169da3821aa1da17f1ec5470", "de4a899bb4e14ce26c8ab05df075e3ee", "b2bcd552a4862a176f456222c6ebf358", "dbb14c703a9d229c2cac30d4170153ab"},
		{5, 32, 103, "627587d081c450769fb3f0a43abb12e6", "4fa8374a60959349a2b63041840d94bb", "6faa60971323eca9703f2436b5587dd4", "e08e481e7bfaa38e99839efd6e062cae", "0bacde39615a3073491340fa55bde795", "43e1d73dffaeff61c79e8f1e01b01713", "e8983f196c55d5cc9634d43c1e58a7a5"},
		{5, 32, 1099511627775, "17ec04e962e05fb74da290b413a375ef", "ad660a815801178c2048abaabb03b094", "d0642a811d92d2a649e05e5acd916bd7", "ec112e1f5c1de852aea8574215912486", "5e5f8db8fe5843cf2372a05e3caaf796", "145f25922dc2b3b4bbaf9bcaf570cd0a", "be0f432fa3bfc5d65a7e2f9f774df76a"},
		{16, 32, 1, "7259250953eab0a3cd6a5b6d59007c53", "54e7e82df3af4cfecdb4e43fe2d2d427", "13e07f3fc5ac4dbb7e978688da523074", "f9a0d9e122f5838e623e199e8cccb915", "15affbe0e4b8cab9f1193080b45ddaf2", "99d83ab3697f5517fae28db7169f7421", "f76ff13529b1fadb6f24e0e45a94857d"},
		{16, 32, 39, "2fef4ef930550182fe61414dbfe9fa2e", "76dec1cfe759e7e01454d08af2586390", "9b01581f0cbebaba27a4e9582d23806a", "b50d2d5f00c42f7e6882f8c71e02f7ad", "2093ec36661e0a648e6a6a566892ba57", "261afed13251fb87f92f9868cddd5d9b", "2d83937cc8a2053538b39141d9b012dd"},
		{16, 32, 40, "3c36e627076c0086fbe957c18c462b33", "42d0b76b129ffbb01021d216da48fddf", "8c38fe1e3ee4862fc786f0350c5e6f88", "8fd1f8ca572d00fe9fe33f26fd8a3ddf", "ee37558300405cc7dd8ff895b6362524", "6ae70eb00190608f0778dd12bb40f41d", "8f79a14444a9d8bb9f06f7db404126e2"},
		{16, 32, 103, "71afe291d567b345fe9382e7caebbb6a", "c8c8789d92f0584bc7b9721c1e3df903", "9025eae1c9391848128821c10a978cdd", "949d7e85804de41f85a2c1ebf0bff3e1", "2b86acfe979ef016d0bae217535fcfd8", "3bbbfeb97e1e86b5a7b9838dfa697935", "fde9984f8c9ec174e8d1b267e2c1c6a0"},
		{16, 32, 1099511627775, "e387dd527e867762fb6ec6bfab02e2e8", "38c11102ed14e8d3e7277c2fa4edaf3f", "8d222170a99196b1168cac2a10845ce5", "8bd8a5d371f830bfac41d64e2c7bdae8", "b3df98679065d683d8a25f9e3ed463a8", "615ddd13cabceff9c69aea104746e70d", "8e54ddd9fc79b39b098e1d2b5efb57eb"},
		{16, 1, 1, "7259250953eab0a3cd6a5b6d59007c53", "54e7e82df3af4cfecdb4e43fe2d2d427", "f23a374bbaf8cacd72f43ec87e06020c", "f9a0d9e122f5838e623e199e8cccb915", "15affbe0e4b8cab9f1193080b45ddaf2", "2e560181218d534817f5b53ff52a2cb4", "f76ff13529b1fadb6f24e0e45a94857d"},
		{16, 1, 39, "2fef4ef930550182fe61414dbfe9fa2e", "76dec1cfe759e7e01454d08af2586390", "034795975c0723ac40bf4895c9877401", "b50d2d5f00c42f7e6882f8c71e02f7ad", "2093ec36661e0a648e6a6a566892ba57", "f30d5cd0fdb1ce82e362edd2e444300b", "2d83937cc8a2053538b39141d9b012dd"},
		{16, 1, 40, "3c36e627076c0086fbe957c18c462b33", "42d0b76b129ffbb01021d216da48fddf", "b4550ad003dc849617053ce672e92858", "8fd1f8ca572d00fe9fe33f26fd8a3ddf", "ee37558300405cc7dd8ff895b6362524", "b39a62a97f9aa48566d73ae8e5f18f93", "8f79a14444a9d8bb9f06f7db404126e2"},
		{16, 1, 103, "71afe291d567b345fe9382e7caebbb6a", "c8c8789d92f0584bc7b9721c1e3df903", "cc10feb94e47911d8327305776ee5240", "949d7e85804de41f85a2c1ebf0bff3e1", "2b86acfe979ef016d0bae217535fcfd8", "27ba9f85382f24121309f1bdaa233473", "fde9984f8c9ec174e8d1b267e2c1c6a0"},
		{16, 1, 1099511627775, "e387dd527e867762fb6ec6bfab02e2e8", "38c11102ed14e8d3e7277c2fa4edaf3f", "9393f51b2b78cd7bb7b839ca71342f35", "8bd8a5d371f830bfac41d64e2c7bdae8", "b3df98679065d683d8a25f9e3ed463a8", "3933747c29cecf8cd163f69f829ac87e", "8e54ddd9fc79b39b098e1d2b5efb57eb"},
		{40, 31, 1, "0fe8b7f11b4049f1c9f7f85a08001cd1", "16b1dac3f1acced5db83a3953d945e15", "0a9282e5bb38b3747e95933c07aa5782", "6cf6661c61b3c511cffdd462e788a357", "b811d6cf4669cd4578a1c07d7061a48c", "d03c97a7364462744235147246e37286", "5c534f469e3a9b97a7ec112fccbe40f2"},
		{40, 31, 39, "68e76b03223744a8367b4dffa9f55686", "efa166f806a7f3c8adf1096eaf353dbf", "27cfa14a19af84f3ac7514fc595b2b43", "4ed2b4c3d2a1a2c3ac95a6b82d247863", "29e6597d5e1f3614367345e7ef70abb1", "546bc9577493cc10db5eeece1d0864f2", "772f4e09fdc04ef632734f18103e2e96"},
		{40, 31, 40, "2223363a33b237e66972c63376132ec1", "dd1221fd498da33376f3f5ec5f99b8c9", "873051cdcdefcff7aae619471617baca", "a9cae88faf52f83384a15df64c540a8c", "e9f4613f7885c9f8ab929f3caa21bffa", "aaa8837a5d374de038bc10493959386b", "dcf7907ddd1c77f29e50a187e4ba88bd"},
		{40, 31, 103, "718ea21e546c40d2057980f69a9929e5", "f70009b71eb13be15aab0b96f5b90adc", "fca0c140707c3e36634bf8f084f7ce77", "e9bba8b3a5973815ef82eea2d7727f96", "ea143c72c8e625fff6138ed8f8935e3a", "2564103d90a678c98f94c86d73e363b9", "63a392bc9ea2655152d8f19df4b8c445"},
		{40, 31, 1099511627775, "79847e01d214be9518929e7ad8edb4c4", "3371d7875aef27289ee6c20a944ab0ca", "cf2e7c6adf6bedc37dd354bc08f47615", "45d788bf53d084806b8f328859469a4a", "e5b536dc8e36afa11ca53e7aac400584", "53c95e224317c93c60ebf98adc2bc141", "49d9a042d1d5418051868207edd41146"},
		{100, 20, 1, "94d716b68e13ad8df78afe1a8220cee9", "546a93320e53cca4d7a6da0d13f849a2", "24dc70aa6f22f72d22cd418727f8b833", "367f4db3fec837f724a7430f5e7f3cbb", "d34d4de9c8022309466ec781b32f0b14", "ba15300caabeebca4535ec815c9082a9", "388827706eb8f574ce4f97581c0b2a90"},
		{100, 20, 39, "07dda311c835c7aa1af4968bed74cdcd", "ee1142c047f2baf01dbc486ee757b658", "5df426fcff5442da3f8d41ab46282f8b", "8a1a2dac772d4b76bf041b5da6f36bce", "1318ff6e4e98a8db22b766440f0d9dda", "4cdf4cd4d60fa10d830e502729fd1e90", "a430451e33ce57c6254989bfa1b93045"},
		{100, 20, 40, "a5c3d53dd61de1d1351db0d1c0d44127", "77ce7683040e14653991b4dc9258596f", "4324b538dd48c8fed207b72342b8ed3e", "9851de2c364d2c8fdf75c8a01174179e", "1ebcef41f41c2e755ee7c8c5e3358802", "37dbac0c5f8ae56e03b7b655c68466ed", "57bc34cd13a949ef8bbc7defe8c5925b"},
		{100, 20, 103, "f07994229339cb375d97aca80e2ec2a9", "fc89a12e4fc91acde60f479255a8ea9e", "9aa31a7846c8e6667ef3b3cbf2ed86c9", "0f1befefe682f1810f318970d800557e", "7bb243460d945005cab52b5fd421d893", "bf567c158c4e7459685a0e6c7ab30b11", "f4cb56967bc724c99a0e8c6d6bc15548"},
		{100, 20, 1099511627775, "434108debfaa7a2d1ba913001cf88f3a", "9f3c889301e535d2e8db87136879ef0e", "7172120929b6b0c8cfb7b4e9fd9dd8d8", "31861bdcd258b1e17412baf932b5dc1c", "cd8eaba1ca8bbab81ea9afecefd74b60", "f4ace88c4fa7bade6b328ca1573cca3a", "0def1f3224e271136e28902c4c7d9653"},
		{257, 32, 1, "8a46ad3caa579aead19b916356906739", "4a7268dbf7727c4c08032356cdc367a0", "2a3032c9ae22839a59ea21caf33754ec", "8871aa49e391c57d8712f0a3a5902c17", "0300b19daac94024026eace94563cd30", "231b174f58842b51b90d7947de5b2a2c", "d3e3af0c6c6d7ec161b253f4ebae9920"},
		{257, 32, 39, "3dc37c85b3cb12dd7f41693e388cecba", "4aec2018b5a2062741dd1a58ab89ce62", "34d7996312465c72a601c505be231c75", "624e806a28ce0d066f44101d4aaf4c34", "edf8d6a13707209088a3ef60c4768a03", "b27b4075d848339fc9e17e20958ca500", "c85077425f525bb7f2f2af08d7b5e96d"},
		{257, 32, 40, "c47b944392e2c84a24af76c1bf7c4e26", "8810b193a44c52640046527d15001689", "ff09166375f1f029c3a94dccd2448639", "eb56e27c6615aab24ed3d9b3cf628526", "0c7a15ea922159f7e9395aa16c17a8d1", "a747b4179760b9b5f6466481d083fed4", "1c62155732b74c8d8c550ee84d65912f"},
		{257, 32, 103, "7d63f8fd9a90a3a29f26d82e6b539c5d", "ecbce2e5606e6450bc26434c8dcf6e5d", "53a77b72b8a73311d30c33a14d3bd05b", "c58507c401fbbde2b27295c1d29eac54", "e09db2d16bb1699a4de22fd1865c857b", "5d0330c1c5ec52b91c65aa66a95de9fa", "77894e9928ba2db071118e49b687a98b"},
		{257, 32, 1099511627775, "0a7b3c443a4457d94374d0fce15b6305", "6571196a8e2ecdeb35bf2e34efd0307d", "f518002c89eb38ef0e0a481c6a75ef21", "5494421ef6da5e7b84c61152b83fbe21", "72062b7b263d8aebceda322d2ce4e8ee", "a2282905dbb1ed13b78a9b5bd3a7d1e9", "7ac465c9e72a1eb632f67f52407941f1"},
		{1000, 5, 1, "5498371ffc8a5eabbec69b555f144879", "a3f276e4d37cc3c5aa4afe8c5180f17c", "0968f503fd8ade1cb1a7c68d0731d7e9", "8871aa49e391c57d8712f0a3a5902c17", "0300b19daac94024026eace94563cd30", "f98d52cf6326395c91dafcc0635bef78", "c485e0a91644958a34033342ed8ef980"},
		{1000, 5, 39, "7d928d18d2f419e607fab86828b87445", "3f4e5e55222e4a18fc998dfa142b0de6", "9de5b7766e3c06215cb4e2cf1dee597c", "624e806a28ce0d066f44101d4aaf4c34", "edf8d6a13707209088a3ef60c4768a03", "a8bcf6d056a0cf141e2c43491fb58798", "28f263ec4c9f197b7f5c4e1ad8a801d7"},
		{1000, 5, 40, "cd3abbfaadb7ec835c3c08c00a95a8d1", "6fd8683e38d646d5f483ad1730383bd0", "cfeca3a42b801b9cc343515f8184c41f", "eb56e27c6615aab24ed3d9b3cf628526", "0c7a15ea922159f7e9395aa16c17a8d1", "910e81a0dcce67816ad519b29b70a309", "192eccd157f13e80ca246ebc81dacc04"},
		{1000, 5, 103, "5e45c777a728f2015c3eb8932fe2fcf1", "63ce510809315961e51f8b30719b962d", "80a67444ea433b0a0cee2abf2bfe1e9a", "c58507c401fbbde2b27295c1d29eac54", "e09db2d16bb1699a4de22fd1865c857b", "8019a0ad11ea4c46c37f30b2aec08e6c", "c48ed8f4207f75733171c20a442c9b26"},
		{1000, 5, 1099511627775, "ce5719686ab33f66c682f6e9ee205897", "9f2bd4494080b82d419897609bfadd75", "93c010376cc0ecf93cf78497571b3c66", "5494421ef6da5e7b84c61152b83fbe21", "72062b7b263d8aebceda322d2ce4e8ee", "9730d4300799b88d298f7d4fb493cdc8", "d1c0a40d8f776588b1791135b0857dae"},
	} {
		what := fmt.Sprintf("slot %d, %d validators", known.slot, known.n)
		x := riseState(t, known.n, known.increments, known.slot)
		y, asked, err := slash.Proposer(x, riseHeaders(known.slot%100, uint64(known.n/2)), nil)
		if err != api.OK || len(asked) != 2 || text(asked[0]) != known.headerOne || text(asked[1]) != known.headerTwo || sumOf(y) != known.sum {
			t.Errorf("Proposer, %s: asked %x, error %d, sum %s", what, asked, err, sumOf(y))
		}
		y, asked, err = slash.Attester(x, riseAround(known.n, known.slot%20), nil)
		if err != api.OK || len(asked) != 2 || text(asked[0]) != known.dataOne || text(asked[1]) != known.dataTwo || sumOf(y) != known.dataSum {
			t.Errorf("Attester, %s: asked %x, error %d, sum %s", what, asked, err, sumOf(y))
		}
		y, err = slash.Slash(x, uint64(known.n/2))
		if err != api.OK || sumOf(y) != known.sum {
			t.Errorf("Slash, %s: error %d, sum %s", what, err, sumOf(y))
		}
		y, err = slash.Leave(x, uint64(known.n-1))
		if err != api.OK || sumOf(y) != known.leaveSum {
			t.Errorf("Leave, %s: error %d, sum %s", what, err, sumOf(y))
		}
	}
}
