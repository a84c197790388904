package folio_test

import (
	"bytes"
	"compress/zlib"
	"math/rand"
	"strings"
	"testing"

	"folio/api"
	"folio/folio"
)

func rightFlate(t *testing.T, bits, want string) {
	t.Helper()
	checkMost(t, api.Flate, flate(bits, want), want)
}

// wrongFlate has the sum of what would come out, so that it is wrong for its bits alone.
func wrongFlate(t *testing.T, bits, plain string) {
	t.Helper()
	checkDecode(t, []decodeCase{{api.Flate, flate(bits, plain), api.MaxCap, "", api.ErrData}})
}

func TestP4FlateExamples(t *testing.T) {
	checkDecode(t, []decodeCase{
		{api.Flate, "\x78\x9c\x4b\x04\x00\x00\x62\x00\x62", 9, "a", api.OK},
		{api.Flate, "\x78\x9c\x4b\x04\x00\x00\x62\x00\x62", 0, "", api.ErrCap},
		{api.Flate, "\x78\x9c\x4b\x04\x00\x00\x62\x00\x63", 9, "", api.ErrData},
		{api.Flate, "\x78\x9c\x4b\x04\x00\x00\x62\x00\x63", 0, "", api.ErrCap},
	})
}

// TestP4FlateHead tries all two bytes there are at the beginning.
func TestP4FlateHead(t *testing.T) {
	right := 0
	for first := range 256 {
		for second := range 256 {
			want := api.ErrData
			if first%16 == 8 && first/16 <= 7 && (256*first+second)%31 == 0 && second/32%2 == 0 {
				want = api.OK
				right++
			}
			data := string([]byte{byte(first), byte(second)}) + packBits(fixedBlock(fixed('a'))) + sumOf("a")
			got, e := folio.Decode(api.Flate, []byte(data), 1)
			if e != want || (e == api.OK) != (string(got) == "a") {
				t.Errorf("head %02x %02x: %q, %d, want %d", first, second, got, e, want)
			}
		}
	}
	if right < 8 {
		t.Errorf("only %d heads were right", right)
	}
}

func TestP4FlateCutShort(t *testing.T) {
	for bits, plain := range map[string]string{
		fixedBlock(""):                                            "",
		fixedBlock(fixedText("ab\xff")):                           "ab\xff",
		storedBlock(lastStored, "hi"):                             "hi",
		lastOwn + ownCodes(1) + ownA + ownThree + "0" + ownEnd:    "aaaa",
		storedBlock(moreStored, "hi") + fixedBlock(fixed('!')):    "hi!",
		fixedBlock(fixedText("ab") + fixed(269) + "10" + "00001"): "ab" + strings.Repeat("ab", 10),
	} {
		data := flate(bits, plain)
		for cut := range len(data) {
			checkDecode(t, []decodeCase{{api.Flate, data[:cut], api.MaxCap, "", api.ErrData}})
		}
		for _, behind := range []string{"\x00", "\n", " ", "\x03\x00", flateHead, data} {
			checkDecode(t, []decodeCase{{api.Flate, data + behind, api.MaxCap, "", api.ErrData}})
		}
		checkMost(t, api.Flate, data, plain)
	}
}

func TestP4FlateSum(t *testing.T) {
	long := strings.Repeat("\xff", 6000)
	bits := storedBlock(lastStored, long)
	rightFlate(t, bits, long)
	right := flate(bits, long)
	for place := len(right) - 4; place < len(right); place++ {
		for bit := range 8 {
			wrong := []byte(right)
			wrong[place] ^= 1 << bit
			checkDecode(t, []decodeCase{{api.Flate, string(wrong), api.MaxCap, "", api.ErrData}})
		}
	}
	// A sum that is not brought below 65521 is another number.
	plain := strings.Repeat("\xff", 256) + "\xf0"
	bits = storedBlock(lastStored, plain)
	rightFlate(t, bits, plain)
	sum := sumOf(plain)
	if sum[2:] != "\x00\x00" {
		t.Fatalf("the sum %q was meant to come round to 0", sum)
	}
	checkDecode(t, []decodeCase{
		{api.Flate, flateHead + packBits(bits) + sum[:2] + "\xff\xf1", api.MaxCap, "", api.ErrData},
		{api.Flate, flateHead + packBits(bits) + sum[2:] + sum[:2], api.MaxCap, "", api.ErrData},
	})
}

func TestP4FlateBlocks(t *testing.T) {
	rightFlate(t, fixedBlock(""), "")
	rightFlate(t, storedBlock(lastStored, ""), "")
	rightFlate(t, lastOwn+ownCodes(0)+ownEnd, "")
	rightFlate(t, moreFixed+fixed(256)+lastFixed+fixed(256), "")
	rightFlate(t, moreFixed+fixed('a')+fixed(256)+moreOwn+ownCodes(1)+ownThree+"0"+ownEnd+fixedBlock(fixed('b')), "aaaab")
	rightFlate(t, storedBlock(moreStored, "hi")+storedBlock(moreStored, "")+storedBlock(lastStored, " there"), "hi there")
	for _, unknown := range []string{lastUnknown, moreUnknown} {
		wrongFlate(t, unknown+fixed(256), "")
		wrongFlate(t, unknown+"00000", "")
		wrongFlate(t, storedBlock(moreStored, "hi")+unknown, "hi")
	}
	// No block is the last.
	wrongFlate(t, storedBlock(moreStored, "hi"), "hi")
	wrongFlate(t, moreFixed+fixed(256), "")
	wrongFlate(t, "", "")
}

// TestP4FlateBitsLeft: what is left of a byte ahead of the sum, or of a stored block's bytes, is no matter.
func TestP4FlateBitsLeft(t *testing.T) {
	for rest := range 32 {
		rightFlate(t, lastStored+num(rest, 5)+storedBytes("hi"), "hi")
	}
	for rest := range 64 {
		rightFlate(t, fixedBlock("")+num(rest, 6), "")
	}
	// At every place in a byte; where nothing is left of it, nothing is left out.
	for nines := range 8 {
		bits := moreFixed + strings.Repeat(fixed(200), nines) + fixed(256) + lastStored
		bits += strings.Repeat("1", (8-len(bits)%8)%8)
		rightFlate(t, bits+storedBytes("hi"), strings.Repeat("\xc8", nines)+"hi")
	}
}

func TestP4FlateStored(t *testing.T) {
	for _, long := range []int{0, 1, 2, 255, 256, 257, 65534, 65535} {
		plain := mixed(long)
		rightFlate(t, storedBlock(lastStored, plain), plain)
		rightFlate(t, storedBlock(moreStored, plain)+storedBlock(lastStored, "x"), plain+"x")
	}
	for bit := range 16 {
		bits := []byte(storedBlock(lastStored, "hi"))
		bits[24+bit] ^= 1
		wrongFlate(t, string(bits), "hi")
	}
}

func TestP4FlateStoredFirstError(t *testing.T) {
	whole := flateHead + packBits(storedBlock(moreStored, "hi"))
	checkDecode(t, []decodeCase{
		{api.Flate, whole, 2, "", api.ErrData},
		{api.Flate, whole, 1, "", api.ErrCap},
		{api.Flate, whole, 0, "", api.ErrCap},
		{api.Flate, whole[:len(whole)-1], 1, "", api.ErrData},
		{api.Flate, whole[:len(whole)-1], 0, "", api.ErrData},
		{api.Flate, "\x78\x9d" + whole[2:], 0, "", api.ErrData},
		{api.Flate, whole + "\x07", 1, "", api.ErrCap},
		{api.Flate, whole + "\x07", 2, "", api.ErrData},
		{api.Flate, whole + packBits(storedBlock(lastStored, "there")), 6, "", api.ErrCap},
		{api.Flate, whole + packBits(storedBlock(lastStored, "there")), 7, "", api.ErrData},
		{api.Flate, flateHead + "\x01\x02\x00\xfd\xfehi", 0, "", api.ErrData},
	})
}

// TestP4FlateFixed puts out each byte by its code.
func TestP4FlateFixed(t *testing.T) {
	all := ""
	for b := range 256 {
		all += string([]byte{byte(b)})
		rightFlate(t, fixedBlock(fixed(b)), all[b:])
	}
	rightFlate(t, fixedBlock(fixedText(all)), all)
	for _, symbol := range []int{286, 287} {
		wrongFlate(t, fixedBlock(fixedText("aaaa")+fixed(symbol)), "aaaa")
		wrongFlate(t, fixedBlock(fixedText("aaaa")+fixed(symbol)+fixedDistance(0)), "aaaa")
	}
	for _, symbol := range []int{30, 31} {
		far := same(30000)
		wrongFlate(t, moreFixed+fixedText(far)+fixed(257)+fixedDistance(symbol)+num(0, 13)+fixed(256)+fixedBlock(""), far)
	}
}

// lengthNames has for each length's symbol the least length and how many bits more there are.
var lengthNames = [][2]int{
	{3, 0}, {4, 0}, {5, 0}, {6, 0}, {7, 0}, {8, 0}, {9, 0}, {10, 0},
	{11, 1}, {13, 1}, {15, 1}, {17, 1}, {19, 2}, {23, 2}, {27, 2}, {31, 2}, {35, 3}, {43, 3}, {51, 3}, {59, 3},
	{67, 4}, {83, 4}, {99, 4}, {115, 4}, {131, 5}, {163, 5}, {195, 5}, {227, 5}, {258, 0},
}

// distanceNames likewise.
var distanceNames = [][2]int{
	{1, 0}, {2, 0}, {3, 0}, {4, 0}, {5, 1}, {7, 1}, {9, 2}, {13, 2}, {17, 3}, {25, 3}, {33, 4}, {49, 4}, {65, 5}, {97, 5},
	{129, 6}, {193, 6}, {257, 7}, {385, 7}, {513, 8}, {769, 8}, {1025, 9}, {1537, 9}, {2049, 10}, {3073, 10},
	{4097, 11}, {6145, 11}, {8193, 12}, {12289, 12}, {16385, 13}, {24577, 13},
}

// TestP4FlateLengths tries all symbols of lengths with all their bits. (258 can be told in two ways.)
func TestP4FlateLengths(t *testing.T) {
	for i, name := range lengthNames {
		for more := range 1 << name[1] {
			rightFlate(t, fixedBlock(fixed('a')+fixed(257+i)+num(more, name[1])+fixedDistance(0)), same(1+name[0]+more))
		}
	}
}

// varied has many bytes, of which no three come twice near each other.
func varied(n int) string {
	out := make([]byte, n)
	rand.New(rand.NewSource(int64(n))).Read(out)
	return string(out)
}

// TestP4FlateDistances tries all symbols of distances, with the least and the greatest of their bits.
func TestP4FlateDistances(t *testing.T) {
	ahead := varied(32768 + 10)
	for i, name := range distanceNames {
		for _, more := range []int{0, 1<<name[1] - 1, 1 << name[1] / 2} {
			if more == 1<<name[1] {
				continue
			}
			distance := name[0] + more
			again := fixed(257) + fixedDistance(i) + num(more, name[1])
			from := ahead[len(ahead)-distance:]
			want := ahead + (from + from + from)[:3]
			rightFlate(t, storedBlock(moreStored, ahead)+fixedBlock(again), want)
			enough := ahead[:distance]
			rightFlate(t, storedBlock(moreStored, enough)+fixedBlock(again), enough+(enough + enough + enough)[:3])
			short := ahead[:distance-1]
			wrongFlate(t, storedBlock(moreStored, short)+fixedBlock(again), short+"\x00\x00\x00")
		}
	}
}

// TestP4FlateWindow: the head says how far back a distance may go.
func TestP4FlateWindow(t *testing.T) {
	heads := []string{"\x08\x1d", "\x18\x19", "\x28\x15", "\x38\x11", "\x48\x0d", "\x58\x09", "\x68\x05", "\x78\x01"}
	ahead := varied(40000)
	for w, head := range heads {
		farthest := 1 << (w + 8)
		for _, distance := range []int{1, farthest - 1, farthest, farthest + 1, 2 * farthest, 32768} {
			if distance > 32768 {
				continue
			}
			i := len(distanceNames) - 1
			for distanceNames[i][0] > distance {
				i--
			}
			again := fixed(257) + fixedDistance(i) + num(distance-distanceNames[i][0], distanceNames[i][1])
			from := ahead[len(ahead)-distance:]
			want, e := ahead+(from + from + from)[:3], api.OK
			data := head + packBits(storedBlock(moreStored, ahead)+fixedBlock(again)) + sumOf(want)
			if distance > farthest {
				want, e = "", api.ErrData
			}
			checkDecode(t, []decodeCase{{api.Flate, data, len(ahead) + 3, want, e}})
		}
	}
}

// TestP4FlateFirstError: of one symbol ErrData, of two the first one's error.
func TestP4FlateFirstError(t *testing.T) {
	near, far := fixed(257)+fixedDistance(0), fixed(257)+fixedDistance(1)
	// with hands on bits, of which the last byte is not whole, and no sum.
	with := func(bits string, most int, want api.Errno) {
		t.Helper()
		checkDecode(t, []decodeCase{{api.Flate, flateHead + packBits(lastFixed+bits), most, "", want}})
	}
	with(fixed('a')+fixed('b')+fixed(286), 1, api.ErrCap)
	with(fixed('a')+fixed('b')+fixed(286), 2, api.ErrData)
	with(fixed('a')+fixed(286), 1, api.ErrData)
	with(fixed('a')+fixed(286), 0, api.ErrCap)
	with(fixed('a')+near, 3, api.ErrCap)
	with(fixed('a')+near, 1, api.ErrCap)
	with(fixed('a')+near, 4, api.ErrData)
	with(fixed('a')+far, 1, api.ErrData)
	with(fixed('a')+far, 0, api.ErrCap)
	with(far, 0, api.ErrData)
	with(near, 0, api.ErrData)
	with(fixed('a')+near+far, 1, api.ErrCap)
	with(fixed('a')+fixed(257)+fixedDistance(30), 1, api.ErrData)
	with(fixed('a')+fixed(257)+fixedDistance(31), 3, api.ErrData)
	with(fixed('a')+fixed(286)+fixedDistance(0), 1, api.ErrData)
	with(fixed('a')+fixed(285)+fixedDistance(0), 258, api.ErrCap)
	with(fixed('a')+fixed(285)+fixedDistance(0), 259, api.ErrData)
	with(fixed(256), 0, api.ErrData)
	// The bits of a length or a distance are not all there.
	short := flateHead + packBits(lastFixed+fixed('a')+fixed(269)+"1")
	for _, most := range []int{1, 2, 9, 99} {
		checkDecode(t, []decodeCase{
			{api.Flate, short, most, "", api.ErrData},
			{api.Flate, short[:len(short)-1], most, "", api.ErrData},
		})
	}
}

func TestP4FlateOwnCodes(t *testing.T) {
	rightFlate(t, lastOwn+ownCodes(0)+ownA+ownA+ownEnd, "aa")
	rightFlate(t, lastOwn+ownCodes(1)+ownA+ownThree+"0"+ownEnd, "aaaa")
	rightFlate(t, lastOwn+ownCodes(1, 1)+ownA+ownThree+"0"+ownThree+"1"+ownEnd, "aaaaaaa")
	rightFlate(t, lastOwn+ownCodes(0, 1)+ownA+ownA+ownThree+"0"+ownEnd, "aaaaa")
	rightFlate(t, lastOwn+ownCodes(2, 1, 2)+ownA+ownThree+"10"+ownThree+"0"+ownThree+"11"+ownEnd, "aaaaaaaaaa")
	// Of one length the lesser symbol is first, and a shorter code is ahead of it.
	named := map[int]int{'a': 3, 'b': 2, 'c': 3, 'd': 3, 256: 3, 'e': 2}
	rightFlate(t, lastOwn+ownHead(0, 0)+lensOf(257, named)+lens(0)+"00"+"01"+"100"+"101"+"110"+"00"+"111", "beacdb")
	// The longest codes there are.
	long := map[int]int{256: 15, 255: 15}
	for length := range 14 {
		long['a'+length] = length + 1
	}
	ones := strings.Repeat("1", 14)
	rightFlate(t, lastOwn+ownHead(0, 0)+lensOf(257, long)+lens(0)+"0"+ones[:13]+"0"+"10"+ones+"0"+ones+"1", "anb\xff")
}

func TestP4FlateOwnCodesWrong(t *testing.T) {
	body := ownA + ownEnd
	for name, bits := range map[string]string{
		"distances: one of two bits":          lastOwn + ownCodes(2) + body,
		"distances: one of 15 bits":           lastOwn + ownCodes(0, 15) + body,
		"distances: two, not filled":          lastOwn + ownCodes(1, 2) + body,
		"distances: two of two bits":          lastOwn + ownCodes(2, 2) + body,
		"distances: three of one bit":         lastOwn + ownCodes(1, 1, 1) + body,
		"distances: too many by little":       lastOwn + ownCodes(1, 1, 15) + body,
		"no end":                              lastOwn + ownHead(0, 0) + lensOf(257, map[int]int{'a': 1, 'b': 1}) + lens(0) + "0",
		"no end, none at all":                 lastOwn + ownHead(0, 0) + lensOf(257, nil) + lens(0) + "0",
		"the end alone":                       lastOwn + ownHead(0, 0) + lensOf(257, map[int]int{256: 1}) + lens(0) + "0",
		"the end alone, of two bits":          lastOwn + ownHead(0, 0) + lensOf(257, map[int]int{256: 2}) + lens(0) + "00",
		"symbols not filled":                  lastOwn + ownHead(0, 0) + lensOf(257, map[int]int{'a': 1, 256: 2}) + lens(0) + body,
		"symbols too many":                    lastOwn + ownHead(0, 0) + lensOf(257, map[int]int{'a': 1, 'b': 2, 'c': 15, 256: 2}) + lens(0) + body,
		"symbols far too many":                lastOwn + ownHead(0, 0) + lens(make1s(257)...) + lens(0) + body,
		"a length where no distance is":       lastOwn + ownCodes(0) + ownA + ownThree + "0" + ownEnd,
		"a length where none is, more bits":   lastOwn + ownCodes(0, 0) + ownA + ownThree + strings.Repeat("0", 40) + ownEnd,
		"one distance's other code":           lastOwn + ownCodes(1) + ownA + ownThree + "1" + ownEnd,
		"one distance's other code, more":     lastOwn + ownCodes(1) + ownA + ownThree + "1" + strings.Repeat("0", 40),
		"287 symbols":                         lastOwn + ownHead(30, 0) + lensOf(287, map[int]int{'a': 1, 256: 1}) + lens(0) + "01",
		"288 symbols":                         lastOwn + ownHead(31, 0) + lensOf(288, map[int]int{'a': 1, 256: 1}) + lens(0) + "01",
		"31 distances":                        lastOwn + ownHead(0, 30) + lensOf(257, map[int]int{'a': 1, 256: 1}) + lensOf(31, nil) + "01",
		"32 distances":                        lastOwn + ownHead(0, 31) + lensOf(257, map[int]int{'a': 1, 256: 1}) + lensOf(32, nil) + "01",
		"a distance too far":                  lastOwn + ownCodes(0, 1) + ownA + ownThree + "0" + ownEnd,
		"the first length as the one ahead":   lastOwn + ownHead(0, 0) + lensAgain(3) + lensOf(254, map[int]int{'a': 1, 253: 1}) + lens(0) + "01",
		"lengths beyond the end by 16":        lastOwn + ownHead(0, 0) + lensOf(256, map[int]int{'a': 1}) + lens(1) + lensAgain(3),
		"lengths beyond the end by 17":        lastOwn + ownHead(0, 0) + lensOf(256, map[int]int{'a': 1}) + lens(1) + lensZero(3) + "01",
		"lengths beyond the end by 18":        lastOwn + ownHead(0, 0) + lensOf(256, map[int]int{'a': 1}) + lens(1) + lensZero(11) + "01",
		"lengths beyond the end by one alone": lastOwn + ownHead(0, 2) + lensOf(256, map[int]int{'a': 1}) + lens(1, 0) + lensZero(3) + "01",
	} {
		t.Run(name, func(t *testing.T) { wrongFlate(t, bits, "a") })
	}
}

func make1s(n int) []int {
	out := make([]int, n)
	for i := range out {
		out[i] = 1
	}
	return out
}

// TestP4FlateMostCodes: 286 symbols and 30 distances may be.
func TestP4FlateMostCodes(t *testing.T) {
	head := lastOwn + ownHead(29, 29) + lensOf(286, map[int]int{'a': 1, 256: 2, 285: 2}) + lensOf(30, map[int]int{0: 1, 29: 1})
	rightFlate(t, head+ownA+"11"+"0"+ownEnd, same(259))
	wrongFlate(t, head+ownA+"11"+"1"+num(0, 13)+ownEnd, same(259))
	ahead := varied(24577)
	rightFlate(t, storedBlock(moreStored, ahead)+head+"11"+"1"+num(0, 13)+ownEnd, ahead+ahead[:258])
}

// TestP4FlateRepeatedLengths: lengths that are told as the one ahead, or as 0s, count as if each were told.
func TestP4FlateRepeatedLengths(t *testing.T) {
	head := lastOwn + ownHead(0, 0)
	for ahead := 3; ahead <= 10; ahead++ {
		rightFlate(t, head+lensZero(ahead)+lens(1)+lensZero(138)+lensZero(256-ahead-1-138)+lens(1, 0)+"0"+"1", string([]byte{byte(ahead)}))
	}
	for ahead := 11; ahead <= 138; ahead++ {
		rightFlate(t, head+lensZero(ahead)+lens(1)+lensOf(256-ahead-1, nil)+lens(1, 0)+"0"+"1", string([]byte{byte(ahead)}))
	}
	// 16 behind a length, 3 to 6 times: of 3 bits, and as many 0s as there must be, up to the end's one code.
	for times := 3; times <= 6; times++ {
		rest := lens(make3s(7 - 1 - times)...)
		rightFlate(t, head+lens(3)+lensAgain(times)+rest+lensOf(256-7, nil)+lens(3, 0)+"000"+"110"+"111", "\x00\x06")
	}
	// 16 behind 17, behind 18, and behind 16.
	rightFlate(t, head+lensZero(3)+lensAgain(3)+lens(1)+lensOf(249, nil)+lens(1, 0)+"0"+"1", "\x06")
	rightFlate(t, head+lensZero(11)+lensAgain(6)+lens(1)+lensOf(238, nil)+lens(1, 0)+"0"+"1", "\x11")
	rightFlate(t, head+lens(3)+lensAgain(3)+lensAgain(3)+lensOf(249, nil)+lens(3, 0)+"110"+"111", "\x06")
	// From the symbols on into the distances.
	across := lastOwn + ownHead(0, 3) + lensOf(253, map[int]int{'a': 1}) + lens(0, 0, 3) + lens(3)
	wrongFlate(t, across+lensAgain(4)+"0"+"101", "a")
	into := lastOwn + ownHead(0, 3) + lensOf(253, nil) + lens(2) + lensAgain(6) + lens(2)
	rightFlate(t, into+"00"+"11", "\xfd")
	zeros := lastOwn + ownHead(29, 29) + lensOf(256, map[int]int{'a': 1}) + lens(1) + lensZero(59)
	rightFlate(t, zeros+"0"+"1", "a")
}

func make3s(n int) []int {
	out := make([]int, n)
	for i := range out {
		out[i] = 3
	}
	return out
}

// codesForLengths tells the codes for lengths themselves, and as few of them as are named.
func codesForLengths(told int, named map[int]int) string {
	out := num(told-4, 4)
	for _, symbol := range orderOfLengths[:told] {
		out += num(named[symbol], 3)
	}
	return out
}

func TestP4FlateCodesForLengths(t *testing.T) {
	head := lastOwn + num(0, 5) + num(0, 5)
	// Only four are told: 16, 17, 18 and 0, so that no symbol gets a length.
	wrongFlate(t, head+codesForLengths(4, map[int]int{18: 1, 0: 1})+"1"+num(127, 7)+"1"+num(109, 7), "")
	// 5 are told: every second byte has a code of 8 bits.
	eights := codesForLengths(5, map[int]int{0: 1, 8: 1})
	lengths := strings.Repeat("1", 128) + strings.Repeat("1", 127) + "0" + "1" + "0"
	rightFlate(t, head+eights+lengths+high(7, 8)+high(254, 8)+high(255, 8), "\x07\xfe")
	// All 19 are told, 15 the last of them.
	fifteen := codesForLengths(19, map[int]int{0: 2, 1: 2, 15: 2, 18: 2})
	wrongFlate(t, head+fifteen+"11"+num(127, 7)+"11"+num(107, 7)+"01"+"01"+"00", "")
	rightFlate(t, head+fifteen+"11"+num(127, 7)+"11"+num(106, 7)+"01"+"01"+"00"+"0"+"1", "\xff")
	// The longest are of 7 bits.
	seven := codesForLengths(19, map[int]int{18: 1, 1: 2, 0: 3, 2: 4, 3: 5, 4: 6, 5: 7, 6: 7})
	rightFlate(t, head+seven+"0"+num(127, 7)+"0"+num(106, 7)+"10"+"10"+"110"+"0"+"1", "\xff")
	rightFlate(t, head+seven+"0"+num(127, 7)+"0"+num(101, 7)+"10"+"1110"+"11110"+"111110"+"1111110"+"1111111"+"1111111"+"110"+"0"+"111111", "\xfa")
	for name, codes := range map[string]string{
		"none":                 codesForLengths(19, nil),
		"none, four are told":  codesForLengths(4, nil),
		"one of one bit":       codesForLengths(19, map[int]int{1: 1}),
		"one of seven bits":    codesForLengths(19, map[int]int{1: 7}),
		"not filled":           codesForLengths(19, map[int]int{0: 2, 1: 2, 18: 2}),
		"not filled by little": codesForLengths(19, map[int]int{18: 1, 1: 2, 0: 3, 2: 4, 3: 5, 4: 6, 5: 7}),
		"too many by little":   codesForLengths(19, map[int]int{0: 1, 1: 1, 15: 7}),
		"too many":             codesForLengths(19, map[int]int{0: 1, 1: 1, 18: 1}),
	} {
		t.Run(name, func(t *testing.T) {
			for _, bit := range []string{"0", "1", "01", "10", "001"} {
				wrongFlate(t, head+codes+strings.Repeat(bit, 700), "")
			}
		})
	}
}

// TestP4FlateOthers unpacks what Go's library has packed, block by block, and hands it on with as little room as may be.
func TestP4FlateOthers(t *testing.T) {
	r := rand.New(rand.NewSource(4))
	for range 60 {
		plain := randomBytes(r, 5000)
		for level := zlib.HuffmanOnly; level <= zlib.BestCompression; level++ {
			var packed bytes.Buffer
			w, _ := zlib.NewWriterLevel(&packed, level)
			for rest := plain; len(rest) > 0; {
				n := 1 + r.Intn(len(rest))
				w.Write(rest[:n])
				w.Flush()
				rest = rest[n:]
			}
			w.Close()
			checkMost(t, api.Flate, packed.String(), string(plain))
		}
	}
}

func TestP4FlateMostBytes(t *testing.T) {
	// 258 bytes by 13 bits, up to MaxCap and one more.
	times, rest := (api.MaxCap-1)/258, (api.MaxCap-1)%258
	bits := fixed('a') + strings.Repeat(fixed(285)+fixedDistance(0), times)
	rightMost := fixedBlock(bits + fixedText(same(rest)))
	checkMost(t, api.Flate, flate(rightMost, same(api.MaxCap)), same(api.MaxCap))
	checkDecode(t, []decodeCase{
		{api.Flate, flate(fixedBlock(bits+fixedText(same(rest+1))), same(api.MaxCap+1)), api.MaxCap, "", api.ErrCap},
	})
	// As many bytes go in as may, in blocks of which nothing comes.
	blocks := strings.Repeat("\x00\x00\x00\xff\xff", (api.MaxFile-8)/5)
	empty := flateHead + blocks + packBits(fixedBlock("")) + sumOf("")
	checkMost(t, api.Flate, empty, "")
	checkDecode(t, []decodeCase{
		{api.Flate, flateHead + strings.Repeat("\x00", api.MaxFile-2), api.MaxCap, "", api.ErrData},
		{api.Flate, flateHead + packBits(strings.Repeat(moreFixed+fixed(256), (api.MaxFile-2)*8/10)), api.MaxCap, "", api.ErrData},
		{api.Flate, flateHead + packBits(strings.Repeat(moreOwn+ownCodes(0)+ownEnd, 1200)), api.MaxCap, "", api.ErrData},
	})
}
