package folio_test

import (
	"maps"
	"math/rand"
	"slices"
	"strings"
	"testing"

	"folio/api"
	"folio/folio"
)

// slow reads what filter 4 has packed once more, by the document's words: bits and codes are texts, and codes are looked up whole.
type slow struct {
	data   string
	at     int // in bits
	out    []byte
	most   int
	window int
}

type slowError api.Errno

func slowMust(right bool) {
	if !right {
		panic(slowError(api.ErrData))
	}
}

func (s *slow) bit() string {
	slowMust(s.at < 8*len(s.data))
	b := s.data[s.at/8] >> (s.at % 8) & 1
	s.at++
	return "01"[b : b+1]
}

func (s *slow) number(n int) int {
	value := 0
	for i := range n {
		if s.bit() == "1" {
			value += 1 << i
		}
	}
	return value
}

func (s *slow) wholeByte() { s.at = (s.at + 7) / 8 * 8 }

func (s *slow) symbol(codes map[string]int) int {
	code := ""
	for len(code) < 15 {
		code += s.bit()
		if symbol, ok := codes[code]; ok {
			return symbol
		}
	}
	panic(slowError(api.ErrData))
}

func (s *slow) put(out string) {
	if len(s.out)+len(out) > s.most {
		panic(slowError(api.ErrCap))
	}
	s.out = append(s.out, out...)
}

// slowCodes are the codes of lengths; it is wrong if they don't fill, unless they are few and may be.
func slowCodes(lengths []int, fewMayBe bool) map[string]int {
	var symbols []int
	for symbol, length := range lengths {
		if length > 0 {
			symbols = append(symbols, symbol)
		}
	}
	slices.SortStableFunc(symbols, func(a, b int) int { return lengths[a] - lengths[b] })
	codes := make(map[string]int)
	if fewMayBe && len(symbols) == 0 {
		return codes
	}
	if fewMayBe && len(symbols) == 1 && lengths[symbols[0]] == 1 {
		codes["0"] = symbols[0]
		return codes
	}
	slowMust(len(symbols) > 0)
	greatest, taken := lengths[symbols[len(symbols)-1]], 0
	for _, symbol := range symbols {
		taken += 1 << (greatest - lengths[symbol])
	}
	slowMust(taken == 1<<greatest)
	code := ""
	for i, symbol := range symbols {
		if i > 0 {
			code = nextCode(code)
		}
		code += strings.Repeat("0", lengths[symbol]-len(code))
		codes[code] = symbol
	}
	return codes
}

// nextCode is the next binary number of as many digits.
func nextCode(code string) string {
	zero := strings.LastIndex(code, "0")
	return code[:zero] + "1" + strings.Repeat("0", len(code)-zero-1)
}

func slowFixed() (symbols, distances map[string]int) {
	var lengths []int
	for _, group := range [][2]int{{144, 8}, {256, 9}, {280, 7}, {288, 8}} {
		for len(lengths) < group[0] {
			lengths = append(lengths, group[1])
		}
	}
	return slowCodes(lengths, false), slowCodes(slices.Repeat([]int{5}, 32), true)
}

func (s *slow) own() (symbols, distances map[string]int) {
	a := s.number(5)
	b := s.number(5)
	c := s.number(4)
	slowMust(a <= 29 && b <= 29)
	first := make([]int, 19)
	for _, symbol := range orderOfLengths[:c+4] {
		first[symbol] = s.number(3)
	}
	codes := slowCodes(first, false)
	var lengths []int
	for len(lengths) < 258+a+b {
		switch symbol := s.symbol(codes); symbol {
		case 16:
			slowMust(len(lengths) > 0)
			lengths = append(lengths, slices.Repeat(lengths[len(lengths)-1:], 3+s.number(2))...)
		case 17:
			lengths = append(lengths, make([]int, 3+s.number(3))...)
		case 18:
			lengths = append(lengths, make([]int, 11+s.number(7))...)
		default:
			lengths = append(lengths, symbol)
		}
	}
	slowMust(len(lengths) == 258+a+b)
	slowMust(lengths[256] != 0)
	return slowCodes(lengths[:257+a], false), slowCodes(lengths[257+a:], true)
}

func (s *slow) symbols(symbols, distances map[string]int) {
	for {
		symbol := s.symbol(symbols)
		if symbol == 256 {
			return
		}
		if symbol < 256 {
			s.put(string([]byte{byte(symbol)}))
			continue
		}
		slowMust(symbol < 286)
		length := lengthNames[symbol-257][0] + s.number(lengthNames[symbol-257][1])
		symbol = s.symbol(distances)
		slowMust(symbol < 30)
		distance := distanceNames[symbol][0] + s.number(distanceNames[symbol][1])
		slowMust(distance <= len(s.out) && distance <= s.window)
		from := string(s.out[len(s.out)-distance:])
		s.put(strings.Repeat(from, length/distance+1)[:length])
	}
}

func (s *slow) blocks() {
	for last := false; !last; {
		last = s.bit() == "1"
		switch s.number(2) {
		case 0:
			s.wholeByte()
			n := s.number(16)
			slowMust(s.number(16) == 65535-n)
			slowMust(len(s.data)-s.at/8 >= n)
			s.put(s.data[s.at/8 : s.at/8+n])
			s.at += 8 * n
		case 1:
			s.symbols(slowFixed())
		case 2:
			s.symbols(s.own())
		case 3:
			slowMust(false)
		}
	}
	s.wholeByte()
}

func (s *slow) head() {
	first, second := s.number(8), s.number(8)
	slowMust(first%16 == 8 && first/16 < 8 && (256*first+second)%31 == 0 && second/32%2 == 0)
	s.window = 256 << (first / 16)
}

func slowly(read func()) (e api.Errno) {
	defer func() {
		if caught := recover(); caught != nil {
			e = api.Errno(caught.(slowError))
		}
	}()
	read()
	return api.OK
}

func flateReference(data string, most int) (string, api.Errno) {
	s := &slow{data: data, most: most}
	e := slowly(func() {
		s.head()
		s.blocks()
		slowMust(s.data[s.at/8:] == sumOf(string(s.out)))
	})
	if e != api.OK {
		return "", e
	}
	return string(s.out), api.OK
}

// mended has the right sum behind its blocks, if they can be read, so that more than the sum decides.
func mended(data string) string {
	s := &slow{data: data, most: api.MaxCap}
	e := slowly(func() {
		s.head()
		s.blocks()
	})
	if e != api.OK {
		return data
	}
	return data[:s.at/8] + sumOf(string(s.out))
}

// randomLengths fill the codes of n symbols, of which those that must be are some: codes are split until there are enough.
func randomLengths(r *rand.Rand, n, longest int, must []int) []int {
	codes := []int{0}
	for want := 2 + r.Intn(min(n, 40)-1); len(codes) < max(want, len(must)); {
		i := r.Intn(len(codes))
		if codes[i] == longest {
			continue
		}
		codes[i]++
		codes = append(codes, codes[i])
	}
	order := slices.Clone(must)
	for _, symbol := range r.Perm(n) {
		if !slices.Contains(must, symbol) {
			order = append(order, symbol)
		}
	}
	lengths := make([]int, n)
	for i, length := range codes {
		lengths[order[i]] = length
	}
	return lengths
}

// byCode turns codes round, for writing.
func byCode(codes map[string]int) map[int]string {
	out := make(map[int]string)
	for code, symbol := range codes {
		out[symbol] = code
	}
	return out
}

// randomOwn writes a block's own codes, with repeats where they can be, and answers them too.
func randomOwn(r *rand.Rand) (string, map[string]int, map[string]int) {
	a, b := r.Intn(30), r.Intn(30)
	symbols := randomLengths(r, 257+a, 15, []int{256})
	distances := make([]int, 1+b)
	switch {
	case r.Intn(4) == 0:
	case b == 0 || r.Intn(4) == 0:
		distances[r.Intn(1+b)] = 1
	default:
		distances = randomLengths(r, 1+b, 15, nil)
	}
	first := randomLengths(r, 19, 7, r.Perm(19)[:19])
	var bits strings.Builder
	bits.WriteString(num(a, 5) + num(b, 5) + num(15, 4))
	for _, symbol := range orderOfLengths {
		bits.WriteString(num(first[symbol], 3))
	}
	writeLengths(r, &bits, byCode(slowCodes(first, false)), slices.Concat(symbols, distances))
	return bits.String(), slowCodes(symbols, false), slowCodes(distances, true)
}

func writeLengths(r *rand.Rand, bits *strings.Builder, codes map[int]string, lengths []int) {
	for at := 0; at < len(lengths); {
		run := 1
		for at+run < len(lengths) && lengths[at+run] == lengths[at] {
			run++
		}
		zero, ahead := lengths[at] == 0, at > 0 && lengths[at-1] == lengths[at]
		switch way := r.Intn(4); {
		case way == 0 && ahead && run >= 3:
			run = min(run, 3+r.Intn(4))
			bits.WriteString(codes[16] + num(run-3, 2))
		case way == 1 && zero && run >= 3:
			run = min(run, 3+r.Intn(8))
			bits.WriteString(codes[17] + num(run-3, 3))
		case way >= 2 && zero && run >= 11:
			run = min(run, 11+r.Intn(128))
			bits.WriteString(codes[18] + num(run-11, 7))
		default:
			run = 1
			bits.WriteString(codes[lengths[at]])
		}
		at += run
	}
}

// anyOf picks a symbol; sorted, so that the same source picks the same.
func anyOf(r *rand.Rand, codes map[int]string) int {
	symbols := slices.Sorted(maps.Keys(codes))
	return symbols[r.Intn(len(symbols))]
}

// randomSymbols writes any symbols that the codes have, right or not, and the end.
func randomSymbols(r *rand.Rand, symbols, distances map[string]int) string {
	known, far := byCode(symbols), byCode(distances)
	var bits strings.Builder
	for range r.Intn(20) {
		symbol := anyOf(r, known)
		if symbol == 256 || symbol > 256 && len(far) == 0 && r.Intn(20) > 0 {
			continue
		}
		bits.WriteString(known[symbol])
		if symbol < 257 || symbol > 285 || len(far) == 0 {
			continue
		}
		bits.WriteString(num(r.Intn(32), lengthNames[symbol-257][1]))
		distance := anyOf(r, far)
		bits.WriteString(far[distance])
		if distance < 30 {
			bits.WriteString(num(r.Intn(8)*r.Intn(2), distanceNames[distance][1]))
		}
	}
	return bits.String() + known[256]
}

func randomFlate(r *rand.Rand) string {
	bits := ""
	for blocks := 1 + r.Intn(4); blocks > 0; blocks-- {
		head := "0"
		if blocks == 1 {
			head = "1"
		}
		switch r.Intn(5) {
		case 0:
			bits += head + "00"
			bits += num(r.Intn(256), (8-len(bits)%8)%8)
			bits += storedBytes(string(randomBytes(r, 400)))
		case 1:
			symbols, distances := slowFixed()
			bits += head + "10" + randomSymbols(r, symbols, distances)
		default:
			own, symbols, distances := randomOwn(r)
			bits += head + "01" + own + randomSymbols(r, symbols, distances)
		}
	}
	heads := []string{flateHead, flateHead, "\x08\x1d", "\x18\x19", "\x28\x15"}
	return heads[r.Intn(len(heads))] + packBits(bits) + "sum."
}

// spoiled changes a bit or more, or leaves out or doubles some bytes.
func spoiled(r *rand.Rand, data string) string {
	out := []byte(data)
	place := r.Intn(len(out))
	switch r.Intn(4) {
	case 0:
		out = slices.Delete(out, place, min(len(out), place+1+r.Intn(2)))
	case 1:
		out = slices.Insert(out, place, byte(r.Intn(256)))
	default:
		out[place] ^= 1 << r.Intn(8)
	}
	return string(out)
}

func checkFlate(t *testing.T, data string, most int) api.Errno {
	t.Helper()
	want, wrong := flateReference(data, most)
	got, e := folio.Decode(api.Flate, []byte(data), most)
	if string(got) != want || e != wrong {
		t.Fatalf("Decode(4, %q, %d) = %q, %d, want %q, %d", data, most, got, e, want, wrong)
	}
	return e
}

// TestP4FlateReference holds Decode against the reference at blocks of all sorts, right and spoiled, and with all sorts of room.
func TestP4FlateReference(t *testing.T) {
	r := rand.New(rand.NewSource(44))
	seen := make(map[api.Errno]int)
	for range 1500 {
		data := mended(randomFlate(r))
		want, _ := flateReference(data, api.MaxCap)
		for _, most := range []int{api.MaxCap, len(want), max(0, len(want)-1), r.Intn(len(want) + 1)} {
			seen[checkFlate(t, data, most)]++
		}
		for range 4 {
			wrong := spoiled(r, data)
			seen[checkFlate(t, mended(wrong), api.MaxCap)]++
			seen[checkFlate(t, wrong, r.Intn(len(want)+9))]++
		}
	}
	for _, e := range []api.Errno{api.OK, api.ErrData, api.ErrCap} {
		if seen[e] < 500 {
			t.Errorf("the error %d came only %d times", e, seen[e])
		}
	}
}

// FuzzFlate holds Decode by filter 4 against the reference at whatever comes.
func FuzzFlate(f *testing.F) {
	r := rand.New(rand.NewSource(45))
	for range 30 {
		f.Add(mended(randomFlate(r)), r.Intn(300))
	}
	f.Fuzz(func(t *testing.T, data string, most int) {
		if most < 0 || most > api.MaxCap || len(data) > 2000 {
			return
		}
		checkFlate(t, data, most)
		checkFlate(t, mended(data), most)
	})
}
