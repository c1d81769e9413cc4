package digest_test

import (
	"hash/fnv"
	"strings"
	"testing"

	"spence/digest"
)

// known are texts, and their mark's digits.
type known struct {
	name  string
	texts []string
	mark  string
}

func knowns() []known {
	return []known{
		{"no texts", nil, "cbf29ce484222325cbf29ce484222326cbf29ce484222327cbf29ce484222328"},
		{"an empty one", []string{""}, "af63bd4c8601b7dfaf63be4c8601b992af63bf4c8601bb45af63c04c8601bcf8"},
		{"two empty ones", []string{"", ""}, "08328807b4eb6fed0835ee07b4ee531608395407b4f1363f083cba07b4f41968"},
		{"a", []string{"a"}, "082f4307b4e8c4d708393307b4f0fe2c08364f07b4eef7e908403f07b4f7313e"},
		{"abc", []string{"abc"}, "34186a89cedc1e562ed9327efb844ff1ca907677e91e9e044383ceb374d0bd2f"},
		{"a, bc", []string{"a", "bc"}, "64bdf4c1b9df789c7082b61b0d03da41a053852c56515d3e643fe685800b5d33"},
		{"ab, c", []string{"ab", "c"}, "854fc61ba9b05d5650d7bcc11df6dfab1eed4fc56171dc5815a9fdad08046a35"},
		{"the byte 0", []string{"\x00"}, "082f2207b4e88cc408395407b4f1363f0835ee07b4ee531608402007b4f6fc91"},
		{"the byte 255", []string{"\xff"}, "082fc907b4e9a8890839c907b4f1fd0e0835c907b4ee1437083fc907b4f668bc"},
		{"127 bytes", []string{long(127)}, "d58ec1f41187b3221eff4cbb085f35218edac98417359f20c2205862a54ff12f"},
		{"128 bytes", []string{long(128)}, "9d4ac074a97862ba4a9729308fd76b49057312f75ffa010c33d345eae93d059b"},
		{"16,383 bytes", []string{long(16383)}, "88799006d323eb69c35f7b4ec6f6e9bc37a51d414589e80f2f215545416ae652"},
		{"16,384 bytes", []string{long(16384)}, "438e2cd8facc18045534a89e642d1a152687ac4cd25cec5a87bfd8e603f3176b"},
		{"every byte", []string{everyByte()}, "0b12e1ac8026c107b893036abf951230d8f0ae8911afe12592ff8425d5c45d4e"},
	}
}

// P19.1: Of

func TestOfKnownTexts(t *testing.T) {
	for _, k := range knowns() {
		if s := digest.Text(digest.Of(k.texts...)); s != k.mark {
			t.Errorf("%s: %s, not %s", k.name, s, k.mark)
		}
	}
}

func TestOfNoTextsBeginsWithTheFirstNumber(t *testing.T) {
	const first = "\xcb\xf2\x9c\xe4\x84\x22\x23"
	want := first + "\x25" + first + "\x26" + first + "\x27" + first + "\x28"
	wantMark(t, "no texts", digest.Of(), want)
	wantMark(t, "nil", digest.Of([]string(nil)...), want)
	wantMark(t, "a list without elements", digest.Of([]string{}...), want)
}

// lengths are those around which a length's bytes are more.
func lengths() []int {
	return []int{0, 1, 2, 126, 127, 128, 129, 255, 256, 16382, 16383, 16384, 16385, 65536}
}

func TestOfTextsOfEachLength(t *testing.T) {
	for _, n := range lengths() {
		d := drawn(n + 1)
		s := d.text(n)
		wantMark(t, "one", digest.Of(s), plainMark(s))
		wantMark(t, "behind another", digest.Of("k", s), plainMark("k", s))
		wantMark(t, "ahead of another", digest.Of(s, "v"), plainMark(s, "v"))
		wantMark(t, "of one byte", digest.Of(long(n)), plainMark(long(n)))
	}
}

func TestOfAGreatText(t *testing.T) {
	for _, n := range []int{2097151, 2097152} {
		s := long(n)
		h := fnv.New64a()
		h.Write(plainLength(n))
		h.Write([]byte(s))
		wantMark(t, "the first number", digest.Of(s)[:8], string(h.Sum(nil)))
	}
}

func TestOfTextsWithEachByte(t *testing.T) {
	all := everyByte()
	wantMark(t, "all", digest.Of(all), plainMark(all))
	for i := range all {
		wantMark(t, "one", digest.Of(all[i:i+1]), plainMark(all[i:i+1]))
		wantMark(t, "up to it", digest.Of(all[:i]), plainMark(all[:i]))
		wantMark(t, "from it", digest.Of(all[i:], all[:i]), plainMark(all[i:], all[:i]))
	}
}

func TestOfManyTexts(t *testing.T) {
	l := strings.Split(long(300), "")
	wantMark(t, "300 of one byte", digest.Of(l...), plainMark(l...))
	wantMark(t, "1,000 empty ones", digest.Of(make([]string, 1000)...), plainMark(make([]string, 1000)...))
}

// The first number is a well-known sum of the blobs' bytes.
func TestOfIsAKnownSum(t *testing.T) {
	for _, k := range knowns() {
		h := fnv.New64a()
		for _, s := range k.texts {
			h.Write(plainLength(len(s)))
			h.Write([]byte(s))
		}
		wantMark(t, k.name, digest.Of(k.texts...)[:8], string(h.Sum(nil)))
	}
}

// cuts are all ways to cut a text into texts that aren't empty.
func cuts(s string) [][]string {
	if s == "" {
		return [][]string{nil}
	}
	var all [][]string
	for n := 1; n <= len(s); n++ {
		for _, rest := range cuts(s[n:]) {
			all = append(all, append([]string{s[:n]}, rest...))
		}
	}
	return all
}

func TestTextsThatAreCutElsewhere(t *testing.T) {
	wantUnlike(t, [][]string{{"a", "bc"}, {"ab", "c"}, {"abc"}, {"a", "b", "c"}})
	for _, s := range []string{"abcdefgh", "aaaaaaaa", "\x00\x00\x00\x00\x00\x00", "\x01a\x01a\x01a\x01a", "\x02\x01\x00\x02\x01\x00"} {
		wantUnlike(t, cuts(s))
	}
	s := long(16385)
	wantUnlike(t, [][]string{{s}, {s[:1], s[1:]}, {s[:127], s[127:]}, {s[:128], s[128:]}, {s[:16257], s[16257:]}, {s[:16258], s[16258:]}, {s[:16384], s[16384:]}})
}

// A text that is a blob's bytes isn't the blob.
func TestTextsThatLookLikeBlobs(t *testing.T) {
	wantUnlike(t, [][]string{{"a", "b"}, {"a\x01b"}, {"\x01a\x01b"}, {"\x01a", "\x01b"}, {"\x01a", "b"}, {"a", "\x01b"}, {"\x01a\x01", "b"}})
	wantUnlike(t, [][]string{{"", ""}, {"\x00"}, {"\x00", ""}, {"", "\x00"}, {"\x00\x00"}, {"\x01\x00"}, {"\x00\x01"}})
}

func TestEmptyTextsAmongOthers(t *testing.T) {
	wantUnlike(t, [][]string{
		nil, {""}, {"", ""}, {"", "", ""},
		{"abc"}, {"", "abc"}, {"abc", ""}, {"", "abc", ""}, {"", "", "abc"}, {"abc", "", ""},
		{"a", "bc"}, {"", "a", "bc"}, {"a", "", "bc"}, {"a", "bc", ""}, {"a", "", "", "bc"}, {"", "a", "", "bc", ""},
		{"ab", "c"}, {"", "ab", "c"}, {"ab", "", "c"}, {"ab", "c", ""},
	})
}

func TestTextsInAnotherOrder(t *testing.T) {
	wantUnlike(t, [][]string{{"a", "b", "c"}, {"a", "c", "b"}, {"b", "a", "c"}, {"b", "c", "a"}, {"c", "a", "b"}, {"c", "b", "a"}, {"a", "b"}, {"b", "a"}, {"ab"}, {"ba"}})
}

// P19.1: makers

func TestNewIsAMakerEachTime(t *testing.T) {
	a, b := digest.New(), digest.New()
	if a == nil || b == nil {
		t.Fatal("New is nil")
	}
	if a == b {
		t.Error("New told the same maker twice")
	}
}

func TestAMakerOfNoTexts(t *testing.T) {
	for _, m := range makers() {
		wantMark(t, m.name, m.make().Mark(), plainMark())
		x := m.make()
		x.Add()
		x.Add([]string{}...)
		x.Add([]string(nil)...)
		wantMark(t, m.name+", of none added", x.Mark(), plainMark())
		x.Add("")
		wantMark(t, m.name+", of an empty one added", x.Mark(), plainMark(""))
	}
	var m digest.Maker
	wantMark(t, "a zero value", m.Mark(), plainMark())
	m.Add("a")
	wantMark(t, "a zero value with a text", m.Mark(), plainMark("a"))
}

func TestAddInOneCallAndInSeveral(t *testing.T) {
	texts := []string{"a", "", "bc", "\x00", long(128), "", everyByte(), "a"}
	want := digest.Of(texts...)
	wantMark(t, "Of", want, plainMark(texts...))
	for _, m := range makers() {
		for cut := range len(texts) + 1 {
			for second := cut; second <= len(texts); second++ {
				x := m.make()
				x.Add(texts[:cut]...)
				x.Add(texts[cut:second]...)
				x.Add(texts[second:]...)
				wantMark(t, m.name, x.Mark(), want)
			}
		}
		x := m.make()
		for i, s := range texts {
			x.Add(s)
			wantMark(t, m.name, x.Mark(), digest.Of(texts[:i+1]...))
		}
	}
}

// A text that comes in two calls is two texts.
func TestAddOfPiecesIsNotAddOfTheWhole(t *testing.T) {
	for _, m := range makers() {
		x, y := m.make(), m.make()
		x.Add("ab")
		x.Add("c")
		y.Add("abc")
		wantMark(t, m.name, x.Mark(), plainMark("ab", "c"))
		wantMark(t, m.name, y.Mark(), plainMark("abc"))
		if x.Mark() == y.Mark() {
			t.Errorf("%s: pieces and the whole have the same mark", m.name)
		}
	}
}

func TestMarkInBetweenAndMoreThanOnce(t *testing.T) {
	for _, m := range makers() {
		x := m.make()
		var had []string
		for _, s := range []string{"", "a", "bc", "", long(127), "\xff"} {
			for range 3 {
				wantMark(t, m.name, x.Mark(), plainMark(had...))
			}
			x.Add(s)
			had = append(had, s)
		}
		for range 3 {
			wantMark(t, m.name, x.Mark(), plainMark(had...))
		}
	}
}

func TestANilMaker(t *testing.T) {
	var m *digest.Maker
	for range 3 {
		if s := m.Mark(); s != "" {
			t.Errorf("a mark of nil: %x", s)
		}
		m.Add()
		m.Add("")
		m.Add("a", "", long(16384))
		m.Add([]string(nil)...)
	}
	wantMark(t, "a new one beside", digest.New().Mark(), plainMark())
	wantMark(t, "Of beside", digest.Of("a"), plainMark("a"))
}

func TestTwoMakersDoNotTouchOneAnother(t *testing.T) {
	for _, m := range makers() {
		for _, n := range makers() {
			x, y := m.make(), n.make()
			x.Add("a", "bc")
			wantMark(t, m.name+", "+n.name, y.Mark(), plainMark())
			y.Add("ab")
			wantMark(t, m.name+", "+n.name, x.Mark(), plainMark("a", "bc"))
			digest.Of("d", "e")
			x.Add("")
			y.Add("c")
			wantMark(t, m.name+", "+n.name, x.Mark(), plainMark("a", "bc", ""))
			wantMark(t, m.name+", "+n.name, y.Mark(), plainMark("ab", "c"))
		}
	}
	wantMark(t, "a new one behind them", digest.New().Mark(), plainMark())
}

// R4: what is handed in is neither changed nor kept, and nothing behind a list's length is read or written.
func TestListsAreNeitherChangedNorKept(t *testing.T) {
	for _, m := range makers() {
		memory := []string{"a", "bc", "behind"}
		x := m.make()
		x.Add(memory[:2]...)
		wantMark(t, m.name, digest.Of(memory[:2]...), plainMark("a", "bc"))
		if memory[0] != "a" || memory[1] != "bc" || memory[2] != "behind" {
			t.Fatalf("%s: the list is %q", m.name, memory)
		}
		memory[0], memory[1], memory[2] = "x", "y", "z"
		wantMark(t, m.name, x.Mark(), plainMark("a", "bc"))
		x.Add(memory[1:2]...)
		wantMark(t, m.name, x.Mark(), plainMark("a", "bc", "y"))
	}
}

// R8: the same questions have the same answer.
func TestOfIsTheSameEachTime(t *testing.T) {
	for _, k := range knowns() {
		want := digest.Of(k.texts...)
		for range 3 {
			wantMark(t, k.name, digest.Of(k.texts...), want)
		}
	}
}
