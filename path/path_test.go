package path_test

import (
	"math/rand"
	"slices"
	"strings"
	"testing"

	"treering/api"
	"treering/path"
)

// a second way: P11.1 read byte by byte, with the numbers that it means.

// plainName counts how many bytes of s a name may have, and how many of them are dots.
func plainName(s string) bool {
	fit, dots := 0, 0
	for i := 0; i < len(s); i++ {
		if s[i] > ' ' && s[i] < 0x7f && s[i] != 0x2f {
			fit++
		}
		if s[i] == 0x2e {
			dots++
		}
	}
	onlyDots := dots == len(s) && len(s) < 3
	return fit == len(s) && fit > 0 && fit < 17 && !onlyDots
}

// plainSplit goes through s with the part that is being read, and looks at it where it ends.
func plainSplit(s string) ([]string, bool) {
	if s == "/" {
		return nil, true
	}
	if len(s) > 64 || s == "" || s[0] != '/' {
		return nil, false
	}
	var parts []string
	part := []byte{}
	for i := 1; i <= len(s); i++ {
		if i < len(s) && s[i] != '/' {
			part = append(part, s[i])
			continue
		}
		if !plainName(string(part)) {
			return nil, false
		}
		parts, part = append(parts, string(part)), part[:0]
	}
	return parts, len(parts) < 9
}

// plainUnder compares texts: b with a slash behind must stand ahead of a.
func plainUnder(a, b string) bool {
	_, isA := plainSplit(a)
	_, isB := plainSplit(b)
	if b != "/" {
		b += "/"
	}
	return isA && isB && len(a) > len(b) && a[:len(b)] == b
}

func checkName(t *testing.T, s string) {
	t.Helper()
	if got, want := path.Name(s), plainName(s); got != want {
		t.Fatalf("Name(%q) = %v, want %v", s, got, want)
	}
}

func checkSplit(t *testing.T, s string) {
	t.Helper()
	want, ok := plainSplit(s)
	got, e := path.Split(s)
	if !ok {
		if e != api.ErrPath || len(got) != 0 {
			t.Fatalf("Split(%q) = %q, %v, want ErrPath and no list", s, got, e)
		}
		return
	}
	if e != api.OK || !slices.Equal(got, want) {
		t.Fatalf("Split(%q) = %q, %v, want %q", s, got, e, want)
	}
	if back := path.Join(got); back != s {
		t.Fatalf("Join(Split(%q)) = %q", s, back)
	}
}

func checkUnder(t *testing.T, a, b string) {
	t.Helper()
	if got, want := path.Under(a, b), plainUnder(a, b); got != want {
		t.Fatalf("Under(%q, %q) = %v, want %v", a, b, got, want)
	}
}

// texts are all of at most n signs of these.
func texts(signs string, n int) []string {
	all := []string{""}
	for from := 0; n > 0; n-- {
		end := len(all)
		for _, s := range all[from:end] {
			for i := range len(signs) {
				all = append(all, s+signs[i:i+1])
			}
		}
		from = end
	}
	return all
}

// drawnName is a part by chance: mostly a name, short or long.
func drawnName(r *rand.Rand) string {
	odd := []string{"", ".", "..", "...", "a b", "\x7f", "\x00", "\xc3\xa9", strings.Repeat("y", 17)}
	if r.Intn(12) == 0 {
		return odd[r.Intn(len(odd))]
	}
	n := 1 + r.Intn(2)
	if r.Intn(3) == 0 {
		n = 1 + r.Intn(16)
	}
	b := make([]byte, n)
	for i := range b {
		b[i] = "ab.~!-"[r.Intn(6)]
	}
	return string(b)
}

// drawnPath is what may be a path, by chance: often with so many parts or bytes as it may just have.
func drawnPath(r *rand.Rand) string {
	s := ""
	for range r.Intn(11) {
		s += "/" + drawnName(r)
	}
	switch r.Intn(10) {
	case 0:
		s += "/"
	case 1:
		s = strings.TrimPrefix(s, "/")
	}
	return s
}

// The chapter's example.
func TestExample(t *testing.T) {
	l, e := path.Split("/a/b")
	if e != api.OK || !slices.Equal(l, []string{"a", "b"}) {
		t.Errorf("Split(/a/b) = %q, %v", l, e)
	}
}

// P11.1, Name: how many bytes.
func TestNameLengths(t *testing.T) {
	for n, want := range map[int]bool{0: false, 1: true, 2: true, 15: true, 16: true, 17: false, 32: false, 256: false, 257: false, 65536 + 1: false} {
		if got := path.Name(strings.Repeat("n", n)); got != want {
			t.Errorf("Name of %d bytes = %v", n, got)
		}
	}
}

// P11.1, Name: which bytes, alone and at each place of a long name.
func TestNameBytes(t *testing.T) {
	for x := range 256 {
		one := string([]byte{byte(x)})
		want := x >= 33 && x <= 126 && x != '/'
		if x != '.' && path.Name(one) != want {
			t.Errorf("Name of the byte %d = %v", x, !want)
		}
		for at := range 16 {
			s := strings.Repeat("a", at) + one + strings.Repeat("a", 15-at)
			if path.Name(s) != want {
				t.Errorf("Name(%q) = %v", s, !want)
			}
		}
	}
}

// P11.1, Name: one dot and two are none, all else of dots is.
func TestNameDots(t *testing.T) {
	for n := range 18 {
		want := n >= 3 && n <= 16
		if got := path.Name(strings.Repeat(".", n)); got != want {
			t.Errorf("Name of %d dots = %v", n, got)
		}
	}
	for _, s := range []string{".a", "a.", "..a", "a..", ".a.", "a.b", "-", ":", "\\", "*"} {
		if !path.Name(s) {
			t.Errorf("Name(%q) = false", s)
		}
	}
}

func TestNameAsPlain(t *testing.T) {
	for _, s := range texts("/. a\x7f", 5) {
		checkName(t, s)
	}
	r := rand.New(rand.NewSource(111))
	for range 20000 {
		b := make([]byte, r.Intn(20))
		for i := range b {
			b[i] = byte(33 + r.Intn(94))
			if r.Intn(60) == 0 {
				b[i] = byte(r.Intn(256))
			}
		}
		checkName(t, string(b))
	}
}

// P11.1, Split: "/" has no parts.
func TestSplitRoot(t *testing.T) {
	if l, e := path.Split("/"); e != api.OK || len(l) != 0 {
		t.Errorf("Split(/) = %q, %v", l, e)
	}
	if s := path.Join(nil); s != "/" {
		t.Errorf("Join(nil) = %q", s)
	}
	if s := path.Join([]string{}); s != "/" {
		t.Errorf("Join of an empty list = %q", s)
	}
}

// P11.1, Split: what is no path.
func TestSplitRefuses(t *testing.T) {
	for _, s := range []string{"", "a", "a/b", " /a", "\\a", "\x00", "//", "///", "/a/", "/a//b", "//a", "/.", "/..", "/a/.", "/../a", "/a b", "/a\n", "/\x7f", "/a/\x80", "/é", "/" + strings.Repeat("n", 17)} {
		if l, e := path.Split(s); e != api.ErrPath || len(l) != 0 {
			t.Errorf("Split(%q) = %q, %v, want ErrPath", s, l, e)
		}
	}
}

// P11.1, Split: at each limit all is well, one past it is refused.
func TestSplitLimits(t *testing.T) {
	deep := strings.Repeat("/p", api.MaxDepth)
	wide := strings.Repeat("/"+strings.Repeat("w", 15), 4) // 64 bytes
	both := strings.Repeat("/seven77", 8)                  // 64 bytes in 8 parts
	wellNamed := "/" + strings.Repeat("n", api.MaxName)
	for s, parts := range map[string]int{deep: 8, wide: 4, both: 8, wellNamed: 1} {
		if l, e := path.Split(s); e != api.OK || len(l) != parts || path.Join(l) != s {
			t.Errorf("Split(%q) = %q, %v, want %d parts", s, l, e, parts)
		}
	}
	long := "/" + strings.Repeat("w", 14) + wide[:48] + "/w" // 65 bytes, each part a name
	for _, s := range []string{deep + "/p", deep + "/", wide + "w", both + "7", wellNamed + "n", long, strings.Repeat("/", 64), strings.Repeat("/p", 32)} {
		if l, e := path.Split(s); e != api.ErrPath || len(l) != 0 {
			t.Errorf("Split(%q) = %q, %v, want ErrPath", s, l, e)
		}
	}
	if len(long) != 65 || len(wide) != 64 || len(both) != 64 {
		t.Fatal("the test's own paths are not as long as they say", len(long), len(wide), len(both))
	}
}

// R1: what is far too long is refused as well.
func TestGreatTexts(t *testing.T) {
	for _, s := range []string{strings.Repeat("/", 1<<20), strings.Repeat("/a", 1<<20), strings.Repeat("a", 1<<20), "/" + strings.Repeat("a", 1<<20)} {
		if l, e := path.Split(s); e != api.ErrPath || len(l) != 0 || path.Name(s) || path.Under(s, "/") || path.Under("/a", s) {
			t.Errorf("a text of %d bytes is taken", len(s))
		}
	}
}

func TestSplitAsPlain(t *testing.T) {
	for _, s := range texts("/.a ", 7) {
		checkSplit(t, s)
	}
	for _, s := range texts("/a", 14) {
		checkSplit(t, s)
	}
	r := rand.New(rand.NewSource(112))
	fine, refused := 0, 0
	for range 30000 {
		s := drawnPath(r)
		checkSplit(t, s)
		if _, ok := plainSplit(s); ok {
			fine++
		} else {
			refused++
		}
	}
	if fine < 3000 || refused < 3000 {
		t.Errorf("only %d paths are drawn, and %d other texts", fine, refused)
	}
}

// P11.1, Join undoes Split, and what is joined of names is split to them again.
func TestJoin(t *testing.T) {
	r := rand.New(rand.NewSource(113))
	for range 5000 {
		var l []string
		long := 0
		for range r.Intn(9) {
			if s := drawnName(r); plainName(s) && long+1+len(s) <= 64 {
				l, long = append(l, s), long+1+len(s)
			}
		}
		s := path.Join(l)
		if got, e := path.Split(s); e != api.OK || !slices.Equal(got, l) {
			t.Fatalf("Split(Join(%q)) = %q, %v", l, got, e)
		}
	}
}

// R1 and R6: Join takes any texts, each behind a slash.
func TestJoinAny(t *testing.T) {
	many := make([]string, 1000)
	for _, c := range []struct {
		l    []string
		want string
	}{
		{[]string{"a"}, "/a"}, {[]string{"x", "y"}, "/x/y"}, {[]string{""}, "/"}, {[]string{"", ""}, "//"}, {[]string{"a/b", "c"}, "/a/b/c"},
		{[]string{"\x00\xff"}, "/\x00\xff"}, {many, strings.Repeat("/", 1000)}, {slices.Repeat([]string{"p"}, 20), strings.Repeat("/p", 20)},
	} {
		if got := path.Join(c.l); got != c.want {
			t.Errorf("Join(%q) = %q, want %q", c.l, got, c.want)
		}
	}
}

// P11.1, Under: b's parts ahead, and more.
func TestUnder(t *testing.T) {
	for _, c := range []struct {
		a, b string
		want bool
	}{
		{"/a/b", "/a", true}, {"/a", "/", true}, {"/a/b", "/", true}, {"/a/b/c", "/a", true}, {"/a/b/c", "/a/b", true},
		{"/a", "/a", false}, {"/", "/", false}, {"/", "/a", false}, {"/a", "/a/b", false}, {"/ab", "/a", false}, {"/ab/c", "/a", false},
		{"/a/b", "/b", false}, {"/b/a", "/a", false}, {"/a/b/c", "/a/c", false}, {"/a/b/c", "/b", false}, {"/a/bc", "/a/b", false},
		{"/A/b", "/a", false}, {"/b/a/b", "/a", false}, {"/c/b", "/a/b", false},
	} {
		if got := path.Under(c.a, c.b); got != c.want {
			t.Errorf("Under(%q, %q) = %v", c.a, c.b, got)
		}
	}
}

// P11.1, Under: of what is no path nothing is under, nor is it.
func TestUnderNoPaths(t *testing.T) {
	deep := strings.Repeat("/p", 8)
	for _, c := range [][2]string{
		{"a/b", "a"}, {"a/b", "/"}, {"a", "/"}, {"/a/b", "a"}, {"/a/b", ""}, {"", ""}, {"", "/"}, {"/a/", "/a"}, {"/a//b", "/a"},
		{"/a/b", "/a/"}, {"/a/b", "//"}, {"/a/..", "/a"}, {"/a/.", "/a"}, {"/./a", "/."}, {"/a/b c", "/a"}, {deep + "/p", deep},
		{deep + "/p", "/p"}, {"/a/" + strings.Repeat("n", 17), "/a"}, {strings.Repeat("/"+strings.Repeat("w", 15), 4) + "w", "/"},
	} {
		if path.Under(c[0], c[1]) {
			t.Errorf("Under(%q, %q) = true", c[0], c[1])
		}
	}
	if !path.Under(deep, deep[:14]) || !path.Under(deep, "/p") {
		t.Error("a path as deep as may be lies not under its own beginnings")
	}
}

func TestUnderAsPlain(t *testing.T) {
	short := texts("/ab.", 4)
	for _, a := range short {
		for _, b := range short {
			checkUnder(t, a, b)
		}
	}
	r := rand.New(rand.NewSource(114))
	under := 0
	for range 30000 {
		a := drawnPath(r)
		b := drawnPath(r)
		if r.Intn(3) > 0 { // a beginning of a, cut anywhere
			b = a[:r.Intn(len(a)+1)]
		}
		checkUnder(t, a, b)
		if plainUnder(a, b) {
			under++
		}
	}
	if under < 1000 {
		t.Errorf("only %d drawn paths lie under others", under)
	}
}

// R4: what Split answers is new memory, spare room too.
func TestSplitNew(t *testing.T) {
	for _, s := range []string{"/", "/a", "/a/b/c"} {
		one, _ := path.Split(s)
		two, _ := path.Split(s)
		want := slices.Clone(two)
		room := one[:cap(one)]
		for i := range room {
			room[i] = "spoilt"
		}
		if three, _ := path.Split(s); !slices.Equal(two, want) || !slices.Equal(three, want) {
			t.Errorf("what Split(%q) answers is shared: %q, %q, want %q", s, two, three, want)
		}
	}
}

// R4: Join changes nothing of its list, nor of the room behind it.
func TestJoinLeavesList(t *testing.T) {
	all := []string{"a", "b", "c", "d"}
	if s := path.Join(all[:2]); s != "/a/b" || !slices.Equal(all, []string{"a", "b", "c", "d"}) {
		t.Errorf("Join = %q, and its list is %q", s, all)
	}
	if s := path.Join(all[2:]); s != "/c/d" || !slices.Equal(all, []string{"a", "b", "c", "d"}) {
		t.Errorf("Join = %q, and its list is %q", s, all)
	}
}
