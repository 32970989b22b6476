package tree_test

import (
	"fmt"
	"slices"
	"strings"
	"testing"
	"unsafe"

	"treering/api"
	"treering/tree"
)

// grown is a tree of these paths, in this order. A path with a slash behind is a directory.
func grown(t *testing.T, paths ...string) *tree.Tree {
	t.Helper()
	x := tree.New()
	for i, p := range paths {
		p, dir := strings.CutSuffix(p, "/")
		if id, e := x.Make(p, dir); id != i+1 || e != api.OK {
			t.Fatalf("Make(%q, %v) = %d, %v, want %d", p, dir, id, e, i+1)
		}
	}
	return x
}

func wantNum(t *testing.T, what string, id int, e api.Errno, wantID int, want api.Errno) {
	t.Helper()
	if id != wantID || e != want {
		t.Errorf("%s = %d, %v, want %d, %v", what, id, e, wantID, want)
	}
}

func wantMake(t *testing.T, x *tree.Tree, p string, dir bool, wantID int, want api.Errno) {
	t.Helper()
	id, e := x.Make(p, dir)
	wantNum(t, fmt.Sprintf("Make(%q, %v)", p, dir), id, e, wantID, want)
}

func wantRename(t *testing.T, x *tree.Tree, from, to string, wantID int, want api.Errno) {
	t.Helper()
	id, e := x.Rename(from, to)
	wantNum(t, fmt.Sprintf("Rename(%q, %q)", from, to), id, e, wantID, want)
}

func wantDrop(t *testing.T, x *tree.Tree, p string, dir bool, wantID int, want api.Errno) {
	t.Helper()
	id, e := x.Drop(p, dir)
	wantNum(t, fmt.Sprintf("Drop(%q, %v)", p, dir), id, e, wantID, want)
}

func wantLook(t *testing.T, x *tree.Tree, p string, wantID int, wantDir bool, want api.Errno) {
	t.Helper()
	if id, dir, e := x.Look(p); id != wantID || dir != wantDir || e != want {
		t.Errorf("Look(%q) = %d, %v, %v, want %d, %v, %v", p, id, dir, e, wantID, wantDir, want)
	}
}

func wantList(t *testing.T, x *tree.Tree, p string, want ...string) {
	t.Helper()
	if l, e := x.List(p); e != api.OK || !slices.Equal(l, want) {
		t.Errorf("List(%q) = %q, %v, want %q", p, l, e, want)
	}
}

func wantPaths(t *testing.T, x *tree.Tree, want ...string) {
	t.Helper()
	if l := x.Paths(); !slices.Equal(l, want) {
		t.Errorf("Paths() = %q, want %q", l, want)
	}
}

// wantSame asks that a call has changed nothing.
func wantSame(t *testing.T, x *tree.Tree, was string) {
	t.Helper()
	if got := tell(x); got != was {
		t.Errorf("%s\nbecame\n%s", was, got)
	}
}

// noPaths are texts that path.Split refuses.
func noPaths() []string {
	return []string{"", "a", "a/b", "/a/", "//", "//a", "/a//b", "/.", "/..", "/a/.", "/./a", "/a/../b", "/a b", "/a\x7f", "/\x80",
		"/" + strings.Repeat("x", 17), strings.Repeat("/x", 9), strings.Repeat("/123456789012345", 4) + "/"}
}

// P13.1, the chapter's example: Make, Rename, Look: the same number.
func TestExample(t *testing.T) {
	x := tree.New()
	wantMake(t, x, "/a", false, 1, api.OK)
	wantRename(t, x, "/a", "/b", -1, api.OK)
	wantLook(t, x, "/b", 1, false, api.OK)
	wantLook(t, x, "/a", 0, false, api.ErrNone)
}

// P13.1: the root is there from the first, and counts nowhere.
func TestRoot(t *testing.T) {
	x := tree.New()
	wantLook(t, x, "/", 0, true, api.OK)
	wantList(t, x, "/")
	wantPaths(t, x)
	if len(x.Nodes()) != 0 || x.Len() != 0 || x.Next() != 1 {
		t.Errorf("an empty tree: %s", tell(x))
	}
}

// P13.1: no number is given twice, whatever became of who had it.
func TestNumbersAreNotGivenTwice(t *testing.T) {
	x := grown(t, "/a", "/d/", "/b")
	wantDrop(t, x, "/b", false, 3, api.OK)
	if x.Next() != 4 {
		t.Errorf("Next() = %d behind a Drop, want 4", x.Next())
	}
	wantMake(t, x, "/b", false, 4, api.OK)
	wantRename(t, x, "/a", "/b", 4, api.OK)
	wantMake(t, x, "/a", true, 5, api.OK)
	wantDrop(t, x, "/a", true, 5, api.OK)
	wantDrop(t, x, "/b", false, 1, api.OK)
	wantDrop(t, x, "/d", true, 2, api.OK)
	wantMake(t, x, "/a", true, 6, api.OK)
	if x.Next() != 7 || x.Len() != 1 {
		t.Errorf("Next() = %d, Len() = %d, want 7, 1", x.Next(), x.Len())
	}
}

// P13.1, Look: part by part.
func TestLook(t *testing.T) {
	x := grown(t, "/d/", "/d/e/", "/d/e/f", "/g", "/dd/")
	wantLook(t, x, "/d", 1, true, api.OK)
	wantLook(t, x, "/d/e", 2, true, api.OK)
	wantLook(t, x, "/d/e/f", 3, false, api.OK)
	wantLook(t, x, "/g", 4, false, api.OK)
	wantLook(t, x, "/dd", 5, true, api.OK)
	for _, p := range []string{"/e", "/D", "/d/f", "/dd/e", "/q/r", "/q/r/s", "/d/q/f", "/d/e/f2", "/ddd"} {
		wantLook(t, x, p, 0, false, api.ErrNone)
	}
	for _, p := range []string{"/g/x", "/g/x/y", "/d/e/f/x", "/d/e/f/x/y"} {
		wantLook(t, x, p, 0, false, api.ErrNotDir)
	}
	for _, p := range noPaths() {
		wantLook(t, x, p, 0, false, api.ErrPath)
	}
	wantLook(t, x, "/g/x y", 0, false, api.ErrPath) // ahead of what lies on the way
	wantLook(t, x, "/q/../r", 0, false, api.ErrPath)
}

// P13.1, Make: each of its errors changes nothing.
func TestMakeErrors(t *testing.T) {
	x := grown(t, "/d/", "/f", "/d/e/")
	was := tell(x)
	for _, dir := range []bool{false, true} {
		for _, p := range noPaths() {
			wantMake(t, x, p, dir, 0, api.ErrPath)
		}
		for p, want := range map[string]api.Errno{
			"/": api.ErrThere, "/d": api.ErrThere, "/f": api.ErrThere, "/d/e": api.ErrThere,
			"/q/a": api.ErrNone, "/d/q/a": api.ErrNone, "/q/a/b": api.ErrNone,
			"/f/a": api.ErrNotDir, "/f/a/b": api.ErrNotDir,
			"/f/a b": api.ErrPath, "/q/": api.ErrPath,
		} {
			wantMake(t, x, p, dir, 0, want)
		}
	}
	wantSame(t, x, was)
}

// full has MaxNodes nodes: a directory with one in it, a file, and others.
func full(t *testing.T) *tree.Tree {
	t.Helper()
	paths := []string{"/d/", "/d/f", "/f"}
	for i := len(paths); i < api.MaxNodes; i++ {
		paths = append(paths, fmt.Sprint("/n", i))
	}
	return grown(t, paths...)
}

// P13.1, Make: MaxNodes nodes, and no more. The other errors stand ahead of that.
func TestMakeFull(t *testing.T) {
	x := full(t)
	was := tell(x)
	if x.Len() != 64 || x.Next() != 65 {
		t.Fatalf("Len() = %d, Next() = %d, want 64, 65", x.Len(), x.Next())
	}
	for _, dir := range []bool{false, true} {
		wantMake(t, x, "/z", dir, 0, api.ErrFull)
		wantMake(t, x, "/d/z", dir, 0, api.ErrFull)
		wantMake(t, x, "/", dir, 0, api.ErrThere)
		wantMake(t, x, "/f", dir, 0, api.ErrThere)
		wantMake(t, x, "/q/z", dir, 0, api.ErrNone)
		wantMake(t, x, "/f/z", dir, 0, api.ErrNotDir)
		wantMake(t, x, "z", dir, 0, api.ErrPath)
	}
	wantSame(t, x, was)
	wantRename(t, x, "/d", "/z", -1, api.OK) // needs no room
	wantRename(t, x, "/n9", "/f", 3, api.OK)
	wantMake(t, x, "/z/y", true, 65, api.OK) // the room of the file that is gone
	wantMake(t, x, "/y", true, 0, api.ErrFull)
	wantDrop(t, x, "/z/y", true, 65, api.OK)
	wantMake(t, x, "/y", true, 66, api.OK)
}

// P13.1: a path of as many parts, and of as many bytes, as there may be.
func TestGreatestPaths(t *testing.T) {
	x := tree.New()
	for i := 1; i <= 8; i++ {
		wantMake(t, x, strings.Repeat("/a", i), true, i, api.OK)
	}
	wantMake(t, x, strings.Repeat("/a", 9), true, 0, api.ErrPath)
	wantLook(t, x, strings.Repeat("/a", 8), 8, true, api.OK)
	x = tree.New()
	long := strings.Repeat("/123456789012345", 4)
	for i := 1; i <= 4; i++ {
		wantMake(t, x, long[:16*i], true, i, api.OK)
	}
	wantLook(t, x, long, 4, true, api.OK)
	wantMake(t, x, long+"/", true, 0, api.ErrPath)
	wantMake(t, x, long+"6", true, 0, api.ErrPath)
	wantMake(t, x, long[:48]+"/"+strings.Repeat("y", 15), false, 5, api.OK)
}

// P13.2, Rename: each error, and which of two it is.
func TestRenameErrors(t *testing.T) {
	x := grown(t, "/d/", "/d/e/", "/d/e/f", "/g", "/k/", "/h")
	was := tell(x)
	for _, p := range noPaths() {
		for _, q := range []string{"/", "/d", "/g", "/q", "/g/x", p} {
			wantRename(t, x, p, q, 0, api.ErrPath)
			wantRename(t, x, q, p, 0, api.ErrPath)
		}
	}
	for _, c := range []struct {
		from, to string
		want     api.Errno
	}{
		{"/q", "/a", api.ErrNone}, {"/q/r", "/a", api.ErrNone}, {"/g/x", "/a", api.ErrNotDir}, {"/d/e/f/x", "/", api.ErrNotDir},
		{"/q", "/", api.ErrNone}, {"/q", "/q", api.ErrNone}, {"/q", "/q/x", api.ErrNone}, {"/g/x", "/g/x/y", api.ErrNotDir},
		{"/q", "/d", api.ErrNone}, {"/q", "/g/x", api.ErrNone},
		{"/", "/", api.ErrBusy}, {"/", "/a", api.ErrBusy}, {"/", "/d/e", api.ErrBusy}, {"/", "/g/x", api.ErrBusy},
		{"/", "/q/x", api.ErrBusy},
		{"/d", "/d/x", api.ErrLoop}, {"/d", "/d/e", api.ErrLoop}, {"/d", "/d/e/f", api.ErrLoop}, {"/d", "/d/e/f/x", api.ErrLoop},
		{"/d", "/d/q/x", api.ErrLoop}, {"/g", "/g/x", api.ErrLoop}, {"/g", "/g/x/y", api.ErrLoop},
		{"/g", "/q/x", api.ErrNone}, {"/d", "/q/x", api.ErrNone}, {"/g", "/d/q/x", api.ErrNone}, {"/g", "/h/x", api.ErrNotDir},
		{"/d", "/h/x", api.ErrNotDir}, {"/g", "/d/e/f/x", api.ErrNotDir}, {"/g", "/h/x/y", api.ErrNotDir},
		{"/g", "/", api.ErrThere}, {"/d", "/", api.ErrThere}, {"/d/e/f", "/", api.ErrThere},
		{"/g", "/d", api.ErrThere}, {"/g", "/k", api.ErrThere}, {"/d/e/f", "/d/e", api.ErrThere}, {"/d/e/f", "/d", api.ErrThere},
		{"/d", "/k", api.ErrThere}, {"/k", "/d", api.ErrThere}, {"/k", "/d/e", api.ErrThere}, {"/d/e", "/d", api.ErrThere},
		{"/d", "/g", api.ErrThere}, {"/k", "/d/e/f", api.ErrThere}, {"/k", "/g", api.ErrThere},
	} {
		wantRename(t, x, c.from, c.to, 0, c.want)
	}
	wantSame(t, x, was)
}

// P13.2, Rename: from is to.
func TestRenameToItself(t *testing.T) {
	x := grown(t, "/d/", "/d/f", "/g", "/d/e/")
	was := tell(x)
	for _, p := range x.Paths() {
		wantRename(t, x, p, p, -1, api.OK)
	}
	wantSame(t, x, was)
}

// P13.2, Rename: a file takes another one's place.
func TestRenameOverFile(t *testing.T) {
	x := grown(t, "/a", "/b", "/d/", "/d/f")
	wantRename(t, x, "/a", "/b", 2, api.OK)
	wantLook(t, x, "/b", 1, false, api.OK)
	wantRename(t, x, "/b", "/d/f", 4, api.OK)
	wantLook(t, x, "/d/f", 1, false, api.OK)
	wantPaths(t, x, "/d", "/d/f")
	wantRename(t, x, "/d/f", "/f", -1, api.OK)
	wantPaths(t, x, "/d", "/f")
	if x.Len() != 2 || x.Next() != 5 {
		t.Errorf("Len() = %d, Next() = %d, want 2, 5", x.Len(), x.Next())
	}
}

// P13.2, Rename: a directory goes with all that is in it, each with its number, and nothing beside goes with it.
func TestRenameDirectory(t *testing.T) {
	x := grown(t, "/a/", "/a/f", "/a/b/", "/a/b/g", "/ab/", "/ab/f", "/a!", "/c/", "/a/b/e/")
	wantRename(t, x, "/a", "/c/d", -1, api.OK)
	want := []tree.Node{{"/a!", 7, false}, {"/ab", 5, true}, {"/ab/f", 6, false}, {"/c", 8, true}, {"/c/d", 1, true},
		{"/c/d/b", 3, true}, {"/c/d/b/e", 9, true}, {"/c/d/b/g", 4, false}, {"/c/d/f", 2, false}}
	if got := x.Nodes(); !slices.Equal(got, want) {
		t.Errorf("Nodes() = %v, want %v", got, want)
	}
	wantLook(t, x, "/a/b/g", 0, false, api.ErrNone)
	wantLook(t, x, "/c/d/b/g", 4, false, api.OK)
	wantList(t, x, "/c/d", "b", "f")
	wantRename(t, x, "/c/d/b", "/c/b", -1, api.OK) // up
	wantRename(t, x, "/c/b", "/a", -1, api.OK)     // where another one was
	wantPaths(t, x, "/a", "/a!", "/a/e", "/a/g", "/ab", "/ab/f", "/c", "/c/d", "/c/d/f")
	wantRename(t, x, "/a", "/abc", -1, api.OK) // a longer name that begins alike lies not below it
	wantLook(t, x, "/abc/g", 4, false, api.OK)
}

// P13.2, Rename: what is in from would have too many parts, or just not.
func TestRenameTooDeep(t *testing.T) {
	x := grown(t, "/x/", "/x/y/", "/x/y/z", "/a/", "/a/a/", "/a/a/a/", "/a/a/a/a/", "/a/a/a/a/a/", "/a/a/a/a/a/a/", "/a/a/a/a/a/a/a/")
	was := tell(x)
	wantRename(t, x, "/x", strings.Repeat("/a", 6)+"/x", 0, api.ErrPath)
	wantRename(t, x, "/x", strings.Repeat("/a", 7)+"/x", 0, api.ErrPath)
	wantRename(t, x, "/x", strings.Repeat("/a", 7), 0, api.ErrThere) // ahead of that
	wantSame(t, x, was)
	wantRename(t, x, "/x", strings.Repeat("/a", 5)+"/x", -1, api.OK)
	wantLook(t, x, strings.Repeat("/a", 5)+"/x/y/z", 3, false, api.OK)
	wantRename(t, x, strings.Repeat("/a", 5)+"/x/y", strings.Repeat("/a", 6)+"/y", -1, api.OK)
	wantRename(t, x, strings.Repeat("/a", 6)+"/y/z", strings.Repeat("/a", 7)+"/z", -1, api.OK)
	wantRename(t, x, strings.Repeat("/a", 6)+"/y", strings.Repeat("/a", 7)+"/y", -1, api.OK) // nothing in it is too deep
	wantRename(t, x, strings.Repeat("/a", 7)+"/y", strings.Repeat("/a", 7)+"/y/y", 0, api.ErrPath)
}

// P13.2, Rename: what is in from would have too many bytes, or just not.
func TestRenameTooLong(t *testing.T) {
	long := "/" + strings.Repeat("l", 16)
	x := grown(t, "/x/", "/x/y/", "/x/y/z", "/x/w", long+"/", long+long+"/", long+long+long+"/")
	was := tell(x)
	wantRename(t, x, "/x", long+long+long+"/1234567890", 0, api.ErrPath)
	wantSame(t, x, was)
	wantRename(t, x, "/x", long+long+long+"/12345678", -1, api.OK) // 3*17 + 9 + 4
	wantLook(t, x, long+long+long+"/12345678/y/z", 3, false, api.OK)
	was = tell(x)
	wantRename(t, x, long+long+long+"/12345678", long+long+long+"/123456789", 0, api.ErrPath)
	wantRename(t, x, long+long+long+"/12345678/y", long+long+long+"/12345678/yy", 0, api.ErrPath)
	wantRename(t, x, long+long+long+"/12345678/y/z", long+long+long+"/12345678/y/zz", 0, api.ErrPath)
	wantSame(t, x, was)
	wantRename(t, x, long, "/l", -1, api.OK)
	wantLook(t, x, "/l"+long+long+"/12345678/w", 4, false, api.OK)
}

// P13.2, Drop: each error, and which of two it is.
func TestDropErrors(t *testing.T) {
	x := grown(t, "/d/", "/d/f", "/g", "/k/", "/k/e/")
	was := tell(x)
	for _, dir := range []bool{false, true} {
		for _, p := range noPaths() {
			wantDrop(t, x, p, dir, 0, api.ErrPath)
		}
		for _, p := range []string{"/q", "/q/r", "/d/q", "/k/e/q"} {
			wantDrop(t, x, p, dir, 0, api.ErrNone)
		}
		for _, p := range []string{"/g/x", "/g/x/y", "/d/f/x"} {
			wantDrop(t, x, p, dir, 0, api.ErrNotDir)
		}
	}
	for _, p := range []string{"/", "/d", "/k", "/k/e"} { // with something in it, too
		wantDrop(t, x, p, false, 0, api.ErrDir)
	}
	for _, p := range []string{"/g", "/d/f"} {
		wantDrop(t, x, p, true, 0, api.ErrNotDir)
	}
	for _, p := range []string{"/", "/d", "/k"} {
		wantDrop(t, x, p, true, 0, api.ErrBusy)
	}
	wantSame(t, x, was)
	wantDrop(t, tree.New(), "/", true, 0, api.ErrBusy)
	wantDrop(t, tree.New(), "/", false, 0, api.ErrDir)
}

// P13.2, Drop: what is gone is gone, and what is beside stays.
func TestDrop(t *testing.T) {
	x := grown(t, "/a/", "/ab/", "/ab/c", "/a!", "/a/f", "/b")
	wantDrop(t, x, "/a/f", false, 5, api.OK)
	wantDrop(t, x, "/a", true, 1, api.OK) // /ab/c and /a! lie not in it
	wantLook(t, x, "/a", 0, false, api.ErrNone)
	wantLook(t, x, "/a/f", 0, false, api.ErrNone)
	wantDrop(t, x, "/a", true, 0, api.ErrNone)
	wantPaths(t, x, "/a!", "/ab", "/ab/c", "/b")
	wantDrop(t, x, "/ab", true, 0, api.ErrBusy)
	wantDrop(t, x, "/ab/c", false, 3, api.OK)
	wantDrop(t, x, "/ab", true, 2, api.OK)
	wantDrop(t, x, "/b", false, 6, api.OK)
	wantPaths(t, x, "/a!")
	wantMake(t, x, "/a", false, 7, api.OK) // a file now
}

// P13.3, List: names of just what is in it, rising as bytes do.
func TestList(t *testing.T) {
	x := grown(t, "/b/", "/b/z", "/b/a/", "/b/a/q", "/b/Z", "/b/a!", "/b/10", "/b/9", "/bb/", "/bb/x", "/a", "/b/~", "/b/!")
	wantList(t, x, "/", "a", "b", "bb")
	wantList(t, x, "/b", "!", "10", "9", "Z", "a", "a!", "z", "~")
	wantList(t, x, "/b/a", "q")
	wantList(t, x, "/bb", "x")
	for p, want := range map[string]api.Errno{
		"/a": api.ErrNotDir, "/b/z": api.ErrNotDir, "/a/x": api.ErrNotDir, "/q": api.ErrNone, "/q/r": api.ErrNone, "/b/a/x": api.ErrNone,
	} {
		if l, e := x.List(p); len(l) != 0 || e != want {
			t.Errorf("List(%q) = %q, %v, want %v", p, l, e, want)
		}
	}
	for _, p := range noPaths() {
		if l, e := x.List(p); len(l) != 0 || e != api.ErrPath {
			t.Errorf("List(%q) = %q, %v, want ErrPath", p, l, e)
		}
	}
}

// P13.3, Paths and Nodes: by the whole path's bytes, of which a slash is just one.
func TestPathsAndNodes(t *testing.T) {
	x := grown(t, "/b", "/a/", "/a/b", "/a!", "/a0/", "/a0/x/", "/Z")
	wantPaths(t, x, "/Z", "/a", "/a!", "/a/b", "/a0", "/a0/x", "/b")
	want := []tree.Node{{"/Z", 7, false}, {"/a", 2, true}, {"/a!", 4, false}, {"/a/b", 3, false}, {"/a0", 5, true}, {"/a0/x", 6, true},
		{"/b", 1, false}}
	if got := x.Nodes(); !slices.Equal(got, want) || x.Len() != 7 {
		t.Errorf("Nodes() = %v, want %v; Len() = %d", got, want, x.Len())
	}
}

// wantBuilt asks for a tree of just l, by path.
func wantBuilt(t *testing.T, next int, l []tree.Node) *tree.Tree {
	t.Helper()
	x, e := tree.Build(next, l)
	if e != api.OK || x == nil {
		t.Fatalf("Build(%d, %v): %v", next, l, e)
	}
	want := slices.Clone(l)
	slices.SortFunc(want, func(a, b tree.Node) int { return strings.Compare(a.Path, b.Path) })
	if !slices.Equal(x.Nodes(), want) || x.Next() != next || x.Len() != len(l) {
		t.Errorf("Build(%d, %v): %s", next, l, tell(x))
	}
	return x
}

func wantNoTree(t *testing.T, next int, l ...tree.Node) {
	t.Helper()
	if x, e := tree.Build(next, l); e != api.ErrForm || x != nil {
		t.Errorf("Build(%d, %v) = %v, %v, want nil, ErrForm", next, l, x, e)
	}
}

// P13.3, Build: in whatever order.
func TestBuildInEachOrder(t *testing.T) {
	l := []tree.Node{{"/a", 8, true}, {"/a/b", 3, true}, {"/a/b/c", 1, false}, {"/a!", 9, true}, {"/a!/x", 2, false}}
	orders(l, len(l), func() {
		x := wantBuilt(t, 10, l)
		wantLook(t, x, "/a/b/c", 1, false, api.OK)
		wantList(t, x, "/a!", "x")
		wantMake(t, x, "/a/n", false, 10, api.OK)
		wantRename(t, x, "/a", "/c", -1, api.OK)
		wantPaths(t, x, "/a!", "/a!/x", "/c", "/c/b", "/c/b/c", "/c/n")
	})
}

// orders brings the first n of l into each order.
func orders(l []tree.Node, n int, each func()) {
	if n == 0 {
		each()
		return
	}
	for i := range n {
		l[i], l[n-1] = l[n-1], l[i]
		orders(l, n-1, each)
		l[i], l[n-1] = l[n-1], l[i]
	}
}

// P13.3, Build: what may be next, and what may be a number.
func TestBuildNumbers(t *testing.T) {
	for _, next := range []int{1, 2, 1<<62 - 1, 1 << 62} {
		wantBuilt(t, next, nil)
	}
	for _, next := range []int{0, -1, -1 << 63, 1<<62 + 1, 1<<63 - 1} {
		wantNoTree(t, next)
		wantNoTree(t, next, tree.Node{Path: "/a", ID: 1, Dir: true})
	}
	wantMake(t, wantBuilt(t, 1<<62, []tree.Node{{"/a", 1<<62 - 1, true}}), "/b", true, 1<<62, api.OK)
	for _, id := range []int{1, 2, 8} {
		wantBuilt(t, 9, []tree.Node{{"/a", id, false}})
	}
	for _, id := range []int{0, -1, -1 << 63, 9, 10, 1<<63 - 1} {
		wantNoTree(t, 9, tree.Node{Path: "/a", ID: id})
		wantNoTree(t, 9, tree.Node{Path: "/b", ID: 3}, tree.Node{Path: "/a", ID: id, Dir: true})
	}
	wantNoTree(t, 9, tree.Node{Path: "/a", ID: 3}, tree.Node{Path: "/b", ID: 3, Dir: true})
	wantNoTree(t, 9, tree.Node{Path: "/b", ID: 3, Dir: true}, tree.Node{Path: "/c", ID: 4}, tree.Node{Path: "/b/a", ID: 3})
	wantNoTree(t, 1, tree.Node{Path: "/a", ID: 1})
}

// P13.3, Build: what may be a path.
func TestBuildPaths(t *testing.T) {
	for _, p := range append(noPaths(), "/") {
		for _, dir := range []bool{false, true} {
			wantNoTree(t, 9, tree.Node{Path: p, ID: 1, Dir: dir})
			wantNoTree(t, 9, tree.Node{Path: "/x", ID: 2, Dir: true}, tree.Node{Path: p, ID: 1, Dir: dir})
		}
	}
	wantNoTree(t, 9, tree.Node{Path: "/", ID: 0, Dir: true})
	wantNoTree(t, 9, tree.Node{Path: "/a", ID: 1}, tree.Node{Path: "/a", ID: 2})
	wantNoTree(t, 9, tree.Node{Path: "/a", ID: 1, Dir: true}, tree.Node{Path: "/a", ID: 2})
	wantNoTree(t, 9, tree.Node{Path: "/a", ID: 1, Dir: true}, tree.Node{Path: "/a", ID: 1, Dir: true})
	wantNoTree(t, 9, tree.Node{Path: "/a/b", ID: 1})
	wantNoTree(t, 9, tree.Node{Path: "/a/b/c", ID: 1}, tree.Node{Path: "/a", ID: 2, Dir: true})
	wantNoTree(t, 9, tree.Node{Path: "/a", ID: 1}, tree.Node{Path: "/a/b", ID: 2})
	wantNoTree(t, 9, tree.Node{Path: "/a/b", ID: 2, Dir: true}, tree.Node{Path: "/a", ID: 1})
	wantNoTree(t, 9, tree.Node{Path: "/ab", ID: 1, Dir: true}, tree.Node{Path: "/a/b", ID: 2})
	wantBuilt(t, 9, []tree.Node{{"/a/b", 1, true}, {"/a", 2, true}})
}

// P13.3, Build: MaxNodes nodes, and no more.
func TestBuildFull(t *testing.T) {
	var l []tree.Node
	for i := range 65 {
		l = append(l, tree.Node{Path: fmt.Sprint("/n", i), ID: i + 1, Dir: i%2 == 0})
	}
	wantMake(t, wantBuilt(t, 99, l[:64]), "/z", false, 0, api.ErrFull)
	wantMake(t, wantBuilt(t, 99, l[:63]), "/z", false, 99, api.OK)
	wantNoTree(t, 99, l...)
	wantNoTree(t, 99, append(l, l...)...)
}

// P13.3: Build and Nodes undo each other.
func TestBuildOfNodes(t *testing.T) {
	x := grown(t, "/a/", "/a/f", "/b", "/c/")
	x.Rename("/b", "/a/f")
	x.Drop("/c", true)
	y := wantBuilt(t, x.Next(), x.Nodes())
	wantSame(t, y, tell(x))
}

// A copy goes its own way.
func TestCopy(t *testing.T) {
	x := grown(t, "/a/", "/a/f", "/b")
	c := x.Copy()
	was := tell(x)
	wantSame(t, c, was)
	wantMake(t, c, "/c", true, 4, api.OK)
	wantRename(t, c, "/a", "/d", -1, api.OK)
	wantDrop(t, c, "/d/f", false, 2, api.OK)
	wantSame(t, x, was)
	of := tell(c)
	wantMake(t, x, "/aa", true, 4, api.OK)
	wantRename(t, x, "/b", "/a/f", 2, api.OK)
	wantDrop(t, x, "/aa", true, 4, api.OK)
	wantSame(t, c, of)
	wantPaths(t, c, "/b", "/c", "/d")
	wantPaths(t, x, "/a", "/a/f")
}

// R4: what Build is handed in stays as it was, and is not kept.
func TestHandedInStays(t *testing.T) {
	all := []tree.Node{{"/b", 4, false}, {"/a/c", 3, false}, {"/a", 2, true}, {"/y", 7, true}, {"/x", 1, false}}
	was := slices.Clone(all)
	x, _ := tree.Build(9, all[:3]) // with room behind
	if !slices.Equal(all, was) {
		t.Errorf("Build was handed %v, and left %v", was, all)
	}
	tree.Build(9, all[:4:5])
	tree.Build(2, all[:3]) // refused
	if !slices.Equal(all, was) {
		t.Errorf("Build was handed %v, and left %v", was, all)
	}
	for i := range all {
		all[i] = tree.Node{Path: "/q", ID: 5, Dir: true}
	}
	x.Make("/n", true)
	wantPaths(t, x, "/a", "/a/c", "/b", "/n")
}

// R4: what is answered may be spoiled, spare room too.
func TestAnswersAreNew(t *testing.T) {
	x := grown(t, "/a/", "/a/f", "/b", "/a/g")
	was := tell(x)
	for range 2 {
		nodes, paths := x.Nodes(), x.Paths()
		names, _ := x.List("/a")
		for i := range nodes[:cap(nodes)] {
			nodes[:cap(nodes)][i] = tree.Node{Path: "/z", ID: 9}
		}
		for _, l := range [][]string{paths, names} {
			for i := range l[:cap(l)] {
				l[:cap(l)][i] = "z"
			}
		}
		wantSame(t, x, was)
		wantList(t, x, "/a", "f", "g")
		c := x.Copy()
		c.Make("/c", false)
		wantSame(t, x, was)
	}
}

// The texts that come in are not kept: of a long one, of which a path is a piece, all would stay.
func TestTextsAreNotKept(t *testing.T) {
	long := strings.Repeat("/a/b/c/d", 100)
	lies := func(s string) bool {
		at, from := uintptr(unsafe.Pointer(unsafe.StringData(s))), uintptr(unsafe.Pointer(unsafe.StringData(long)))
		return at >= from && at < from+uintptr(len(long))
	}
	x := tree.New()
	x.Make(long[:2], true)
	x.Make(long[:4], true)
	x.Make("/e", true)
	x.Rename("/e", long[4:6])
	y, _ := tree.Build(9, []tree.Node{{long[:2], 1, true}, {long[:4], 2, true}})
	for _, p := range slices.Concat(x.Paths(), y.Paths()) {
		if lies(p) {
			t.Errorf("%s is kept as a piece of what was handed in", p)
		}
	}
}

// R7: a tree that is none.
func TestNil(t *testing.T) {
	var x *tree.Tree
	for _, p := range []string{"/", "/a", "", "a"} {
		wantLook(t, x, p, 0, false, api.ErrArg)
		wantMake(t, x, p, true, 0, api.ErrArg)
		wantRename(t, x, p, "/b", 0, api.ErrArg)
		wantRename(t, x, "/b", p, 0, api.ErrArg)
		wantDrop(t, x, p, true, 0, api.ErrArg)
		if l, e := x.List(p); len(l) != 0 || e != api.ErrArg {
			t.Errorf("List of nil = %q, %v", l, e)
		}
	}
	if x.Copy() != nil || len(x.Paths()) != 0 || len(x.Nodes()) != 0 || x.Len() != 0 || x.Next() != 0 {
		t.Error("nil answers something")
	}
}

// R1: a Tree that New did not make is one with just the root.
func TestZeroTree(t *testing.T) {
	var x tree.Tree
	wantSame(t, &x, tell(tree.New()))
	wantLook(t, &x, "/", 0, true, api.OK)
	wantDrop(t, x.Copy(), "/", true, 0, api.ErrBusy)
	wantRename(t, x.Copy(), "/a", "/b", 0, api.ErrNone)
	wantMake(t, &x, "/a", true, 1, api.OK)
	wantPaths(t, &x, "/a")
}
