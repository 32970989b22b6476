package tree_test

import (
	"fmt"
	"math/rand"
	"regexp"
	"slices"
	"strings"
	"testing"

	"treering/api"
	"treering/tree"
)

// a second way: each thing has a name and lies in another one, paths are not kept at all.

type thing struct {
	id   int
	dir  bool
	name string
	in   *thing // nil: the root
}

// path goes up to the root.
func (x *thing) path() string {
	if x.in == nil {
		return ""
	}
	return x.in.path() + "/" + x.name
}

// below tells whether x lies somewhere below y.
func (x *thing) below(y *thing) bool { return x.in != nil && (x.in == y || x.in.below(y)) }

type model struct {
	root   *thing
	things []*thing
	next   int
}

func newModel() *model { return &model{root: &thing{dir: true}, next: 1} }

var isPath = regexp.MustCompile(`^(/[!-.0-~]{1,16}){1,8}$`)
var isDots = regexp.MustCompile(`/\.{1,2}(/|$)`)

func may(p string) bool {
	return p == "/" || isPath.MatchString(p) && len(p) <= 64 && !isDots.MatchString(p)
}

// cut answers the directory's path and the name in it.
func cut(p string) (string, string) {
	i := strings.LastIndex(p, "/")
	return p[:max(i, 1)], p[i+1:]
}

func (m *model) kids(x *thing) []*thing {
	var l []*thing
	for _, y := range m.things {
		if y.in == x {
			l = append(l, y)
		}
	}
	slices.SortFunc(l, func(a, b *thing) int { return strings.Compare(a.name, b.name) })
	return l
}

func (m *model) look(p string) (*thing, api.Errno) {
	if !may(p) {
		return nil, api.ErrPath
	}
	x := m.root
	for _, name := range strings.FieldsFunc(p, func(c rune) bool { return c == '/' }) {
		if !x.dir {
			return nil, api.ErrNotDir
		}
		l := m.kids(x)
		i := slices.IndexFunc(l, func(y *thing) bool { return y.name == name })
		if i < 0 {
			return nil, api.ErrNone
		}
		x = l[i]
	}
	return x, api.OK
}

// room answers the directory of p, which is not the root.
func (m *model) room(p string) (*thing, api.Errno) {
	dir, _ := cut(p)
	x, e := m.look(dir)
	if e == api.OK && !x.dir {
		return nil, api.ErrNotDir
	}
	return x, e
}

func (m *model) make(p string, dir bool) (int, api.Errno) {
	if !may(p) {
		return 0, api.ErrPath
	}
	if p == "/" {
		return 0, api.ErrThere
	}
	in, e := m.room(p)
	if e != api.OK {
		return 0, e
	}
	if _, e := m.look(p); e == api.OK {
		return 0, api.ErrThere
	}
	if len(m.things) == 64 {
		return 0, api.ErrFull
	}
	_, name := cut(p)
	m.things = append(m.things, &thing{m.next, dir, name, in})
	m.next++
	return m.next - 1, api.OK
}

func (m *model) rename(from, to string) (int, api.Errno) {
	if !may(from) || !may(to) {
		return 0, api.ErrPath
	}
	x, e := m.look(from)
	if e != api.OK {
		return 0, e
	}
	if x == m.root {
		return 0, api.ErrBusy
	}
	if strings.HasPrefix(to, from+"/") {
		return 0, api.ErrLoop
	}
	if to == "/" {
		return 0, api.ErrThere
	}
	in, e := m.room(to)
	if e != api.OK {
		return 0, e
	}
	y, e := m.look(to)
	if e == api.OK && x == y {
		return -1, api.OK
	}
	if e == api.OK && (y.dir || x.dir) {
		return 0, api.ErrThere
	}
	return m.move(x, y, in, to)
}

// move names x anew, and takes it back if a path is none then.
func (m *model) move(x, y, in *thing, to string) (int, api.Errno) {
	old := *x
	x.in = in
	_, x.name = cut(to)
	for _, z := range m.things {
		if z.below(x) && !may(z.path()) {
			*x = old
			return 0, api.ErrPath
		}
	}
	if y == nil {
		return -1, api.OK
	}
	m.drop(y)
	return y.id, api.OK
}

func (m *model) drop(x *thing) {
	m.things = slices.DeleteFunc(m.things, func(y *thing) bool { return x == y })
}

func (m *model) remove(p string, dir bool) (int, api.Errno) {
	x, e := m.look(p)
	switch {
	case e != api.OK:
		return 0, e
	case x.dir && !dir:
		return 0, api.ErrDir
	case !x.dir && dir:
		return 0, api.ErrNotDir
	case x == m.root || len(m.kids(x)) > 0:
		return 0, api.ErrBusy
	}
	m.drop(x)
	return x.id, api.OK
}

func (m *model) list(p string) (string, api.Errno) {
	x, e := m.look(p)
	if e == api.OK && !x.dir {
		e = api.ErrNotDir
	}
	if e != api.OK {
		return "[]", e
	}
	names := []string{}
	for _, y := range m.kids(x) {
		names = append(names, y.name)
	}
	return fmt.Sprint(names), api.OK
}

// tell is all that there is, by path.
func (m *model) tell() string {
	nodes, paths := []string{}, []string{}
	for _, x := range m.things {
		nodes = append(nodes, fmt.Sprintf("{%s %d %v}", x.path(), x.id, x.dir))
		paths = append(paths, x.path())
	}
	slices.Sort(paths)
	slices.Sort(nodes) // a blank behind a path is less than all that a longer path may have there
	return fmt.Sprint(nodes, paths, len(m.things), m.next)
}

func tell(x *tree.Tree) string { return fmt.Sprint(x.Nodes(), x.Paths(), x.Len(), x.Next()) }

// check asks x and m for what lies at p.
func check(t *testing.T, x *tree.Tree, m *model, p string) {
	t.Helper()
	id, dir, e := x.Look(p)
	y, f := m.look(p)
	if y == nil {
		y = &thing{}
	}
	if id != y.id || dir != y.dir || e != f {
		t.Fatalf("Look(%q) = %d, %v, %v, want %d, %v, %v\n%s", p, id, dir, e, y.id, y.dir, f, m.tell())
	}
	names, e := x.List(p)
	want, f := m.list(p)
	if fmt.Sprint(names) != want || e != f {
		t.Fatalf("List(%q) = %q, %v, want %s, %v\n%s", p, names, e, want, f, m.tell())
	}
}

// drawnPath is mostly a path that is there, or lies just below one.
func drawnPath(r *rand.Rand, m *model) string {
	names := []string{"a", "b", "ab", "a!", "!", "b0", strings.Repeat("l", 12), strings.Repeat("m", 16), "...", ".", "..", "",
		strings.Repeat("n", 17), "b\x7f"}
	name := func() string {
		if r.Intn(20) == 0 {
			return names[r.Intn(len(names))]
		}
		if r.Intn(4) == 0 {
			return fmt.Sprint("f", r.Intn(40))
		}
		return names[r.Intn(8)]
	}
	p := ""
	if len(m.things) > 0 && r.Intn(6) > 0 {
		p = m.things[r.Intn(len(m.things))].path()
		if r.Intn(2) == 0 {
			return p
		}
	}
	for range r.Intn(3) {
		p += "/" + name()
	}
	if p == "" {
		return []string{"/", "/", "", "a", "//"}[r.Intn(5)]
	}
	return p
}

// step does one call on both: of twenty so many are a Make.
func step(t *testing.T, r *rand.Rand, x *tree.Tree, m *model, makes int) {
	t.Helper()
	p, q, dir := drawnPath(r, m), drawnPath(r, m), r.Intn(3) > 0
	was := m.tell()
	var id, want int
	var e, f api.Errno
	var call string
	switch k := r.Intn(20); {
	case k < makes:
		call = fmt.Sprintf("Make(%q, %v)", p, dir)
		id, e = x.Make(p, dir)
		want, f = m.make(p, dir)
	case k < 18:
		call = fmt.Sprintf("Rename(%q, %q)", p, q)
		id, e = x.Rename(p, q)
		want, f = m.rename(p, q)
	default:
		call = fmt.Sprintf("Drop(%q, %v)", p, dir)
		id, e = x.Drop(p, dir)
		want, f = m.remove(p, dir)
	}
	if id != want || e != f {
		t.Fatalf("%s = %d, %v, want %d, %v\n%s", call, id, e, want, f, was)
	}
	if got := tell(x); got != m.tell() {
		t.Fatalf("%s:\n%s\nbecame\n%s\nwant\n%s", call, was, got, m.tell())
	}
}

// Rows of calls by chance, till a tree is full and beyond it.
func TestAgainstModel(t *testing.T) {
	r := rand.New(rand.NewSource(13))
	full := 0
	for world := range 120 {
		x, m := tree.New(), newModel()
		makes := 9 + world%12
		for range 100 + 900*(makes/19) {
			step(t, r, x, m, makes)
			check(t, x, m, drawnPath(r, m))
		}
		if x.Len() == 64 {
			full++
		}
	}
	if full < 10 {
		t.Errorf("%d trees became full: too few to try it", full)
	}
}

// few are all paths of up to three of these names, and some texts that are none.
func few() []string {
	l := []string{"/", "", "a", "/a/", "//", "/.", "/a/.."}
	names := []string{"a", "b", "a!"}
	for _, i := range names {
		l = append(l, "/"+i)
		for _, j := range names {
			l = append(l, "/"+i+"/"+j)
			for _, k := range names {
				l = append(l, "/"+i+"/"+j+"/"+k)
			}
		}
	}
	return l
}

// copyOf builds another model of the same things.
func (m *model) copyOf() *model {
	twin := map[*thing]*thing{m.root: {dir: true}}
	for _, x := range m.things {
		y := *x
		twin[x] = &y
	}
	c := &model{root: twin[m.root], next: m.next}
	for _, x := range m.things {
		twin[x].in = twin[x.in]
		c.things = append(c.things, twin[x])
	}
	return c
}

// Each call with each of a few paths, in trees that came about by chance.
func TestEachCallAgainstModel(t *testing.T) {
	r := rand.New(rand.NewSource(31))
	paths := few()
	for range 30 {
		x, m := tree.New(), newModel()
		for range 10 + r.Intn(20) {
			step(t, r, x, m, 11)
			p := paths[r.Intn(len(paths))]
			id, e := x.Make(p, r.Intn(3) > 0)
			if e == api.OK {
				node := x.Nodes()[slices.IndexFunc(x.Nodes(), func(n tree.Node) bool { return n.ID == id })]
				m.make(p, node.Dir)
			}
		}
		was := tell(x)
		for _, p := range paths {
			check(t, x, m, p)
			for _, dir := range []bool{false, true} {
				oneCall(t, x, m, fmt.Sprintf("Make(%q, %v)", p, dir),
					func(x *tree.Tree) (int, api.Errno) { return x.Make(p, dir) },
					func(m *model) (int, api.Errno) { return m.make(p, dir) })
				oneCall(t, x, m, fmt.Sprintf("Drop(%q, %v)", p, dir),
					func(x *tree.Tree) (int, api.Errno) { return x.Drop(p, dir) },
					func(m *model) (int, api.Errno) { return m.remove(p, dir) })
			}
			for _, q := range paths {
				oneCall(t, x, m, fmt.Sprintf("Rename(%q, %q)", p, q),
					func(x *tree.Tree) (int, api.Errno) { return x.Rename(p, q) },
					func(m *model) (int, api.Errno) { return m.rename(p, q) })
			}
		}
		if tell(x) != was {
			t.Fatalf("what copies did changed it: %s, was %s", tell(x), was)
		}
	}
}

// oneCall does a call on a copy of each.
func oneCall(t *testing.T, x *tree.Tree, m *model, call string,
	onTree func(*tree.Tree) (int, api.Errno), onModel func(*model) (int, api.Errno)) {
	t.Helper()
	y, n := x.Copy(), m.copyOf()
	id, e := onTree(y)
	want, f := onModel(n)
	if id != want || e != f || tell(y) != n.tell() {
		t.Fatalf("%s = %d, %v, want %d, %v\n%s\nbecame\n%s\nwant\n%s", call, id, e, want, f, m.tell(), tell(y), n.tell())
	}
}

// plainBuild is what P13.3 says of Build, over the list as it is.
func plainBuild(next int, l []tree.Node) bool {
	if next < 1 || next > 1<<62 || len(l) > 64 {
		return false
	}
	dirs, paths, ids := map[string]bool{"/": true}, map[string]bool{}, map[int]bool{}
	for _, n := range l {
		dirs[n.Path] = dirs[n.Path] || n.Dir
	}
	for _, n := range l {
		if !may(n.Path) || n.Path == "/" || n.ID < 1 || n.ID >= next || paths[n.Path] || ids[n.ID] {
			return false
		}
		paths[n.Path], ids[n.ID] = true, true
		if dir, _ := cut(n.Path); !dirs[dir] {
			return false
		}
	}
	return true
}

// Lists by chance, many of them just what a tree told, in another order and with one thing changed.
func TestBuildAgainstModel(t *testing.T) {
	r := rand.New(rand.NewSource(7))
	good, bad := 0, 0
	for range 6000 {
		x, m := tree.New(), newModel()
		for range r.Intn(30) {
			step(t, r, x, m, 11)
		}
		l, next := x.Nodes(), x.Next()
		r.Shuffle(len(l), func(i, j int) { l[i], l[j] = l[j], l[i] })
		if len(l) > 0 && r.Intn(4) > 0 {
			n := &l[r.Intn(len(l))]
			switch r.Intn(5) {
			case 0:
				n.ID = r.Intn(next+2) - 1
			case 1:
				n.Path = drawnPath(r, m)
			case 2:
				n.Dir = !n.Dir
			case 3:
				next = n.ID + r.Intn(3) - 1
			case 4:
				l = append(l, tree.Node{Path: drawnPath(r, m), ID: r.Intn(next + 1), Dir: true})
			}
		}
		y, e := tree.Build(next, l)
		if !plainBuild(next, l) {
			bad++
			if e != api.ErrForm || y != nil {
				t.Fatalf("Build(%d, %v) = %v, %v, want ErrForm", next, l, y, e)
			}
			continue
		}
		good++
		slices.SortFunc(l, func(a, b tree.Node) int { return strings.Compare(a.Path, b.Path) })
		if e != api.OK || y.Next() != next || fmt.Sprint(y.Nodes()) != fmt.Sprint(l) {
			t.Fatalf("Build(%d, %v): %v, %v", next, l, y.Nodes(), e)
		}
	}
	if good < 500 || bad < 500 {
		t.Errorf("%d lists were a tree, %d were none: too few", good, bad)
	}
}
