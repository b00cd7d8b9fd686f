package path_test

import (
	"slices"
	"strings"
	"testing"

	"coppice/api"
	"coppice/path"
)

// stops ends a test of very many cases at the first ones that fail.
func stops(t *testing.T) {
	t.Helper()
	if t.Failed() {
		t.FailNow()
	}
}

// named holds Name against what it should answer.
func named(t *testing.T, s string, want bool) {
	t.Helper()
	if got := path.Name(s); got != want {
		t.Errorf("P12.1: Name of %.40q (%d bytes): %t", s, len(s), got)
	}
}

// splits holds Split against what it should answer.
func splits(t *testing.T, p string, want []string, wantErr api.Errno) {
	t.Helper()
	if got, err := path.Split(p); !slices.Equal(got, want) || err != wantErr {
		t.Errorf("P12.1: Split of %.40q (%d bytes): %.40q, %d; %.40q, %d is asked", p, len(p), got, err, want, wantErr)
	}
}

// loosens holds Loose against what it should answer.
func loosens(t *testing.T, p string, want []string, wantErr api.Errno) {
	t.Helper()
	if got, err := path.Loose(p); !slices.Equal(got, want) || err != wantErr {
		t.Errorf("P12.1: Loose of %.40q (%d bytes): %.40q, %d; %.40q, %d is asked", p, len(p), got, err, want, wantErr)
	}
}

// joins holds Join against what it should answer.
func joins(t *testing.T, names []string, want string, wantErr api.Errno) {
	t.Helper()
	if got, err := path.Join(names...); got != want || err != wantErr {
		t.Errorf("P12.1: Join of %d names %.40q: %.40q, %d; %.40q, %d is asked", len(names), names, got, err, want, wantErr)
	}
}

// leads holds Lead against what it should answer.
func leads(t *testing.T, s string, want []string, wantRoot bool, wantErr api.Errno) {
	t.Helper()
	if got, root, err := path.Lead(s); !slices.Equal(got, want) || root != wantRoot || err != wantErr {
		t.Errorf("P12.1: Lead of %.40q (%d bytes): %.40q, %t, %d; %.40q, %t, %d is asked", s, len(s), got, root, err, want, wantRoot, wantErr)
	}
}

// owned holds OrphanOf against what it should answer.
func owned(t *testing.T, s string, want int, wantIs bool) {
	t.Helper()
	if got, is := path.OrphanOf(s); got != want || is != wantIs {
		t.Errorf("P12.1: OrphanOf of %.40q (%d bytes): %d, %t; %d, %t is asked", s, len(s), got, is, want, wantIs)
	}
}

// all holds each call that takes one text against the chapter's words; it tells how many of them take it.
func all(t *testing.T, s string) int {
	t.Helper()
	_, orphan := plainOrphanOf(s)
	name, target := plainName(s), plainTarget(s)
	strict, isPath := plainDown(s, mostPath, false)
	loose, isLoose := plainDown(s, mostLoose, true)
	to, root, isLead := plainLead(s)
	ino, _ := plainOrphanOf(s)
	named(t, s, name)
	splits(t, s, strict, code(isPath))
	loosens(t, s, loose, code(isLoose))
	leads(t, s, to, root, code(isLead))
	owned(t, s, ino, orphan)
	if got := path.Target(s); got != target {
		t.Errorf("P12.1: Target of %.40q (%d bytes): %t", s, len(s), got)
	}
	taken := 0
	for _, is := range []bool{name, target, isPath, isLoose, isLead, orphan} {
		if is {
			taken++
		}
	}
	return taken
}

func TestExamples(t *testing.T) {
	splits(t, "/a/b", []string{"a", "b"}, api.OK)
	splits(t, "/", nil, api.OK)
	splits(t, "a", nil, api.ErrName)
	splits(t, "/a/", nil, api.ErrName)
	splits(t, "//", nil, api.ErrName)
	leads(t, "../x", []string{"..", "x"}, false, api.OK)
	if s, err := path.Orphan(7); s != "\x00\x37" || err != api.OK {
		t.Errorf("P12.1: Orphan of 7: %q, %d", s, err)
	}
}

func TestAllShortTexts(t *testing.T) {
	taken := 0
	for _, letters := range []string{"/.a\x00", "/.a", "\x00019/", "\x0007/a\xff", "\xe2\x82\xac/\x00", "\x00+-_ 1x."} {
		size := 7
		if len(letters) > 4 {
			size = 6
		}
		if len(letters) > 6 {
			size = 4
		}
		for _, s := range short(letters, size) {
			taken += all(t, s)
		}
		stops(t)
	}
	if taken < 10000 {
		t.Error("the test itself is wrong: ", taken)
	}
}

func TestNames(t *testing.T) {
	named(t, "", false)
	named(t, "a", true)
	named(t, ".", false)
	named(t, "..", false)
	named(t, "...", true)
	named(t, strings.Repeat("a", 255), true)
	named(t, strings.Repeat("a", 256), false)
	named(t, strings.Repeat("\xc3\xa4", 127)+"a", true)
	named(t, strings.Repeat("\xc3\xa4", 128), false)
	for _, s := range rightNames() {
		named(t, s, true)
		all(t, s)
	}
	for _, s := range wrongNames() {
		named(t, s, false)
		all(t, s)
	}
}

func TestNamesInPaths(t *testing.T) {
	for _, s := range rightNames() {
		for _, names := range [][]string{{s}, {s, "a"}, {"a", s}, {"a", s, "b"}, {s, s, s}} {
			p := slashed(names)
			splits(t, p, names, api.OK)
			loosens(t, p, names, api.OK)
			joins(t, names, p, api.OK)
			if len(p) <= mostTarget {
				leads(t, p, names, true, api.OK)
				leads(t, p[1:], names, false, api.OK)
			} else {
				leads(t, p, nil, false, api.ErrName)
			}
		}
	}
	for _, s := range wrongNames() {
		for _, names := range [][]string{{s}, {s, "a"}, {"a", s}, {"a", s, "b"}, {s, s, s}} {
			joins(t, names, "", api.ErrName)
			all(t, slashed(names))
			all(t, strings.Join(names, "/"))
		}
	}
}

func TestHowManyNames(t *testing.T) {
	for _, n := range []int{1, 2, 31, mostDepth} {
		names := slices.Repeat([]string{"a"}, n)
		p := slashed(names)
		splits(t, p, names, api.OK)
		loosens(t, p, names, api.OK)
		joins(t, names, p, api.OK)
		leads(t, p, names, true, api.OK)
		leads(t, p[1:], names, false, api.OK)
		names = append(slices.Repeat([]string{".."}, n-1), "a")
		leads(t, strings.Join(names, "/"), names, false, api.OK)
	}
	for _, n := range []int{mostDepth + 1, 34, 40, 49, 64, 256, 500, 100000} {
		names := slices.Repeat([]string{"a"}, n)
		p := slashed(names)
		splits(t, p, nil, api.ErrName)
		loosens(t, p, nil, api.ErrName)
		loosens(t, "/\x007"+p[2:], nil, api.ErrName)
		joins(t, names, "", api.ErrName)
		leads(t, p, nil, false, api.ErrName)
		leads(t, p[1:], nil, false, api.ErrName)
		leads(t, strings.Repeat("../", n-1)+"a", nil, false, api.ErrName)
	}
	leads(t, strings.Repeat("../", 31)+"..", slices.Repeat([]string{".."}, 32), false, api.OK)
	leads(t, strings.Repeat("../", 32)+"..", nil, false, api.ErrName)
}

func TestHowManyBytes(t *testing.T) {
	for _, n := range []int{5, 6, 16, mostDepth} {
		for size := 1000; size <= 1050; size++ {
			names := sized(size, n)
			p := slashed(names)
			if len(p) != size {
				t.Fatal("the test itself is wrong")
			}
			want, wantErr := plainJoin(names)
			joins(t, names, want, wantErr)
			all(t, p)
			orphan := "/\x001099511627776" + p
			all(t, orphan)
			all(t, orphan[:size])
		}
	}
	for _, size := range []int{1022, 1023} {
		splits(t, slashed(sized(size, 5)), sized(size, 5), api.OK)
	}
	for _, size := range []int{1024, 1025, 1036, 1037, 1038, 2046} {
		splits(t, slashed(sized(size, 10)), nil, api.ErrName)
	}
	for _, size := range []int{1022, 1023, 1024, 1036, 1037} {
		loosens(t, slashed(sized(size, 5)), sized(size, 5), api.OK)
		names := append([]string{"\x001099511627776"}, sized(size-15, 5)...)
		loosens(t, slashed(names), names, api.OK)
		names = append([]string{"\x007"}, sized(size-3, 5)...)
		loosens(t, slashed(names), names, api.OK)
	}
	for _, size := range []int{1038, 1039, 2046, 100000} {
		loosens(t, slashed(sized(min(size, 8000), 32)), nil, api.ErrName)
		loosens(t, "/\x007/"+strings.Repeat("a", size-4), nil, api.ErrName)
		loosens(t, slashed(append([]string{"\x001099511627776"}, sized(1038-15, 5)...)), nil, api.ErrName)
	}
	joins(t, slices.Repeat([]string{strings.Repeat("a", 255)}, 4), "", api.ErrName)
	joins(t, slices.Repeat([]string{strings.Repeat("a", 255)}, 32), "", api.ErrName)
	joins(t, slices.Repeat([]string{strings.Repeat("a", 255)}, 3), strings.Repeat("/"+strings.Repeat("a", 255), 3), api.OK)
}

func TestSlashes(t *testing.T) {
	for _, p := range []string{"", "//", "///", "a", "a/b", "/a/", "/a//", "/a//b", "//a", "/a/b/", "a/", "a//b", "/a/./b", "/a/../b", "/./a", "/../a", "/.", "/..", "/a/.", "/a/..", "./a", "/\x00", "/a\x00", "/a/\x00b", "\x00", "\\a", strings.Repeat("/", 1023), strings.Repeat("/", 1024)} {
		splits(t, p, nil, api.ErrName)
		loosens(t, p, nil, api.ErrName)
	}
	splits(t, "/", []string{}, api.OK)
	loosens(t, "/", []string{}, api.OK)
	leads(t, "/", []string{}, true, api.OK)
	joins(t, nil, "/", api.OK)
	joins(t, []string{}, "/", api.OK)
	for _, names := range [][]string{{""}, {"", ""}, {"a", ""}, {"", "a"}, {"/"}, {"/a"}, {"a/"}, {"a/b"}, {"."}, {".."}, {"a", ".", "b"}, {"..", "a"}, {"\x00"}, {"\x007"}, {"\x007", "a"}} {
		joins(t, names, "", api.ErrName)
	}
}

func TestOrphansInPaths(t *testing.T) {
	for _, ino := range inos() {
		s, err := plainOrphan(ino)
		if err != api.OK {
			continue
		}
		for _, names := range [][]string{{s}, {s, "a"}, {s, "a", "b"}, {s, "7"}} {
			splits(t, slashed(names), nil, api.ErrName)
			loosens(t, slashed(names), names, api.OK)
			joins(t, names, "", api.ErrName)
			leads(t, slashed(names), nil, false, api.ErrName)
			leads(t, slashed(names)[1:], nil, false, api.ErrName)
		}
		for _, names := range [][]string{{"a", s}, {s, s}, {"a", s, "b"}, {"a", "b", s}} {
			splits(t, slashed(names), nil, api.ErrName)
			loosens(t, slashed(names), nil, api.ErrName)
			joins(t, names, "", api.ErrName)
		}
		for _, p := range []string{s, s + "/a", "/" + s + "/", "/" + s + "//a", "//" + s, "/" + s + "/.", "/" + s + "/..", "/" + s + "x", "/x" + s, "/\x00" + s} {
			loosens(t, p, nil, api.ErrName)
		}
	}
	for _, s := range []string{"\x00", "\x000", "\x0007", "\x00a", "\x00-7", "\x00+7", "\x001099511627777", "\x007\x00", "\x0018446744073709551617"} {
		loosens(t, "/"+s, nil, api.ErrName)
		loosens(t, "/"+s+"/a", nil, api.ErrName)
	}
	deepest := append([]string{"\x007"}, slices.Repeat([]string{"a"}, 31)...)
	loosens(t, slashed(deepest), deepest, api.OK)
	loosens(t, slashed(append(deepest, "a")), nil, api.ErrName)
}

func TestOrphans(t *testing.T) {
	for _, ino := range inos() {
		want, wantErr := plainOrphan(ino)
		if s, err := path.Orphan(ino); s != want || err != wantErr {
			t.Errorf("P12.1: Orphan of %d: %q, %d; %q, %d is asked", ino, s, err, want, wantErr)
		}
	}
	for ino, want := range map[int]string{1: "\x001", 10: "\x0010", mostIno: "\x001099511627776"} {
		if s, err := path.Orphan(ino); s != want || err != api.OK {
			t.Errorf("P12.1: Orphan of %d: %q, %d", ino, s, err)
		}
	}
	for _, ino := range []int{-7, -1, 0, mostIno + 1} {
		if s, err := path.Orphan(ino); s != "" || err != api.ErrArg {
			t.Errorf("P12.1: Orphan of %d: %q, %d", ino, s, err)
		}
	}
}

func TestWhoseOrphansNameItIs(t *testing.T) {
	owned(t, "\x007", 7, true)
	owned(t, "\x001", 1, true)
	owned(t, "\x001099511627776", 1<<40, true)
	owned(t, "\x00999999999999", 999999999999, true)
	for _, s := range []string{"", "\x00", "7", "07", "a", "0", "\x000", "\x0000", "\x0007", "\x0001099511627776", "\x001099511627777", "\x001099511627780", "\x009999999999999", "\x0010000000000000", "\x009223372036854775807", "\x009223372036854775808", "\x0018446744073709551616", "\x0018446744073709551617", "\x00340282366920938463463374607431768211457", "\x00" + strings.Repeat("1", 255), "\x00" + strings.Repeat("1", 100000), "\x00+7", "\x00-7", "\x00-0", "\x00 7", "\x007 ", "\x007\n", "\x00\x007", "\x007\x00", "\x001_0", "\x000x7", "\x007.", "\x007e0", "\x00a", "\x007a", "\x00a7", "\x00\xff", "\x007\xff", "\x00\xd9\xa7", "\x00\xef\xbc\x97", "/7", "\x017", "\x00/7", "/\x007", "1099511627776", "\x00\x00"} {
		owned(t, s, 0, false)
	}
	for b := range 256 {
		c := string([]byte{byte(b)})
		for _, s := range []string{c, c + "7", "\x00" + c, "\x007" + c, "\x00" + c + "7", "\x007" + c + "7"} {
			ino, is := plainOrphanOf(s)
			owned(t, s, ino, is)
		}
	}
}

func TestTargets(t *testing.T) {
	for s, want := range map[string]bool{"": false, "a": true, "/": true, ".": true, "..": true, "//": true, "a/": true, "\xff": true, "\x00": false, "a\x00": false, "\x00a": false, "\x007": false, "a\x00b": false} {
		if got := path.Target(s); got != want {
			t.Errorf("P12.1: Target of %q: %t", s, got)
		}
	}
	for _, fill := range []string{"a", "/", ".", "\xff", "\xc3\xa4"} {
		for size := range 300 {
			s := strings.Repeat(fill, size)
			if got, want := path.Target(s), s != "" && len(s) <= 100; got != want {
				t.Errorf("P12.1: Target of %d bytes: %t", len(s), got)
			}
		}
	}
	a := strings.Repeat("a", 100)
	for at := range 100 {
		if path.Target(a[:at] + "\x00" + a[at+1:]) {
			t.Errorf("P12.1: Target takes a zero at %d", at)
		}
	}
}

func TestWhereTargetsLead(t *testing.T) {
	for _, s := range []string{"a", "..", "../..", "a/..", "../a/..", "a/b/c", ".../..a", "..", "../../a", "\xff/..", "7"} {
		leads(t, s, strings.Split(s, "/"), false, api.OK)
	}
	for _, s := range []string{"", ".", "./a", "a/.", "a/./b", "../.", "a/", "../", "a//b", "..//a", "//", "//a", "/a/", "/..", "/../a", "/a/..", "/.", "/a/./b", "a\x00", "\x007", "/\x007", "../\x007", "/a\x00b", "/" + strings.Repeat("a", 100), strings.Repeat("a", 101)} {
		leads(t, s, nil, false, api.ErrName)
	}
	a := strings.Repeat("a", 99)
	leads(t, "a"+a, []string{"a" + a}, false, api.OK)
	leads(t, "/"+a, []string{a}, true, api.OK)
	leads(t, "../"+a[2:], []string{"..", a[2:]}, false, api.OK)
	leads(t, "../"+a[1:], nil, false, api.ErrName)
}

// anyNames answers, each time, some names, most of them right ones, few or many, short or long.
func anyNames(seed uint64) func() []string {
	next, right, wrong := numbers(seed), rightNames(), wrongNames()
	return func() []string {
		names := make([]string, next()%40)
		if next()%2 == 0 {
			names = names[:len(names)/8]
		}
		for i := range names {
			names[i] = right[next()%uint64(len(right))]
			if next()%64 == 0 {
				names[i] = wrong[next()%uint64(len(wrong))]
			}
			if next()%64 == 0 {
				names[i] = ".."
			}
			if next()%64 == 0 {
				names[i], _ = plainOrphan(int(next()%mostIno) + 1)
			}
		}
		return names
	}
}

func TestAnyPaths(t *testing.T) {
	next := anyNames(12)
	taken, refused := 0, 0
	for range 6000 {
		names := next()
		want, wantErr := plainJoin(names)
		joins(t, names, want, wantErr)
		all(t, slashed(names))
		all(t, strings.Join(names, "/"))
		stops(t)
		if wantErr == api.OK {
			taken++
		} else {
			refused++
		}
	}
	if taken < 1000 || refused < 1000 {
		t.Error("the test itself is wrong: ", taken, refused)
	}
}

func TestThereAndBack(t *testing.T) {
	next := anyNames(13)
	paths, lists := 0, 0
	texts := short("/.a\xff\x00", 6)
	for range 6000 {
		names := next()
		texts = append(texts, slashed(names))
		p, err := path.Join(names...)
		if err != api.OK {
			continue
		}
		lists++
		if got, err := path.Split(p); !slices.Equal(got, names) || err != api.OK {
			t.Errorf("P12.2: %.40q are joined to %.40q, which is split into %.40q, %d", names, p, got, err)
		}
	}
	for _, p := range texts {
		names, err := path.Split(p)
		if err != api.OK {
			continue
		}
		paths++
		if got, err := path.Join(names...); got != p || err != api.OK {
			t.Errorf("P12.2: %.40q is split into %.40q, which are joined to %.40q, %d", p, names, got, err)
		}
	}
	if paths < 1000 || lists < 1000 {
		t.Error("the test itself is wrong: ", paths, lists)
	}
}

func TestOneOrphansNameOfEachNumber(t *testing.T) {
	next := numbers(14)
	list := inos()
	for range 3000 {
		list = append(list, int(next()%mostIno)+1, int(next()%100000)+1)
	}
	of := map[string]int{}
	for _, ino := range list {
		s, err := path.Orphan(ino)
		if err != api.OK {
			continue
		}
		if got, is := path.OrphanOf(s); got != ino || !is {
			t.Errorf("P12.3: %d has the orphan's name %q, which is of %d, %t", ino, s, got, is)
		}
		if path.Name(s) {
			t.Errorf("P12.3: the orphan's name %q is a name", s)
		}
		if was, is := of[s]; is && was != ino {
			t.Errorf("P12.3: %d and %d have the orphan's name %q", was, ino, s)
		}
		of[s] = ino
	}
	if len(of) < 4000 {
		t.Error("the test itself is wrong: ", len(of))
	}
	for _, s := range short("\x000179+", 5) {
		ino, is := path.OrphanOf(s)
		if again, err := path.Orphan(ino); is && (again != s || err != api.OK) {
			t.Errorf("P12.3: %q is of %d, whose orphan's name is %q", s, ino, again)
		}
	}
}

func TestLoosePathsThatArePaths(t *testing.T) {
	next := anyNames(15)
	texts := short("/.a\xff\x007", 6)
	for range 6000 {
		texts = append(texts, slashed(next()))
	}
	taken := 0
	for _, p := range texts {
		names, err := path.Split(p)
		if err != api.OK {
			continue
		}
		taken++
		if got, err := path.Loose(p); !slices.Equal(got, names) || err != api.OK {
			t.Errorf("P12.3: the path %.40q has the names %.40q, but loosely %.40q, %d", p, names, got, err)
		}
	}
	if taken < 1000 {
		t.Error("the test itself is wrong: ", taken)
	}
}

func TestPathsAsTargets(t *testing.T) {
	texts := short("/.a\xff\x00", 6)
	for n := 1; n <= mostDepth; n++ {
		for size := 2 * n; size <= min(130, n*256); size++ {
			texts = append(texts, slashed(sized(size, n)))
		}
	}
	short, long := 0, 0
	for _, p := range texts {
		names, err := path.Split(p)
		if err != api.OK {
			continue
		}
		got, root, gotErr := path.Lead(p)
		switch {
		case len(p) <= 100:
			short++
			if !slices.Equal(got, names) || !root || gotErr != api.OK || !path.Target(p) {
				t.Errorf("P12.4: the path %.40q (%d bytes) leads to %.40q, %t, %d", p, len(p), got, root, gotErr)
			}
		default:
			long++
			if got != nil || root || gotErr != api.ErrName || path.Target(p) {
				t.Errorf("P12.4: the path %.40q (%d bytes) is longer than a target, but leads to %.40q, %t, %d", p, len(p), got, root, gotErr)
			}
		}
	}
	if short < 1000 || long < 500 {
		t.Error("the test itself is wrong: ", short, long)
	}
}
