package full

import (
	"slices"
	"strconv"
	"strings"
	"testing"

	"sennit/api"
	"sennit/brief"
	"sennit/ed"
	"sennit/every"
	"sennit/flags"
	"sennit/lines"
	"sennit/merge"
	"sennit/pick"
	"sennit/script"
)

const known = "ex3EXA"

func mergedOf(t *testing.T, flag byte, mine, older, yours []string) []string {
	t.Helper()
	l, e := Merged(flag, mine, older, yours)
	if e != api.OK {
		t.Fatalf("%q, of %q, %q, %q: error %d", flag, mine, older, yours, e)
	}
	return l
}

func overlapsOf(t *testing.T, mine, older, yours []string) bool {
	t.Helper()
	is, e := Overlaps(mine, older, yours)
	if e != api.OK {
		t.Fatalf("%q, %q, %q: error %d", mine, older, yours, e)
	}
	return is
}

func checkMerged(t *testing.T, flag byte, mine, older, yours, want []string) {
	t.Helper()
	if got := mergedOf(t, flag, mine, older, yours); !slices.Equal(got, want) {
		t.Fatalf("%q, of %q, %q, %q: %q, want %q", flag, mine, older, yours, got, want)
	}
}

// checkFiles holds what each of the flags makes of files that are written as letters.
func checkFiles(t *testing.T, flags, files, strokes string) {
	t.Helper()
	f := brief.Files(files)
	for _, flag := range []byte(flags) {
		checkMerged(t, flag, f[0], f[1], f[2], brief.Lines(strokes))
	}
}

func checkOverlaps(t *testing.T, mine, older, yours []string, want bool) {
	t.Helper()
	if got := overlapsOf(t, mine, older, yours); got != want {
		t.Fatalf("%q, %q, %q: overlaps %v", mine, older, yours, got)
	}
}

// eachEnded hands over small files that are ended, three by three.
func eachEnded(see func(mine, older, yours []string)) {
	for _, all := range [][][]string{
		brief.Ended("ab", 3),
		brief.Ended("abc.", 2),
		slices.Collect(every.UpTo([]string{".\n", "..\n", ".a\n"}, 2)),
		brief.Files(",.,abcde,xbcde,axcxe,.bc.e,abde,ace,a..e,abcdex,a.bcde"),
	} {
		for files := range every.List(all, 3) {
			see(files[0], files[1], files[2])
		}
	}
}

// eachThree hands over these, and small files that are open, too.
func eachThree(see func(mine, older, yours []string)) {
	eachEnded(see)
	for _, all := range [][][]string{
		brief.All("ab", 2),
		brief.Files(",a~,abc~,abc,xbc~,axc~,abx~,ab~,abcx~,c~"),
	} {
		for files := range every.List(all, 3) {
			see(files[0], files[1], files[2])
		}
	}
}

// chunksByWords is the texts of all chunks, in turn: mine, older and yours of each.
func chunksByWords(t *testing.T, mine, older, yours []string) [][3][]string {
	t.Helper()
	chunks, e := merge.Chunks(older, [][]string{mine, yours})
	if e != api.OK {
		t.Fatalf("%q, %q, %q: error %d", mine, older, yours, e)
	}
	var l [][3][]string
	for _, c := range chunks {
		m, o, y := c.Sides[0], c.Base, c.Sides[1]
		l = append(l, [3][]string{mine[m.From:m.To], older[o.From:o.To], yours[y.From:y.To]})
	}
	return l
}

// mergedByWords is P18.1, word by word.
func mergedByWords(t *testing.T, flag byte, mine, older, yours []string) []string {
	t.Helper()
	var l []string
	for _, c := range chunksByWords(t, mine, older, yours) {
		l = slices.Concat(l, flags.Result(flag, c[0], c[1], c[2]))
	}
	return l
}

// overlapsByWords is P18.2, word by word: by the bytes of two texts, each time.
func overlapsByWords(t *testing.T, mine, older, yours []string) bool {
	t.Helper()
	for _, c := range chunksByWords(t, mine, older, yours) {
		m, o, y := strings.Join(c[0], ""), strings.Join(c[1], ""), strings.Join(c[2], "")
		if m != o && o != y && m != y {
			return true
		}
	}
	return false
}

// P18.1: what is made.

func TestTheExamples(t *testing.T) {
	checkFiles(t, "3", "xmb,amb,amy", "x/m/y/")
	checkFiles(t, "3", "xb,ab,ay", "x/b/")
}

func TestNothingOverlaps(t *testing.T) {
	for _, c := range []struct{ files, taken, mine string }{
		{",,", "", ""},
		{"abc,abc,abc", "a/b/c/", "a/b/c/"},
		{"axc,abc,abc", "a/x/c/", "a/x/c/"},
		{"ac,abc,abc", "a/c/", "a/c/"},
		{"abxc,abc,abc", "a/b/x/c/", "a/b/x/c/"},
		{",abc,abc", "", ""},
		{"abc,,", "a/b/c/", "a/b/c/"},
		{"axc,abc,axc", "a/x/c/", "a/x/c/"},
		{",abc,", "", ""},
		{"abc,,abc", "a/b/c/", "a/b/c/"},
		{"abc,abc,axc", "a/x/c/", "a/b/c/"},
		{"abc,abc,ac", "a/c/", "a/b/c/"},
		{"abc,abc,abxc", "a/b/x/c/", "a/b/c/"},
		{"abc,abc,", "", "a/b/c/"},
		{",,abc", "a/b/c/", ""},
		{"xmb,amb,amy", "x/m/y/", "x/m/b/"},
		{"amy,amb,xmb", "x/m/y/", "a/m/y/"},
		{"mb,amb,am", "m/", "m/b/"},
		{"amb,m,m", "a/m/b/", "a/m/b/"},
		{"am,m,mb", "a/m/b/", "a/m/"},
		{"abxdefz,abcdefz,wbxdyfz", "w/b/x/d/y/f/z/", "a/b/x/d/e/f/z/"},
	} {
		checkFiles(t, "e3EA", c.files, c.taken)
		checkFiles(t, "xX", c.files, c.mine)
	}
}

func TestConflicts(t *testing.T) {
	for _, c := range []struct{ flags, files, want string }{
		{"ex", "a,b,c", "c/"},
		{"3", "a,b,c", "a/"},
		{"EX", "a,b,c", "<<<<<<< MINE/a/=======/c/>>>>>>> YOURS/"},
		{"A", "a,b,c", "<<<<<<< MINE/a/||||||| OLDER/b/=======/c/>>>>>>> YOURS/"},
		{"ex", ",b,c", "c/"},
		{"3", ",b,c", ""},
		{"EX", ",b,c", "<<<<<<< MINE/=======/c/>>>>>>> YOURS/"},
		{"A", ",b,c", "<<<<<<< MINE/||||||| OLDER/b/=======/c/>>>>>>> YOURS/"},
		{"ex", "a,b,", ""},
		{"3", "a,b,", "a/"},
		{"EX", "a,b,", "<<<<<<< MINE/a/=======/>>>>>>> YOURS/"},
		{"A", "a,b,", "<<<<<<< MINE/a/||||||| OLDER/b/=======/>>>>>>> YOURS/"},
		{"EX", "a,,c", "<<<<<<< MINE/a/=======/c/>>>>>>> YOURS/"},
		{"A", "a,,c", "<<<<<<< MINE/a/||||||| OLDER/=======/c/>>>>>>> YOURS/"},
		{"ex", "mxn,mbn,mcn", "m/c/n/"},
		{"3", "mxn,mbn,mcn", "m/x/n/"},
		{"EX", "mxn,mbn,mcn", "m/<<<<<<< MINE/x/=======/c/>>>>>>> YOURS/n/"},
		{"A", "mxn,mbn,mcn", "m/<<<<<<< MINE/x/||||||| OLDER/b/=======/c/>>>>>>> YOURS/n/"},
		{"A", "xym,bm,cdem", "<<<<<<< MINE/x/y/||||||| OLDER/b/=======/c/d/e/>>>>>>> YOURS/m/"},
		{"A", "mx,mbc,m", "m/<<<<<<< MINE/x/||||||| OLDER/b/c/=======/>>>>>>> YOURS/"},
	} {
		checkFiles(t, c.flags, c.files, c.want)
	}
}

// All chunks in turn, each by its kind: one that yours changed, one that mine did, one that both did alike, and two conflicts.
func TestSeveralChunks(t *testing.T) {
	const files = "amxnzopqr,ambncodqe,wmbnzovqy"
	for flag, want := range map[string]string{
		"e": "w/m/x/n/z/o/v/q/y/",
		"x": "a/m/x/n/z/o/v/q/y/",
		"3": "w/m/x/n/z/o/p/q/r/",
		"E": "w/m/x/n/z/o/<<<<<<< MINE/p/=======/v/>>>>>>> YOURS/q/<<<<<<< MINE/r/=======/y/>>>>>>> YOURS/",
		"X": "a/m/x/n/z/o/<<<<<<< MINE/p/=======/v/>>>>>>> YOURS/q/<<<<<<< MINE/r/=======/y/>>>>>>> YOURS/",
		"A": "w/m/x/n/z/o/<<<<<<< MINE/p/||||||| OLDER/d/=======/v/>>>>>>> YOURS/q/<<<<<<< MINE/r/||||||| OLDER/e/=======/y/>>>>>>> YOURS/",
	} {
		checkFiles(t, flag, files, want)
	}
}

// A list that is open is ended between marks, and there alone.
func TestOpenFiles(t *testing.T) {
	for _, c := range []struct{ flags, files, want string }{
		{known, "a~,a~,a~", "a"},
		{known, "ab~,ab,ab", "a/b"},
		{known, "ab~,ab,ab~", "a/b"},
		{known, "xmb~,amb~,amb~", "x/m/b"},
		{"e3EA", "ab,ab,ab~", "a/b"},
		{"xX", "ab,ab,ab~", "a/b/"},
		{"e3EA", "ab~,ab~,ab", "a/b/"},
		{"xX", "ab~,ab~,ab", "a/b"},
		{"e3EA", "xmb,amb,amb~", "x/m/b"},
		{"e3EA", "xmb~,amb~,amy", "x/m/y/"},
		{"e3EA", "ma~,ma~,m", "m/"},
		{"ex", "ma~,mb~,mc~", "m/c"},
		{"3", "ma~,mb~,mc~", "m/a"},
		{"EX", "ma~,mb~,mc~", "m/<<<<<<< MINE/a/=======!/c/>>>>>>>! YOURS/"},
		{"A", "ma~,mb~,mc~", "m/<<<<<<< MINE/a/|||||||! OLDER/b/=======!/c/>>>>>>>! YOURS/"},
		{"A", "a~,b,c~", "<<<<<<< MINE/a/|||||||! OLDER/b/=======/c/>>>>>>>! YOURS/"},
		{"A", "a,b~,c", "<<<<<<< MINE/a/||||||| OLDER/b/=======!/c/>>>>>>> YOURS/"},
		{"A", "ma,ma~,m", "m/<<<<<<< MINE/a/||||||| OLDER/a/=======!/>>>>>>> YOURS/"},
		{"EX", "ma~,ma,m", "m/<<<<<<< MINE/a/=======!/>>>>>>> YOURS/"},
		{"EX", "x,,x~", "<<<<<<< MINE/x/=======/x/>>>>>>>! YOURS/"},
		{"EX", "amx~,bmy,cmy~", "<<<<<<< MINE/a/=======/c/>>>>>>> YOURS/m/<<<<<<< MINE/x/=======!/y/>>>>>>>! YOURS/"},
	} {
		checkFiles(t, c.flags, c.files, c.want)
	}
}

// Texts that look like marks, or commands, or have bytes of any kind, stand as others do.
func TestTextsOfAnyKind(t *testing.T) {
	odd := []string{"<<<<<<< MINE\n", "=======\n", ">>>>>>>! YOURS\n", "||||||| OLDER\n", ".\n", "w\n", "1d\n", "\n", "\x00\xff\r\n", "\u2024"}
	ended := slices.Clone(odd)
	ended[len(ended)-1] += "\n"
	a, b := brief.File("a"), brief.File("b")
	checkMerged(t, 'e', a, a, odd, odd)
	checkMerged(t, 'x', odd, a, a, odd)
	checkMerged(t, 'x', b, odd, a, a)
	checkMerged(t, 'X', odd, a, b, slices.Concat(brief.Lines("<<<<<<< MINE/"), ended, brief.Lines("=======!/b/>>>>>>> YOURS/")))
	checkMerged(t, 'A', a, odd, b, slices.Concat(brief.Lines("<<<<<<< MINE/a/||||||| OLDER/"), ended, brief.Lines("=======!/b/>>>>>>> YOURS/")))
	checkMerged(t, 'E', a, b, odd, slices.Concat(brief.Lines("<<<<<<< MINE/a/=======/"), ended, brief.Lines(">>>>>>>! YOURS/")))
}

func TestMergedIsAsTheWordsSay(t *testing.T) {
	eachThree(func(mine, older, yours []string) {
		for _, flag := range []byte(known) {
			checkMerged(t, flag, mine, older, yours, mergedByWords(t, flag, mine, older, yours))
		}
	})
}

func TestLongFiles(t *testing.T) {
	long := brief.Numbered(api.MaxLines)
	mine, yours := slices.Clone(long), slices.Clone(long)
	both := slices.Clone(long)
	for at := 0; at < len(long); at += 4 {
		mine[at], yours[at+2] = "x\n", "y"+strconv.Itoa(at)+"\n"
		both[at], both[at+2] = mine[at], yours[at+2]
	}
	for _, flag := range []byte("e3EA") {
		checkMerged(t, flag, mine, long, yours, both)
	}
	checkMerged(t, 'x', mine, long, yours, mine)
	checkMerged(t, 'X', mine, long, yours, mine)
	checkOverlaps(t, mine, long, yours, false)

	yours[len(long)-4] = "z\n"
	both[len(long)-4] = "z\n"
	checkOverlaps(t, mine, long, yours, true)
	checkMerged(t, 'e', mine, long, yours, both)
	checkMerged(t, 'A', mine, long, yours, mergedByWords(t, 'A', mine, long, yours))

	checkMerged(t, 'X', long, nil, long[1:], slices.Concat(brief.Lines("<<<<<<< MINE/"), long, brief.Lines("=======/"), long[1:], brief.Lines(">>>>>>> YOURS/")))
	checkOverlaps(t, long, nil, long[1:], true)
	checkMerged(t, 'e', long, long, nil, nil)
	checkMerged(t, '3', nil, nil, long, long)
}

// P18.2.

func TestOverlaps(t *testing.T) {
	for _, c := range []struct {
		files string
		want  bool
	}{
		{",,", false},
		{"abc,abc,abc", false},
		{"axc,abc,abc", false},
		{"abc,abc,axc", false},
		{"axc,abc,axc", false},
		{",abc,", false},
		{"abc,,abc", false},
		{"abc,,", false},
		{",,abc", false},
		{"xmb,amb,amy", false},
		{"xmb,amb,xmy", false},
		{"ab~,ab,ab", false},
		{"ab,ab~,ab", false},
		{"ab~,ab~,ab", false},
		{"a,b,c", true},
		{",b,c", true},
		{"a,b,", true},
		{"a,,c", true},
		{"xb,ab,ay", true},
		{"xmn,amn,ymn", true},
		{"mxn,man,myn", true},
		{"mnx,mna,mny", true},
		{"mn,man,myn", true},
		{"mxn,mn,myn", true},
		{"xmynz,ambnc,xmynw", true},
		{"xmynz,ambnc,wmynz", true},
		{"xmynz,ambnc,xmwnz", true},
		{"amxnc,ambnc,wmbnz", false},
		{"a,a~,b", true},
		{"x,,x~", true},
		{"ma~,ma,m", true},
	} {
		f := brief.Files(c.files)
		checkOverlaps(t, f[0], f[1], f[2], c.want)
	}
}

func TestOverlapsIsAsTheWordsSay(t *testing.T) {
	met := map[bool]int{}
	eachThree(func(mine, older, yours []string) {
		want := overlapsByWords(t, mine, older, yours)
		checkOverlaps(t, mine, older, yours, want)
		checkOverlaps(t, yours, older, mine, overlapsByWords(t, yours, older, mine))
		met[want]++
	})
	if met[true] == 0 || met[false] == 0 {
		t.Errorf("met: %v", met)
	}
}

// P18.1, P18.2: wrong ones.

// checkError holds the error of both calls, of a known flag and of others, and that nothing is told beside it.
func checkError(t *testing.T, mine, older, yours []string, want api.Errno) {
	t.Helper()
	ofFlag := func(flag byte, want api.Errno) {
		if l, e := Merged(flag, mine, older, yours); e != want || e != api.OK && len(l) != 0 {
			t.Errorf("%q: error %d, want %d; %q", flag, e, want, l)
		}
	}
	for _, flag := range []byte(known) {
		ofFlag(flag, want)
	}
	for _, flag := range []byte("?am01\x00\x03\xff") {
		ofFlag(flag, api.ErrArg)
	}
	if is, e := Overlaps(mine, older, yours); e != want || e != api.OK && is {
		t.Errorf("overlaps: error %d, want %d; %v", e, want, is)
	}
}

func TestFlagsThatArentKnown(t *testing.T) {
	a, b, c := brief.File("a"), brief.File("b"), brief.File("c")
	for flag := range 256 {
		want := api.ErrArg
		if strings.Contains(known, string(rune(flag))) {
			want = api.OK
		}
		for _, files := range [][3][]string{{nil, nil, nil}, {a, a, a}, {a, b, c}, {a, a, b}} {
			if l, e := Merged(byte(flag), files[0], files[1], files[2]); e != want || e != api.OK && len(l) != 0 {
				t.Errorf("%q, of %q: error %d, want %d; %q", byte(flag), files, e, want, l)
			}
		}
	}
}

// errorByWords is merge.Chunks' error of three files.
func errorByWords(files [][]string) api.Errno {
	wrong := api.OK
	for _, file := range files {
		switch {
		case !lines.May(file):
			return api.ErrForm
		case len(file) > api.MaxLines:
			wrong = api.ErrLong
		}
	}
	return wrong
}

func TestWrongFiles(t *testing.T) {
	long := brief.Numbered(api.MaxLines + 1)
	for files := range every.List([][]string{
		nil,
		brief.File("a"),
		brief.File("ab~"),
		long[1:],
		long,
		append(slices.Clip(long[1:]), "open"),
		append(slices.Clip(long), ""),
		{""},
		{"a\n", ""},
		{"a", "b\n"},
		{"a\nb\n"},
		{"\n\n"},
	}, 3) {
		if want := errorByWords(files); want != api.OK {
			checkError(t, files[0], files[1], files[2], want)
		}
	}
}

// Open files are no error here, whatever is made of them.
func TestOpenFilesMayBe(t *testing.T) {
	for files := range every.List(brief.Files(",a,a~,ab~,b~"), 3) {
		checkError(t, files[0], files[1], files[2], api.OK)
	}
	long := append(brief.Numbered(api.MaxLines-1), "open")
	checkError(t, long, long, long[1:], api.OK)
}

// P18.3: the commands for three texts that are ended, run on mine, make what is merged.
func TestWhatIsRunIsMerged(t *testing.T) {
	eachEnded(func(mine, older, yours []string) {
		for _, flag := range []byte(known) {
			want := mergedOf(t, flag, mine, older, yours)
			for _, end := range []bool{false, true} {
				commands, e := script.Script(flag, mine, older, yours, end)
				if e != api.OK {
					t.Fatalf("%q, of %q, %q, %q: error %d", flag, mine, older, yours, e)
				}
				got, written, line, e := ed.Run(commands, mine)
				if e != api.OK || line != 0 || written != end || !slices.Equal(got, want) {
					t.Fatalf("%q, of %q, %q, %q: %q, run: error %d at %d, %v, %q, want %q", flag, mine, older, yours, commands, e, line, written, got, want)
				}
			}
		}
	})
}

// P18.4.

func TestItIsLinesThatMayBe(t *testing.T) {
	eachThree(func(mine, older, yours []string) {
		for _, flag := range []byte(known) {
			if got := mergedOf(t, flag, mine, older, yours); !lines.May(got) {
				t.Fatalf("%q, of %q, %q, %q: %q", flag, mine, older, yours, got)
			}
		}
	})
}

func TestWhereNothingOverlaps(t *testing.T) {
	eachThree(func(mine, older, yours []string) {
		if overlapsOf(t, mine, older, yours) {
			return
		}
		l, e := merge.Merge(older, [][]string{mine, yours}, api.How{})
		if e != api.OK || !pick.Clean(l) {
			t.Fatalf("%q, %q, %q: error %d, %s", mine, older, yours, e, brief.ShownPieces(l))
		}
		want := pick.Choose(l, 0)
		for _, flag := range []byte("e3EA") {
			checkMerged(t, flag, mine, older, yours, want)
		}
		for _, flag := range []byte("xX") {
			checkMerged(t, flag, mine, older, yours, mine)
		}
	})
}

// Where something overlaps, it isn't clean.
func TestWhereSomethingOverlaps(t *testing.T) {
	eachThree(func(mine, older, yours []string) {
		l, e := merge.Merge(older, [][]string{mine, yours}, api.How{})
		if e != api.OK || pick.Clean(l) == overlapsOf(t, mine, older, yours) {
			t.Fatalf("%q, %q, %q: error %d, %s", mine, older, yours, e, brief.ShownPieces(l))
		}
	})
}

// What is handed in stays as it is, also where it has room behind its end, and where what is told is written into.
func TestWhatIsHandedInStays(t *testing.T) {
	for _, files := range []string{"a,a,a", "a,a,b", "a,b,c", "a~,b~,c~", "a,a,b~", "b~,a,a", "xmb,amb,amy", "amxnzopqr,ambncodqe,wmbnzovqy", "ma~,mb~,mc~", ",,", ",a~,b"} {
		f := brief.Files(files)
		var alls [3][]string
		for k := range f {
			f[k], alls[k] = brief.Roomy(f[k])
		}
		overlaps := overlapsByWords(t, f[0], f[1], f[2])
		for _, flag := range []byte(known) {
			want := mergedByWords(t, flag, f[0], f[1], f[2])
			first, second := mergedOf(t, flag, f[0], f[1], f[2]), mergedOf(t, flag, f[0], f[1], f[2])
			first = append(first, "!")
			for i := range first {
				first[i] = "!"
			}
			if !slices.Equal(second, want) {
				t.Errorf("%q, of %s: what was told again has become %q", flag, files, second)
			}
			checkMerged(t, flag, f[0], f[1], f[2], want)
			checkOverlaps(t, f[0], f[1], f[2], overlaps)
		}
		for k := range alls {
			if want := append(brief.Files(files)[k], "room"); !slices.Equal(alls[k], want) {
				t.Errorf("%s: what was handed in has become %q", files, alls[k])
			}
		}
	}
}

// Nil and empty are the same.
func TestEmptyLists(t *testing.T) {
	a, b := brief.File("a"), brief.File("b")
	for lists := range every.List([][]string{nil, {}}, 3) {
		for _, flag := range []byte(known) {
			checkMerged(t, flag, lists[0], lists[1], lists[2], nil)
			checkMerged(t, flag, lists[0], a, lists[1], nil)
			checkMerged(t, flag, a, lists[0], lists[1], a)
		}
		checkMerged(t, 'e', lists[0], lists[1], a, a)
		checkMerged(t, 'x', lists[0], lists[1], a, nil)
		checkMerged(t, 'e', a, a, lists[0], nil)
		checkMerged(t, 'A', lists[0], a, b, brief.Lines("<<<<<<< MINE/||||||| OLDER/a/=======/b/>>>>>>> YOURS/"))
		checkOverlaps(t, lists[0], lists[1], lists[2], false)
		checkOverlaps(t, lists[0], a, lists[1], false)
		checkOverlaps(t, a, lists[0], lists[1], false)
		checkOverlaps(t, lists[0], lists[1], a, false)
		checkOverlaps(t, lists[0], a, b, true)
		checkOverlaps(t, a, lists[0], b, true)
		checkOverlaps(t, a, b, lists[0], true)
	}
}
