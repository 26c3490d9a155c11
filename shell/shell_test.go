package shell

import (
	"slices"
	"strconv"
	"strings"
	"testing"

	"wavelet/api"
	"wavelet/boxes"
	"wavelet/codec"
	"wavelet/sketch"
)

func TestWords(t *testing.T) { // P2201
	for line, want := range map[string][]string{
		"":                       nil,
		" \t ":                   nil,
		"#":                      nil,
		"  # \" \\":              nil,
		"a":                      {"a"},
		" a\tb  c ":              {"a", "b", "c"},
		"a#b #c":                 {"a#b"},
		"a # b":                  {"a"},
		`a\n\`:                   {`a\n\`},
		"a\x00\xff\r\nb":         {"a\x00\xff\r\nb"},
		`""`:                     {""},
		`"" ""`:                  {"", ""},
		`"a b" c`:                {"a b", "c"},
		"\"a\"\tc":               {"a", "c"},
		`"#" #`:                  {"#"},
		`"\\\"\n\t\x00\xff\x9a"`: {"\\\"\n\t\x00\xff\x9a"},
		"\"\x01\xff\n\t\"":       {"\x01\xff\n\t"},
		`"\\" x`:                 {`\`, "x"},
		`"\\\\"`:                 {`\\`},
	} {
		if got, e := Words(line); e != api.OK || !slices.Equal(got, want) {
			t.Errorf("%q: %q, %v", line, got, e)
		}
	}
	for _, line := range []string{
		`"`, `"a`, `a"`, `a"b`, `a"b"`, `"a"b`, `"a""b"`, `"a"#`, `"\"`, `"\\\"`, `"\`, `"\a"`, `"\X41"`, `"\x4"`, `"\x4g"`, `"\x4G"`, `"\x4A"`, `"\x`, `"\x4`, `"\x41`, `a b "`, `"\N"`, `"\r"`, `"\'"`, `"\ "`, `x "a" "b`, `# "`[2:],
	} {
		if got, e := Words(line); e != api.ErrWord || len(got) != 0 {
			t.Errorf("%q: %q, %v", line, got, e)
		}
	}
	if got, e := Words(`a # "`); e != api.OK || len(got) != 1 {
		t.Errorf("%q, %v", got, e)
	}
}

func TestQuote(t *testing.T) { // P2201
	for s, want := range map[string]string{
		"":                         `""`,
		"a b#":                     `"a b#"`,
		"\\\"\n\t":                 `"\\\"\n\t"`,
		"\x00\x1f ~\x7f\x80\xff\r": `"\x00\x1f ~\x7f\x80\xff\x0d"`,
	} {
		if got := Quote([]byte(s)); got != want {
			t.Errorf("%q: %s", s, got)
		}
	}
	var all []byte
	for i := range 256 {
		all = append(all, byte(i))
	}
	if got, e := Words(Quote(all) + " " + Quote(nil)); e != api.OK || !slices.Equal(got, []string{string(all), ""}) {
		t.Errorf("%q, %v", got, e)
	}
}

// run compares the output of a script with what is wanted, line by line.
func run(t *testing.T, script, want string) {
	t.Helper()
	got := strings.Split(Run(script), "\n")
	for i, line := range strings.Split(want, "\n") {
		if i >= len(got) || got[i] != line {
			t.Errorf("line %d: %q, want %q", i, strings.Join(got, "|"), line)
			return
		}
	}
	if len(got) != len(strings.Split(want, "\n")) {
		t.Errorf("%q, want %q", got, want)
	}
}

func TestExample(t *testing.T) { // P2202
	out := strings.Split(Run("draw 1 1 0 0 1 8 0\nencode \"\"\ndecode 1 0\n"), "\n")
	if len(out) != 4 || out[0] != "ok" || !strings.HasPrefix(out[1], "ok ") || out[2] != "ok 1 224 1" || out[3] != "" {
		t.Errorf("%q", out)
	}
}

func TestLines(t *testing.T) { // P2202
	run(t, "", "")
	run(t, "\n", "\n")
	run(t, "\n\n", "\n\n")
	run(t, " # x\n\t\n", "\n\n")
	run(t, "nothing", "word\n")
	run(t, "nothing\n", "word\n")
	run(t, "\n\"\nx\r", "\nword\nword\n")
	run(t, "\"tiles\"\n\"ti\\x6ces\"", "ok 1\nok 1\n")
	run(t, "Tiles\ntiles 1\n\"\"\ntiles #1\ntiles#1", "word\nword\nword\nok 1\nword\n")
}

func TestFirstState(t *testing.T) { // P2202
	m, _ := sketch.Draw(8, 8, 0, 0, 1, 8, 1)
	p := api.Params{Tx: 64, Ty: 64, Levels: 2, Cbw: 3, Cbh: 3, Prec: 15, Layers: 1}
	b, _ := codec.Encode(m, p, []byte("a b"))
	f, _ := boxes.Wrap(b)
	sum := strconv.Itoa(sketch.Sum(m))
	n, wrapped := strconv.Itoa(len(b)), strconv.Itoa(len(f))
	run(t, "sum\ntiles\npackets\ndecode 1 0\nwalk\nwrap\nopen\nbyte 0 0\ncut 0\ncut 1\n", "ok "+sum+"\nok 1\nok 3\nbad\nbad\nbad\nbox\nnone\nok\narg\n")
	run(t, "encode \"a b\"\ndecode 1 0\ndecode 9 0\nwalk\nwrap\ndecode 1 0\nwalk\nopen\nopen\ndecode 1 0", "ok "+n+"\nok 64 "+sum+" 1\nok 64 "+sum+" 1\nok 8\nok "+wrapped+"\nbad\nbad\nok "+n+"\ncut\nok 64 "+sum+" 1\n")
}

func TestNumbers(t *testing.T) { // P2202
	for s, ok := range map[string]bool{
		"0": true, "-1": true, "5": true, "123456789": true, "-123456789": true, "\"7\"": true,
		"-0": false, "00": false, "01": false, "-01": false, "1234567890": false, "-1234567890": false, "+1": false, "": false, "-": false, "--1": false, "1.": false, "0x1": false, "1-": false, "1e2": false, "1_0": false, "\"\"": false, "\" 1\"": false,
	} {
		want := "arg\n"
		if !ok {
			want = "word\n"
		}
		if s == "0" {
			want = "ok\n"
		}
		run(t, "cut "+s, want)
	}
}

// forms are what stands behind the names of the commands: 1 for each number, x for each word.
var forms = map[string]string{
	"draw": "1 1 1 1 1 1 1", "tile": "1 1", "levels": "1", "block": "1 1", "prec": "1", "style": "1", "order": "1", "layers": "1", "turn": "1", "marks": "1 1",
	"encode": "x", "decode": "1 1", "wrap": "", "open": "", "walk": "", "byte": "1 1", "cut": "1", "tiles": "", "packets": "", "sum": "",
}

func TestForms(t *testing.T) { // P2202
	for name, form := range forms {
		words := append([]string{name}, strings.Fields(form)...)
		if got := Run(strings.Join(words, " ")); got == "word\n" {
			t.Errorf("%q: %q", words, got)
		}
		run(t, strings.Join(append(slices.Clone(words), "1"), " "), "word\n")
		run(t, strings.ToUpper(name)+" "+form, "word\n")
		for i := 1; i < len(words); i++ {
			run(t, strings.Join(slices.Delete(slices.Clone(words), i, i+1), " "), "word\n")
			if words[i] == "x" {
				continue
			}
			for _, number := range []string{"x", "-0", "01", "1234567890", "\"\"", "levels"} {
				wrong := slices.Clone(words)
				wrong[i] = number
				run(t, strings.Join(wrong, " "), "word\n")
			}
		}
	}
	for _, line := range []string{"level 1", "mark 1 1", "encode \"a", "ok", "\"\""} {
		run(t, line, "word\n")
	}
}

func TestCommandsOnOneLine(t *testing.T) { // P2202, P2203
	for _, line := range []string{
		"tile 4 4 levels 1 block 2 2 prec 15 style 0 order 0 layers 1 turn 0 marks 0 0",
		"tile 4 4 levels 1", "levels 1 block 2 2", "prec 1 style 0", "turn 0 marks 0 0", "tile 4 4 4 4", "layers 2 turn 0", "wrap open", "encode x walk",
	} {
		run(t, line+"\ntiles\npackets\ndecode 1 0", "word\nok 1\nok 3\nbad\n")
	}
}

func TestParamsOneByOne(t *testing.T) { // P2202
	first := api.Params{Tx: 64, Ty: 64, Levels: 2, Cbw: 3, Cbh: 3, Prec: 15, Layers: 1}
	all := api.Params{Tx: -1, Ty: -2, Levels: -3, Cbw: -4, Cbh: -5, Prec: -6, Style: -7, Order: -8, Layers: -9, Rct: true, Sop: true, Eph: true}
	for _, begin := range []api.Params{first, all} {
		for line, set := range map[string]func(p *api.Params){
			"tile 8 9":               func(p *api.Params) { p.Tx, p.Ty = 8, 9 },
			"tile 0 -999999999":      func(p *api.Params) { p.Tx, p.Ty = 0, -999999999 },
			"levels 5":               func(p *api.Params) { p.Levels = 5 },
			"levels 0":               func(p *api.Params) { p.Levels = 0 },
			"block 4 5":              func(p *api.Params) { p.Cbw, p.Cbh = 4, 5 },
			"prec 999999999":         func(p *api.Params) { p.Prec = 999999999 },
			"style 63":               func(p *api.Params) { p.Style = 63 },
			"order 4":                func(p *api.Params) { p.Order = 4 },
			"layers 8":               func(p *api.Params) { p.Layers = 8 },
			"turn 1":                 func(p *api.Params) { p.Rct = true },
			"turn -5":                func(p *api.Params) { p.Rct = true },
			"turn 0":                 func(p *api.Params) { p.Rct = false },
			"marks 0 2":              func(p *api.Params) { p.Sop, p.Eph = false, true },
			"marks -1 0":             func(p *api.Params) { p.Sop, p.Eph = true, false },
			"marks 0 0":              func(p *api.Params) { p.Sop, p.Eph = false, false },
			"marks 1 256":            func(p *api.Params) { p.Sop, p.Eph = true, true },
			"layers x":               func(p *api.Params) {},
			"tile 1 x":               func(p *api.Params) {},
			"marks 1 -0":             func(p *api.Params) {},
			"order 3 # layers 4":     func(p *api.Params) { p.Order = 3 },
			" \"order\"\t\"\\x32\" ": func(p *api.Params) { p.Order = 2 },
		} {
			s := newSession()
			s.params = begin
			want := begin
			set(&want)
			if answer(s.commands(), line); s.params != want {
				t.Errorf("%q: %v, want %v", line, s.params, want)
			}
		}
	}
}

func TestParamsAreUsed(t *testing.T) { // P2202
	run(t, "tile 8 8\nlevels 0\nlayers 1\ntiles\npackets\n", "ok\nok\nok\nok 1\nok 1\n")
	for line, e := range map[string]string{
		"levels 6": "arg", "block 7 3": "arg", "prec 0": "arg", "style 64": "arg", "order 5": "arg", "layers 0": "arg", "tile 0 4": "arg", "turn 1": "kind", "tile 1 1": "limit",
	} {
		run(t, "encode x\n"+line+"\nencode x\ntiles\npackets\ndecode 1 0\n", "ok 126\nok\n"+e+"\n"+e+"\n"+e+"\nok 64 519466 1\n")
	}
}

func TestStreamsOfParams(t *testing.T) { // P2202
	m, _ := sketch.Draw(30, 20, 3, 2, 3, 8, 3)
	for i, x := range []struct {
		lines string
		p     api.Params
	}{
		{"tile 16 17\nlevels 3\nblock 4 5\nprec 6\nstyle 42\norder 3\nlayers 7\nturn 1\nmarks 0 0", api.Params{Tx: 16, Ty: 17, Levels: 3, Cbw: 4, Cbh: 5, Prec: 6, Style: 42, Order: 3, Layers: 7, Rct: true}},
		{"marks -5 0\nlayers 1\norder 4\nstyle 21\nprec 1\nblock 2 6\nlevels 0\ntile 60 61", api.Params{Tx: 60, Ty: 61, Cbw: 2, Cbh: 6, Prec: 1, Style: 21, Order: 4, Layers: 1, Sop: true}},
		{"tile 60 61\nlevels 5\nblock 6 2\nstyle 63\norder 1\nlayers 8\nturn -1\nmarks 0 2", api.Params{Tx: 60, Ty: 61, Levels: 5, Cbw: 6, Cbh: 2, Prec: 15, Style: 63, Order: 1, Layers: 8, Rct: true, Eph: true}},
	} {
		b, e := codec.Encode(m, x.p, []byte("\xff"))
		if e != api.OK {
			t.Fatal(e)
		}
		low, _ := codec.Decode(b, 1, x.p.Levels)
		n := 0
		for _, c := range low.Comps {
			n += len(c.Data)
		}
		same := "0"
		if codec.Same(low, m) {
			same = "1"
		}
		oks := strings.Repeat("ok\n", 2+strings.Count(x.lines, "\n"))
		run(t, "draw 30 20 3 2 3 8 3\n"+x.lines+"\nencode \"\\xff\"\ndecode 1 "+strconv.Itoa(x.p.Levels)+"\n", oks+"ok "+strconv.Itoa(len(b))+"\nok "+strconv.Itoa(n)+" "+strconv.Itoa(sketch.Sum(low))+" "+same+"\n")
		if t.Failed() {
			t.Fatalf("lines %d", i)
		}
	}
}

func TestErrorsChangeNothing(t *testing.T) { // P2202, P2203
	m, _ := sketch.Draw(8, 8, 0, 0, 1, 8, 1)
	sum := strconv.Itoa(sketch.Sum(m))
	b, _ := codec.Encode(m, api.Params{Tx: 64, Ty: 64, Levels: 2, Cbw: 3, Cbh: 3, Prec: 15, Layers: 1}, nil)
	n := strconv.Itoa(len(b))
	run(t, "encode \"\"\ndraw 65 1 0 0 1 8 0\nsum\nopen\nencode "+strings.Repeat("x", 1001)+"\nlevels 9\nencode y\ntiles\npackets\nword\ndecode 0 0\ndecode 1 -1\ndecode 1 3\ncut "+n+"\ndecode 1 0",
		"ok "+n+"\narg\nok "+sum+"\ncut\nlong\nok\narg\narg\narg\nword\narg\narg\narg\nok\nok 64 "+sum+" 1\n")
}

func TestBytesAndCuts(t *testing.T) { // P2202
	m, _ := sketch.Draw(8, 8, 0, 0, 1, 8, 1)
	b, _ := codec.Encode(m, api.Params{Tx: 64, Ty: 64, Levels: 2, Cbw: 3, Cbh: 3, Prec: 15, Layers: 1}, nil)
	n := len(b)
	last, over := strconv.Itoa(n-1), strconv.Itoa(n)
	sum := strconv.Itoa(sketch.Sum(m))
	run(t, "encode \"\"\nbyte "+last+" 0\nwalk\nbyte "+last+" 217\nwalk\nbyte "+last+" -1\nwalk\nbyte "+last+" -39\nwalk\nbyte "+last+" 473\ndecode 1 0\nbyte "+over+" 1\nbyte -1 1\ncut "+over+"\ncut "+strconv.Itoa(n+1)+"\ncut -1\ncut "+last+"\nbyte "+last+" 217\ncut "+over+"\nwalk",
		"ok "+over+"\nok\nbad\nok\nok 7\nok\nbad\nok\nok 7\nok\nok 64 "+sum+" 1\nnone\nnone\nok\narg\narg\nok\nnone\narg\nbad\n")
}

func TestAnotherPictureDiffers(t *testing.T) { // P2202
	m, _ := sketch.Draw(8, 8, 0, 0, 1, 8, 1)
	run(t, "encode \"\"\ndraw 8 8 0 0 1 8 0\ndecode 1 0", strings.Split(Run("encode \"\""), "\n")[0]+"\nok\nok 64 "+strconv.Itoa(sketch.Sum(m))+" 0\n")
}

func TestPackets(t *testing.T) { // P2202
	run(t, "draw 64 64 0 0 4 8 3\ntile 32 32\nlevels 5\nlayers 8\ntiles\npackets\ndraw 64 64 0 0 4 8 4\nturn 1\ntiles\npackets", "ok\nok\nok\nok\nok 4\nok 768\nok\nok\nkind\nkind\n")
}

func TestLongScripts(t *testing.T) { // P2202
	run(t, strings.Repeat("\n", 512), strings.Repeat("\n", 512))
	run(t, strings.Repeat("\n", 511)+"tiles", strings.Repeat("\n", 511)+"ok 1\n")
	run(t, strings.Repeat("\n", 512)+"tiles", "long\n")
	run(t, strings.Repeat("\n", 513), "long\n")
	run(t, "#"+strings.Repeat(" ", api.MaxScript-1), "\n")
	run(t, "#"+strings.Repeat(" ", api.MaxScript), "long\n")
}

func TestLongAnswers(t *testing.T) { // P2202
	var done []string
	do := func(line string) string {
		done = append(done, line)
		return line
	}
	lines := []string{"abc", "", "abcd", "x", ""}
	for most, want := range map[int]string{
		0:  "long\nlong\nlong\nlong\nlong\n",
		3:  "long\nlong\nlong\nlong\nlong\n",
		4:  "abc\nlong\nlong\nlong\nlong\n",
		5:  "abc\n\nlong\nlong\nlong\n",
		9:  "abc\n\nlong\nlong\nlong\n",
		10: "abc\n\nabcd\nlong\nlong\n",
		12: "abc\n\nabcd\nx\nlong\n",
		13: "abc\n\nabcd\nx\n\n",
	} {
		done = nil
		if got := answers(lines, most, do); got != want {
			t.Errorf("%d: %q", most, got)
		}
		// The first line that finds no room has been executed, and none behind it.
		if n := 1 + strings.Count(strings.Split(want+"long", "long")[0], "\n"); len(done) != min(n, len(lines)) {
			t.Errorf("%d: %q was executed", most, done)
		}
	}
}

func TestRunsStandAlone(t *testing.T) { // P2202, P3
	first := Run("tiles\nsum\nwalk")
	Run("draw 64 64 0 0 4 16 3\nencode x\ntile 32 32\nlevels 1\nblock 2 2\n")
	if again := Run("tiles\nsum\nwalk"); again != first {
		t.Errorf("%q, %q", first, again)
	}
}

func TestMoreLines(t *testing.T) { // P2203
	lines := []string{"draw 20 20 0 0 3 8 3", "encode a", "", "decode 1 0", "what", "# no", "byte 90 7", "decode 1 1", "wrap", "open", "cut 50", "walk", "sum", "levels 1", "packets", "tile 9 9 levels 2", "layers 4", "packets", "encode b", "walk"}
	whole := strings.Split(Run(strings.Join(lines, "\n")), "\n")
	for i := range lines {
		part := strings.Split(Run(strings.Join(lines[:i+1], "\n")), "\n")
		if part[i] != whole[i] {
			t.Errorf("line %d: %q, %q", i, part[i], whole[i])
		}
	}
	var bare []string
	for _, line := range lines {
		if line != "" && line != "what" && line != "# no" && line != "tile 9 9 levels 2" {
			bare = append(bare, line)
		}
	}
	got := strings.Fields(Run(strings.Join(bare, "\n")))
	want := strings.Fields(strings.ReplaceAll(Run(strings.Join(lines, "\n")), "word", ""))
	if !slices.Equal(got, want) {
		t.Errorf("%q, %q", got, want)
	}
}

func TestFirstParams(t *testing.T) { // P2202
	m, _ := sketch.Draw(64, 64, 0, 0, 1, 8, 3)
	b, _ := codec.Encode(m, api.Params{Tx: 64, Ty: 64, Levels: 2, Cbw: 3, Cbh: 3, Prec: 15, Layers: 1}, nil)
	run(t, "draw 64 64 0 0 1 8 3\nencode \"\"\npackets\ntiles", "ok\nok "+strconv.Itoa(len(b))+"\nok 3\nok 1\n")
}
