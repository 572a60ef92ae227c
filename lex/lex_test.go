package lex

import (
	"fmt"
	"slices"
	"strings"
	"testing"

	"mullion/api"
)

// shown writes what Split answers as a line: commands as their group and words, blocks in {}; @ tells a word's line, if that is not 1.
func shown(l []Line, e api.Errno, line int) string {
	if e != api.OK {
		name := map[api.Errno]string{api.ErrForm: "ErrForm", api.ErrLong: "ErrLong", api.ErrMany: "ErrMany"}[e]
		return fmt.Sprint(name, " ", line, strings.Repeat(" and commands", len(l)))
	}
	var out []string
	for _, one := range l {
		words := []string{fmt.Sprint(one.Group)}
		for _, w := range one.Words {
			text := fmt.Sprintf("%q", w.Text)
			if w.Block {
				text = "{" + text + "}"
			}
			if w.Line != 1 {
				text += fmt.Sprint("@", w.Line)
			}
			words = append(words, text)
		}
		out = append(out, strings.Join(words, " "))
	}
	return strings.Join(out, " / ") + strings.Repeat(" and a line", line)
}

type try struct{ text, want string }

func environment(l ...string) []api.Pair {
	var out []api.Pair
	for i := 0; i < len(l); i += 2 {
		out = append(out, api.Pair{Name: l[i], Value: l[i+1]})
	}
	return out
}

func check(t *testing.T, env []api.Pair, l []try) {
	t.Helper()
	for _, c := range l {
		if got := shown(Split(c.text, env)); got != c.want {
			t.Errorf("%.80q:\n%.200s, must be\n%.200s", c.text, got, c.want)
		}
	}
}

func x(n int) string { return strings.Repeat("x", n) }

func TestExamples(t *testing.T) {
	check(t, environment("X", "x", "HOME", "/h"), []try{
		{"a 'b c' \"d\\n$X\" ~/e ; f", `1 "a" "b c" "d\nx" "/h/e" / 1 "f"`},
		{"if { a ; b }", `1 "if" {" a ; b "}`},
		{"a \\\nb # c\n\nd", `1 "a" "b"@2 / 2 "d"@4`},
		{"'x", "ErrForm 1"}, {"}", "ErrForm 1"}, {"${X", "ErrForm 1"}, {"{a}b", "ErrForm 1"},
	})
	for s, want := range map[string]string{"a.b": "a.b", "": "''", "a b": "'a b'", "it's $1": `"it's \$1"`} {
		if got := Quote(s); got != want {
			t.Errorf("%q: %s", s, got)
		}
	}
}

func TestBetweenWords(t *testing.T) {
	check(t, nil, []try{
		{"", ""}, {" ", ""}, {"\t \t", ""}, {"\n", ""}, {"\n\n \n", ""}, {";", ""}, {";;\n;", ""}, {"#", ""}, {"# a b", ""}, {"#\n#\n", ""}, {"\\\n", ""}, {" \\\n\\\n ", ""},
		{"a", `1 "a"`}, {" a\t", `1 "a"`}, {"\ta \t b ", `1 "a" "b"`}, {"a b\tc", `1 "a" "b" "c"`},
		{"a\\\nb", `1 "ab"`}, {"a \\\nb", `1 "a" "b"@2`}, {"a\\\n b", `1 "a" "b"@2`}, {"\\\na", `1 "a"@2`}, {" \\\n \\\n\ta", `1 "a"@3`}, {"a \\\n\\\n\\\nb", `1 "a" "b"@4`}, {"a \\\n;b", `1 "a" / 1 "b"@2`}, {"a \\\n\nb", `1 "a" / 2 "b"@3`}, {"a \\\n#b\nc", `1 "a" / 2 "c"@3`}, {"\\\n}", "ErrForm 2"}, {"\\\n{a}", `1 {"a"}@2`}, {"\\ a", `1 " a"`}, {"\\\\\na", `1 "\\" / 2 "a"@2`}, {" \\a", `1 "a"`},
		{"a\nb", `1 "a" / 2 "b"@2`}, {"a\n\n\nb", `1 "a" / 2 "b"@4`}, {"\n\na\n", `1 "a"@3`}, {"a;b\nc", `1 "a" / 1 "b" / 2 "c"@2`}, {"a\n;\nb", `1 "a" / 2 "b"@3`}, {";\n;a\n;;\n;b;", `1 "a"@2 / 2 "b"@4`}, {"a\n# x\n \t\n\\\n\nb", `1 "a" / 2 "b"@6`}, {"a\nb;c\nd", `1 "a" / 2 "b"@2 / 2 "c"@2 / 3 "d"@3`},
		{"a;b", `1 "a" / 1 "b"`}, {"a ; b", `1 "a" / 1 "b"`}, {";a;;b;", `1 "a" / 1 "b"`}, {"a b;c d", `1 "a" "b" / 1 "c" "d"`},
		{"a # b", `1 "a"`}, {"a #b ; c\nd", `1 "a" / 2 "d"@2`}, {"a;#b\nc", `1 "a" / 2 "c"@2`}, {"# } ' \" ${ \\\na", `1 "a"@2`}, {"a b #", `1 "a" "b"`}, {"#\\\na", `1 "a"@2`}, {"##\n#", ""}, {"#a\r\nb", `1 "b"@2`},
		{"}", "ErrForm 1"}, {"a }", "ErrForm 1"}, {"a\n b }", "ErrForm 2"}, {"a;}", "ErrForm 1"}, {"\n\n  }a", "ErrForm 3"}, {"a\n}\nb", "ErrForm 2"}, {"{}}", "ErrForm 1"}, {"{} }", "ErrForm 1"}, {"{\n}\n}", "ErrForm 3"},
		{"\r", `1 "\r"`}, {"a\r\nb", `1 "a\r" / 2 "b"@2`}, {"\x00 \xff\x80", `1 "\x00" "\xff\x80"`}, {"a\vb\fc\u00a0d", `1 "a\vb\fc\u00a0d"`}, {"é 中", `1 "é" "中"`},
	})
}

func TestPlainBytes(t *testing.T) {
	check(t, nil, []try{
		{"a#b", `1 "a#b"`}, {"a#", `1 "a#"`}, {"a{b", `1 "a{b"`}, {"a}", `1 "a}"`}, {"a{b}c", `1 "a{b}c"`}, {"a{ }", "ErrForm 1"}, {"a{ b", `1 "a{" "b"`}, {"a{;}", "ErrForm 1"}, {"''#", `1 "#"`}, {"''{", `1 "{"`}, {"''}", `1 "}"`}, {"\\#a", `1 "#a"`}, {"\\{a", `1 "{a"`}, {"\\}", `1 "}"`},
		{"a;b", `1 "a" / 1 "b"`}, {"a\\;b", `1 "a;b"`}, {"a\\ b", `1 "a b"`}, {"a\\\tb", `1 "a\tb"`}, {"\\;", `1 ";"`}, {"\\ ", `1 " "`}, {"a\\", "ErrForm 1"}, {"\\", "ErrForm 1"}, {"a\n \\", "ErrForm 2"}, {"a\\\n\\", "ErrForm 1"}, {"\\\n\\", "ErrForm 2"},
		{"\\n\\t\\e\\a", `1 "ntea"`}, {"\\\\", `1 "\\"`}, {"\\'a\\'", `1 "'a'"`}, {"\\\"a", `1 "\"a"`}, {"\\$X", `1 "$X"`}, {"\\${", `1 "${"`}, {"\\~", `1 "~"`}, {"\\\xff\\\x00", `1 "\xff\x00"`}, {"\\é", `1 "é"`},
		{"a\\\n\\\nb\\\n", `1 "ab"`}, {"a\\\n;b", `1 "a" / 1 "b"@2`}, {"a\\\n\nb", `1 "a" / 2 "b"@3`}, {"a\\\n'b'\nc", `1 "ab" / 2 "c"@3`}, {"a\\\n#b", `1 "a#b"`}, {"a\\\n{b}", `1 "a{b}"`}, {"a\\\n}", `1 "a}"`},
		{"=:@%+,-./_!&()*<>?[]^`|", "1 \"=:@%+,-./_!&()*<>?[]^`|\""},
	})
}

func TestSingleQuotes(t *testing.T) {
	check(t, environment("X", "x"), []try{
		{"''", `1 ""`}, {"'' ''", `1 "" ""`}, {"'a'", `1 "a"`}, {"'a b;c#d{e}'", `1 "a b;c#d{e}"`}, {"'a\\nb\\'", `1 "a\\nb\\"`}, {"'\\'", `1 "\\"`}, {"'$X${X}${'", `1 "$X${X}${"`}, {"'\"'", `1 "\""`}, {"'a\nb'c\nd", `1 "a\nbc" / 2 "d"@3`}, {"'\n\n' b", `1 "\n\n" "b"@3`}, {"'~'", `1 "~"`},
		{"a'b'c", `1 "abc"`}, {"'a''b'", `1 "ab"`}, {"'a'\"b\"c", `1 "abc"`}, {"'a' 'b'", `1 "a" "b"`}, {"'a';'b'", `1 "a" / 1 "b"`}, {"'a'#", `1 "a#"`}, {"'\x00\xff\r\t'", `1 "\x00\xff\r\t"`}, {"'a'\\\n'b'", `1 "ab"`}, {"'a\\\nb'", `1 "a\\\nb"`}, {"'a'}", `1 "a}"`},
		{"'", "ErrForm 1"}, {"'a", "ErrForm 1"}, {"'a'b'", "ErrForm 1"}, {"a'", "ErrForm 1"}, {"a\nb\n'c\n\n", "ErrForm 3"}, {"a\\\n'", "ErrForm 1"}, {"'a\n' '\n", "ErrForm 2"}, {"'''", "ErrForm 1"}, {"'\\''", "ErrForm 1"},
	})
}

func TestDoubleQuotes(t *testing.T) {
	check(t, environment("X", "x", "Q", `"\$X'`), []try{
		{`""`, `1 ""`}, {`"" ""`, `1 "" ""`}, {`"a"`, `1 "a"`}, {`"a b;c#d{e}~'"`, `1 "a b;c#d{e}~'"`}, {`a"b"c`, `1 "abc"`}, {`"a""b"`, `1 "ab"`}, {`"a"'b'`, `1 "ab"`}, {"\"a\nb\"c\nd", `1 "a\nbc" / 2 "d"@3`}, {"\"\n\" b", `1 "\n" "b"@2`}, {"\"\x00\xff\r\t\"", `1 "\x00\xff\r\t"`}, {`"~"`, `1 "~"`}, {`"~/"`, `1 "~/"`},
		{`"\n\t\e"`, `1 "\n\t\x1b"`}, {`"\N\T\E\r\a\0\x41"`, `1 "NTEra0x41"`}, {`"\""`, `1 "\""`}, {`"\\"`, `1 "\\"`}, {`"\\\""`, `1 "\\\""`}, {`"\\n"`, `1 "\\n"`}, {`"\'\{\;\ \#"`, `1 "'{; #"`}, {"\"a\\\nb\" c", `1 "ab" "c"@2`}, {"\"\\\n\"", `1 ""`}, {"\"\\\xff\\é\"", `1 "\xffé"`},
		{`"\$X"`, `1 "$X"`}, {`"\${"`, `1 "${"`}, {`"\\$X"`, `1 "\\x"`}, {`"$X"`, `1 "x"`}, {`"a$X."`, `1 "ax."`}, {`"${X}a"`, `1 "xa"`}, {`"$Xa"`, `1 ""`}, {`"$"`, `1 "$"`}, {`"$$"`, `1 "$$"`}, {`"$1$ $'$\n"`, `1 "$1$ $'$\n"`}, {`"$Q"`, `1 "\"\\$X'"`}, {`"$X"$X'$X'`, `1 "xx$X"`}, {"\"$X\\\nX\"", `1 "xX"`},
		{`"`, "ErrForm 1"}, {`"a`, "ErrForm 1"}, {`"a\`, "ErrForm 1"}, {`"a\"`, "ErrForm 1"}, {`"a\\\"`, "ErrForm 1"}, {`a"`, "ErrForm 1"}, {`"a"b"`, "ErrForm 1"}, {`"$`, "ErrForm 1"}, {`"$X`, "ErrForm 1"}, {"a\n\"\n\n", "ErrForm 2"}, {"\"a\n\" \"\n", "ErrForm 2"}, {`"${"`, "ErrForm 1"}, {`"${}"`, "ErrForm 1"}, {`"${1}"`, "ErrForm 1"}, {`"${X"`, "ErrForm 1"}, {`"${X }"`, "ErrForm 1"}, {`"${X\}"`, "ErrForm 1"}, {"a;\"\n${", "ErrForm 1"},
	})
}

func TestNames(t *testing.T) {
	env := environment("X", "old", "_", "under", "a", "1", "X", "x", "X1", "one", "aB_9z", "long", "1", "never", "", "never", "E", "", "S", " a;b\n#'{$X", "Z", "z", "Z", "", "é", "never", "X}", "never")
	check(t, env, []try{
		{"$X", `1 "x"`}, {"${X}", `1 "x"`}, {"a$X", `1 "ax"`}, {"$X.b", `1 "x.b"`}, {"$X$X", `1 "xx"`}, {"${X}X", `1 "xX"`}, {"$X1", `1 "one"`}, {"${X1}", `1 "one"`}, {"${X}1", `1 "x1"`}, {"$_", `1 "under"`}, {"$_a", `1 ""`}, {"$a", `1 "1"`}, {"$A", `1 ""`}, {"$aB_9z", `1 "long"`}, {"$aB_9z-", `1 "long-"`}, {"${aB_9z}0", `1 "long0"`}, {"$X\\1", `1 "x1"`}, {"$X''1", `1 "x1"`}, {"$Xé", `1 "xé"`}, {"$X;$a", `1 "x" / 1 "1"`},
		{"$no", `1 ""`}, {"$no $no", `1 "" ""`}, {"${no}", `1 ""`}, {"a${no}b", `1 "ab"`}, {"$E", `1 ""`}, {"$Z", `1 ""`}, {"$S", `1 " a;b\n#'{$X"`}, {"a $S b", `1 "a" " a;b\n#'{$X" "b"`}, {"$X#", `1 "x#"`}, {"$X{", `1 "x{"`}, {"$X}", `1 "x}"`}, {"${X}}", `1 "x}"`},
		{"$", `1 "$"`}, {"$ a", `1 "$" "a"`}, {"$;a", `1 "$" / 1 "a"`}, {"$\na", `1 "$" / 2 "a"@2`}, {"$$", `1 "$$"`}, {"$$X", `1 "$x"`}, {"$1", `1 "$1"`}, {"$1X", `1 "$1X"`}, {"$é", `1 "$é"`}, {"$-$.$/$#$}", `1 "$-$.$/$#$}"`}, {"$'a'", `1 "$a"`}, {`$"X"`, `1 "$X"`}, {"$\\X", `1 "$X"`}, {"$\\\nX", `1 "$X"`}, {"$@", `1 "$@"`}, {"$[", `1 "$["`}, {"$`", "1 \"$`\""}, {"$^", `1 "$^"`}, {"${_}", `1 "under"`},
		{"${", "ErrForm 1"}, {"${}", "ErrForm 1"}, {"${X", "ErrForm 1"}, {"${1}", "ErrForm 1"}, {"${1X}", "ErrForm 1"}, {"${ X}", "ErrForm 1"}, {"${X }", "ErrForm 1"}, {"${X\n}", "ErrForm 1"}, {"${X;}", "ErrForm 1"}, {"${X-}", "ErrForm 1"}, {"${é}", "ErrForm 1"}, {"${$X}", "ErrForm 1"}, {"${X${X}}", "ErrForm 1"}, {"${'X'}", "ErrForm 1"}, {"a\n\nb${", "ErrForm 3"}, {"a\\\n${", "ErrForm 1"}, {"'\n'$X ${", "ErrForm 2"}, {"$${", "ErrForm 1"}, {"$${X}", `1 "$x"`},
	})
	check(t, nil, []try{{"$X", `1 ""`}, {"a$X${Y}b", `1 "ab"`}, {"~", `1 ""`}, {"$HOME", `1 ""`}})
	for b := range 256 {
		sign := string([]byte{byte(b)})
		letter := strings.Contains("abcdefghijklmnopqrstuvwxyzABCDEFGHIJKLMNOPQRSTUVWXYZ_", sign)
		digit := strings.Contains("0123456789", sign)
		if got := shown(Split("${"+sign+"}", environment(sign, "v"))); got != map[bool]string{true: `1 "v"`, false: "ErrForm 1"}[letter] {
			t.Errorf("${%q}: %s", sign, got)
		}
		if got := shown(Split("${q"+sign+"}", environment("q"+sign, "v"))); (got == `1 "v"`) != (letter || digit) && b != '}' || b == '}' && got != `1 "}"` {
			t.Errorf("${q%q}: %s", sign, got)
		}
		if got := shown(Split("\"$q"+sign+"\"", environment("q"+sign, "v"))); (got == `1 "v"`) != (letter || digit) {
			t.Errorf("\"$q%q\": %s", sign, got)
		}
	}
}

func TestHome(t *testing.T) {
	check(t, environment("HOME", "/old", "HOME", "/h o;me"), []try{
		{"~", `1 "/h o;me"`}, {"~/", `1 "/h o;me/"`}, {"~/a", `1 "/h o;me/a"`}, {"~ a", `1 "/h o;me" "a"`}, {"~\ta", `1 "/h o;me" "a"`}, {"~\na", `1 "/h o;me" / 2 "a"@2`}, {"~;a", `1 "/h o;me" / 1 "a"`}, {"a ~", `1 "a" "/h o;me"`}, {"a;~/b", `1 "a" / 1 "/h o;me/b"`}, {"~/~/~", `1 "/h o;me/~/~"`}, {"\\\n~", `1 "/h o;me"@2`}, {"~/'a b'", `1 "/h o;me/a b"`}, {"~/$HOME", `1 "/h o;me//h o;me"`}, {"~ ~", `1 "/h o;me" "/h o;me"`},
		{"~a", `1 "~a"`}, {"~~", `1 "~~"`}, {"~~/", `1 "~~/"`}, {"a~", `1 "a~"`}, {"a~/", `1 "a~/"`}, {"''~", `1 "~"`}, {"''~/a", `1 "~/a"`}, {"\"\"~", `1 "~"`}, {"\\~", `1 "~"`}, {"'~'/", `1 "~/"`}, {"~''", `1 "~"`}, {"~\"\"", `1 "~"`}, {"~\\\n", `1 "~"`}, {"~\\\n/", `1 "~/"`}, {"~\\/", `1 "~/"`}, {"~#", `1 "~#"`}, {"~{", `1 "~{"`}, {"~}", `1 "~}"`}, {"~$E/", `1 "~/"`}, {"$E~", `1 "~"`}, {"~\r", `1 "~\r"`}, {"~\x00", `1 "~\x00"`}, {"~'", "ErrForm 1"}, {"~/'", "ErrForm 1"}, {"~\\", "ErrForm 1"}, {"~\xc0/", `1 "~\xc0/"`},
	})
	check(t, environment("home", "/h", "HOM", "/h"), []try{{"~", `1 ""`}, {"~/a", `1 "/a"`}, {"~ ~;~", `1 "" "" / 1 ""`}})
}

func TestBlocks(t *testing.T) {
	check(t, environment("X", "x", "HOME", "/h"), []try{
		{"{}", `1 {""}`}, {"{ }", `1 {" "}`}, {"{a}", `1 {"a"}`}, {"{a} {b}", `1 {"a"} {"b"}`}, {"{a};{b}", `1 {"a"} / 1 {"b"}`}, {"{a}\n{b}", `1 {"a"} / 2 {"b"}@2`}, {"{a}\tb", `1 {"a"} "b"`}, {"a{b} {c}d", "ErrForm 1"}, {"a {b;c\nd} e\nf", `1 "a" {"b;c\nd"} "e"@2 / 2 "f"@3`}, {"{a}#", "ErrForm 1"}, {"{a} #", `1 {"a"}`}, {"{\n\n}\n{\n}", `1 {"\n\n"} / 2 {"\n"}@4`},
		{"{$X ${ ~ \\n \\\n# }", "ErrForm 1"}, {"{$X ~ \\n \\\n#}", `1 {"$X ~ \\n \\\n#"}`}, {"{{}}", `1 {"{}"}`}, {"{{a}{b{c}}d}", `1 {"{a}{b{c}}d"}`}, {"{a{b}}", `1 {"a{b}"}`}, {"{${X}}", `1 {"${X}"}`}, {"{${X} }", `1 {"${X} "}`}, {"{#}}", "ErrForm 1"}, {"{#{\n}", "ErrForm 1"}, {"{# it's\n}", "ErrForm 1"},
		{"{'}'}", `1 {"'}'"}`}, {"{'{'}", `1 {"'{'"}`}, {"{a'}'b}", `1 {"a'}'b"}`}, {"{'\\'}", `1 {"'\\'"}`}, {"{'\"'}", `1 {"'\"'"}`}, {"{'\n'}", `1 {"'\n'"}`}, {"{''}", `1 {"''"}`}, {"{'a''}'}", `1 {"'a''}'"}`},
		{`{"}"}`, `1 {"\"}\""}`}, {`{"{"}`, `1 {"\"{\""}`}, {`{"\""}`, `1 {"\"\\\"\""}`}, {`{"\"}"}`, `1 {"\"\\\"}\""}`}, {`{"\\"}`, `1 {"\"\\\\\""}`}, {`{"'"}`, `1 {"\"'\""}`}, {`{"${"}`, `1 {"\"${\""}`}, {"{\"\\\n\"}", `1 {"\"\\\n\""}`},
		{`{\}}`, `1 {"\\}"}`}, {`{\{}`, `1 {"\\{"}`}, {`{\'}`, `1 {"\\'"}`}, {`{\"}`, `1 {"\\\""}`}, {`{\\}`, `1 {"\\\\"}`}, {`{\\\}}`, `1 {"\\\\\\}"}`}, {"{\\\n}", `1 {"\\\n"}`}, {`{\'}'}`, "ErrForm 1"}, {`{\a}`, `1 {"\\a"}`}, {`{\é}`, `1 {"\\é"}`},
		{"{", "ErrForm 1"}, {"{a", "ErrForm 1"}, {"{{}", "ErrForm 1"}, {"{{{}}", "ErrForm 1"}, {"{'}", "ErrForm 1"}, {"{'a'", "ErrForm 1"}, {`{"}`, "ErrForm 1"}, {`{"\"}`, "ErrForm 1"}, {`{"\`, "ErrForm 1"}, {`{"\"`, "ErrForm 1"}, {`{\}`, "ErrForm 1"}, {`{\`, "ErrForm 1"}, {`{'`, "ErrForm 1"}, {`{"`, "ErrForm 1"}, {`{''`, "ErrForm 1"}, {`{""`, "ErrForm 1"}, {"a\n{\n\n", "ErrForm 2"}, {"a;\n{'\n}", "ErrForm 2"},
		{"{}a", "ErrForm 1"}, {"{}{}", "ErrForm 1"}, {"{}''", "ErrForm 1"}, {`{}""`, "ErrForm 1"}, {"{}\\\n", "ErrForm 1"}, {"{}$X", "ErrForm 1"}, {"{}\r", "ErrForm 1"}, {"{}\x00", "ErrForm 1"}, {"\n{\n\n}a", "ErrForm 2"}, {"{\n}}", "ErrForm 1"},
		{"\\{a}", `1 "{a}"`}, {"'{a}'", `1 "{a}"`}, {"''{a}", `1 "{a}"`}, {"{\x00\xff\x80}", `1 {"\x00\xff\x80"}`}, {"{a} \\\n{b}", `1 {"a"} {"b"}@2`},
	})
}

func TestLong(t *testing.T) {
	env := environment("M", x(8192), "L", x(8193), "H", x(4096), "E", "", "HOME", x(8000), "HUGE", x(1<<20))
	for i, c := range []struct {
		text string
		n    int // how long the first word is; 0: too long
	}{
		{x(8192), 8192}, {x(8193), 0}, {"'" + x(8192) + "'", 8192}, {"'" + x(8193) + "'", 0}, {`"` + x(8192) + `"`, 8192}, {`"` + x(8193) + `"`, 0}, {"'" + x(4096) + "'" + `"` + x(4095) + `"x`, 8192}, {"'" + x(4096) + "'" + `"` + x(4095) + `"xx`, 0}, {x(8192) + "''", 8192}, {x(8192) + `""`, 8192}, {x(8192) + "'x'", 0}, {x(8192) + `"x"`, 0},
		{"$M", 8192}, {"${M}", 8192}, {"$L", 0}, {"${L}", 0}, {"$HUGE", 0}, {"$H$H", 8192}, {"$H${H}x", 0}, {"x$H$H", 0}, {"$M$E", 8192}, {"$M$M", 0}, {`"$M"`, 8192}, {`"$L"`, 0}, {`"$H$H"$E`, 8192}, {`"$H$H "`, 0}, {"$M$", 0}, {x(8191) + "$", 8192}, {"'$L'", 2}, {"\\$L", 2},
		{strings.Repeat("\\a", 8192), 8192}, {strings.Repeat("\\a", 8193), 0}, {`"` + strings.Repeat("\\n", 8192) + `"`, 8192}, {`"` + strings.Repeat("\\n", 8193) + `"`, 0}, {strings.Repeat("a\\\n", 8192), 8192}, {strings.Repeat("a\\\n", 8193), 0}, {`"` + strings.Repeat("a\\\n", 8192) + `"`, 8192}, {strings.Repeat("''", 30000) + "a", 1}, {x(8192) + "\\\n", 8192}, {x(8192) + "\\a", 0}, {x(8192) + "\"\\\n\"", 8192},
		{"~/" + x(191), 8192}, {"~/" + x(192), 0}, {strings.Repeat("é", 4096), 8192}, {strings.Repeat("é", 4096) + "a", 0},
		{"{" + x(65534) + "}", 65534}, {"{" + x(8193) + "}", 8193}, {"{" + x(65534) + "} ", 0}, {strings.Repeat("{", 32768) + strings.Repeat("}", 32768), 65534},
	} {
		l, e, line := Split(c.text, env)
		want := api.OK
		if c.n == 0 {
			want = api.ErrLong
		}
		if e != want || line != 0 && len(c.text) > 65536 || line != 1 && e != api.OK && len(c.text) <= 65536 {
			t.Errorf("%d %.40q: %d %d", i, c.text, e, line)
		}
		if e == api.OK && (len(l) != 1 || len(l[0].Words) != 1 || len(l[0].Words[0].Text) != c.n) {
			t.Errorf("%d %.40q: %.80v", i, c.text, l)
		}
	}
	check(t, env, []try{
		{"a\n" + x(8193), "ErrLong 2"}, {"a\n'\n" + x(8193) + "\n'", "ErrLong 2"}, {"a b\\\nc\n\n\td $L", "ErrLong 4"}, {"a\\\n$L", "ErrLong 1"}, {"{\n} $L", "ErrLong 2"}, {"$L $L\n$L", "ErrLong 1"}, {"a $M\n$L", "ErrLong 2"},
		{strings.Repeat("\n", 65536), ""}, {strings.Repeat("\n", 65537), "ErrLong 0"}, {strings.Repeat("}", 65537), "ErrLong 0"}, {strings.Repeat("}", 65536), "ErrForm 1"}, {strings.Repeat("\n", 65535) + "}", "ErrForm 65536"}, {strings.Repeat("\n", 65535) + "a", `1 "a"@65536`}, {strings.Repeat("a ", 32769), "ErrLong 0"}, {"#" + x(65535), ""}, {"#" + x(65536), "ErrLong 0"}, {x(1 << 20), "ErrLong 0"},
	})
}

// commands are so many of one word each.
func commands(n int, between string) string { return strings.Repeat("a"+between, n) }

func TestMany(t *testing.T) {
	for i, c := range []struct {
		text     string
		commands int // 0: too many
		words    int // of the last one
		line     int
	}{
		{strings.Repeat("a ", 256), 1, 256, 0}, {strings.Repeat("a ", 257), 0, 0, 1}, {strings.Repeat("a\\\n ", 257), 0, 0, 257}, {strings.Repeat("{} ", 256), 1, 256, 0}, {strings.Repeat("{} ", 257), 0, 0, 1}, {strings.Repeat("a ", 256) + "{}", 0, 0, 1}, {strings.Repeat("a ", 256) + "''", 0, 0, 1}, {strings.Repeat("a ", 256) + "$no", 0, 0, 1}, {strings.Repeat("a ", 256) + ";" + strings.Repeat("a ", 256), 2, 256, 0}, {strings.Repeat("a ", 256) + "\n;" + strings.Repeat("a ", 257), 0, 0, 2}, {strings.Repeat("a ", 256) + "#" + strings.Repeat("a ", 300), 1, 256, 0}, {strings.Repeat("a ", 256) + "\\\n \\\n\n", 1, 256, 0},
		{commands(1000, ";"), 1000, 1, 0}, {commands(1001, ";"), 0, 0, 1}, {commands(1000, "\n"), 1000, 1, 0}, {commands(1001, "\n"), 0, 0, 1001}, {commands(1000, "\n") + "\n\n\t{}", 0, 0, 1003}, {commands(1000, "\n;\n"), 1000, 1, 0}, {commands(1000, ";") + ";;;\n#a\n\\\n ", 1000, 1, 0}, {commands(999, ";") + strings.Repeat("a ", 256), 1000, 256, 0}, {commands(999, "\n") + strings.Repeat("a ", 257), 0, 0, 1000}, {strings.Repeat("{}\n", 1001), 0, 0, 1001}, {commands(1000, " a a\n"), 1000, 3, 0}, {commands(1000, ";") + "\n''", 0, 0, 2},
	} {
		l, e, line := Split(c.text, nil)
		want := api.OK
		if c.commands == 0 {
			want = api.ErrMany
		}
		if e != want || line != c.line || len(l) != c.commands {
			t.Errorf("%d: %d commands, %d %d", i, len(l), e, line)
		}
		if len(l) > 0 && len(l[len(l)-1].Words) != c.words {
			t.Errorf("%d: %d words", i, len(l[len(l)-1].Words))
		}
	}
	for i, l := range [][]string{{commands(1000, "\n")}, {commands(500, "\n"), commands(500, "\n;\n")}} {
		got, _, _ := Split(strings.Join(l, ""), nil)
		if len(got) != 1000 || got[0].Group != 1 || got[999].Group != 1000 {
			t.Error(i, len(got))
		}
	}
}

// What comes first in a text is told; of one word that there is one too many ahead of all else.
func TestWhatComesFirst(t *testing.T) {
	words, all := strings.Repeat("a ", 256), commands(1000, "\n")
	check(t, environment("L", x(8193), "M", x(8192)), []try{
		{"}\n$L", "ErrForm 1"}, {"$L\n}", "ErrLong 1"}, {"$L }", "ErrLong 1"}, {"} $L", "ErrForm 1"}, {"${ $L", "ErrForm 1"}, {"$L${", "ErrLong 1"}, {"$M${", "ErrForm 1"}, {"${$L", "ErrForm 1"}, {"$M'", "ErrForm 1"}, {"$M'a", "ErrLong 1"}, {"$L'", "ErrLong 1"}, {"$M\\", "ErrForm 1"}, {"$M\"${", "ErrForm 1"}, {"\"$L", "ErrLong 1"}, {"\"$L${\"", "ErrLong 1"}, {"\"${$L\"", "ErrForm 1"}, {x(8192) + "\"", "ErrForm 1"}, {x(8193) + "\"", "ErrLong 1"}, {"\"" + x(8193), "ErrLong 1"}, {"\"" + x(8192), "ErrForm 1"}, {"'" + x(8192), "ErrForm 1"}, {"'" + x(8193), "ErrLong 1"}, {"{" + x(9000), "ErrForm 1"}, {"{" + x(9000) + "}a", "ErrForm 1"}, {"a\n{\n} {\n${", "ErrForm 3"},
		{words + "$L", "ErrMany 1"}, {words + "${", "ErrMany 1"}, {words + "'", "ErrMany 1"}, {words + "{", "ErrMany 1"}, {words + "{}a", "ErrMany 1"}, {words + "\\", "ErrMany 1"}, {words + "}", "ErrForm 1"}, {words + "\n}", "ErrForm 2"}, {words + ";$L", "ErrLong 1"}, {words + "a\n}", "ErrMany 1"}, {"${ " + words + "a", "ErrForm 1"}, {"$L " + words + "a", "ErrLong 1"}, {words + "\\\na", "ErrMany 2"},
		{all + "$L", "ErrMany 1001"}, {all + "${", "ErrMany 1001"}, {all + "\n'", "ErrMany 1002"}, {all + "{", "ErrMany 1001"}, {all + "}", "ErrForm 1001"}, {all + "\n;}", "ErrForm 1002"}, {all + "a\n}", "ErrMany 1001"}, {"}\n" + all + "a", "ErrForm 1"}, {commands(999, "\n") + "a ${", "ErrForm 1000"}, {commands(999, "\n") + "a $L\nb", "ErrLong 1000"},
	})
}

func TestQuote(t *testing.T) {
	for s, want := range map[string]string{
		"a": "a", "aZ09_./:=@%+,-": "aZ09_./:=@%+,-", "-x": "-x", "--": "--", "é": "'é'", " ": "' '", "~": "'~'", "~/a": "'~/a'", "#": "'#'", "a;b": "'a;b'", "{a}": "'{a}'", "$X": "'$X'", "\\": "'\\'", "\"": "'\"'", "a\nb": "'a\nb'", "\x00\xff": "'\x00\xff'",
		"'": `"'"`, "''": `"''"`, `'"\$`: `"'\"\\\$"`, "'\n": "\"'\n\"", "'n~{;#\t": "\"'n~{;#\t\"", "\xff'": "\"\xff'\"", "a b'": `"a b'"`,
	} {
		if got := Quote(s); got != want {
			t.Errorf("%q: %s, must be %s", s, got, want)
		}
	}
	for b := range 256 {
		bare := b >= '0' && b <= '9' || b >= 'a' && b <= 'z' || b >= 'A' && b <= 'Z' || b < 128 && strings.ContainsRune("_./:=@%+,-", rune(b))
		s := string([]byte{byte(b)})
		if got := Quote(s); (got == s) != bare || (got == "'"+s+"'") != (!bare && b != '\'') {
			t.Errorf("%q: %s", s, got)
		}
	}
	for _, c := range []struct {
		l    []string
		want string
	}{
		{nil, ""}, {[]string{}, ""}, {[]string{""}, "''"}, {[]string{"", ""}, "'' ''"}, {[]string{"a"}, "a"}, {[]string{"a", "b c", "it's", "$"}, `a 'b c' "it's" '$'`}, {[]string{" ", "\n"}, "' ' '\n'"},
	} {
		if got := Join(c.l); got != c.want {
			t.Errorf("%q: %s, must be %s", c.l, got, c.want)
		}
	}
}

// Nothing that is handed in is changed or kept, and no two lists of an answer share anything.
func TestOwnMemory(t *testing.T) {
	whole := environment("X", "x", "X", "behind")
	env := whole[:1]
	l, _, _ := Split("a $X;b c;d\ne", env)
	before := shown(l, 0, 0)
	for i := range l {
		l[i].Words = append(l[i].Words, api.Word{Text: "more"})
	}
	for i := range l {
		l[i].Words = l[i].Words[:len(l[i].Words)-1]
	}
	if got := shown(l, 0, 0); got != before || before != `1 "a" "x" / 1 "b" "c" / 1 "d" / 2 "e"@2` {
		t.Error(before, got)
	}
	l[0].Words[0].Text = "changed"
	env[0].Value = "y"
	if got := shown(Split("a $X", env)); got != `1 "a" "y"` || whole[1].Value != "behind" {
		t.Error(got)
	}
	words := []string{"a b", "c", "behind"}
	if Join(words[:2]) != "'a b' c" || !slices.Equal(words, []string{"a b", "c", "behind"}) {
		t.Error(words)
	}
}

// Many names, and many pairs, cost no more than to go over each once.
func TestGreat(t *testing.T) {
	var env []api.Pair
	for i := range 1 << 20 {
		env = append(env, api.Pair{Name: fmt.Sprint("N", i), Value: fmt.Sprint(i)})
	}
	text := strings.Repeat("$N1$N1048575;", 999) + strings.Repeat("$a", 20000)
	l, e, _ := Split(text, env)
	if e != api.OK || len(l) != 1000 || l[0].Words[0].Text != "11048575" || l[999].Words[0].Text != "" {
		t.Error(len(l), e)
	}
	if l, e, _ := Split(strings.Repeat("$M ", 200)+strings.Repeat(";$M", 999), environment("M", x(8192))); e != api.OK || len(l) != 1000 {
		t.Error(len(l), e)
	}
	check(t, nil, []try{{strings.Repeat("{", 65536), "ErrForm 1"}, {strings.Repeat("'", 65535), "ErrForm 1"}, {strings.Repeat("\"", 65535), "ErrForm 1"}, {strings.Repeat("'", 65536), `1 ""`}, {strings.Repeat("\\", 65535), "ErrLong 1"}, {strings.Repeat("${", 32768), "ErrForm 1"}, {"$" + x(65535), `1 ""`}, {"${" + x(65533) + "}", `1 ""`}})
}
