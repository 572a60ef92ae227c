package format

import (
	"strings"
	"testing"

	"mullion/api"
)

func of(pairs ...string) api.Scope {
	var s api.Scope
	for i := 0; i < len(pairs); i += 2 {
		s.Vars = append(s.Vars, api.Pair{Name: pairs[i], Value: pairs[i+1]})
	}
	return s
}

func over(s api.Scope, kind byte, l ...api.Scope) api.Scope {
	s.Loops = append(s.Loops, api.Loop{Kind: kind, Scopes: l})
	return s
}

// example is the scope of the chapter's examples.
func example() api.Scope {
	s := of("session_name", "s1", "window_index", "3", "x", "a/b.c", "y", "0")
	return over(s, 'W', of("window_name", "one"), of("window_name", "two", "active", "1"))
}

type try struct{ text, want string }

const wrong = "ErrForm" // what a try wants that is refused so

func check(t *testing.T, scope api.Scope, l []try) {
	t.Helper()
	for _, c := range l {
		want, errno := c.want, api.OK
		if want == wrong {
			want, errno = "", api.ErrForm
		}
		if got, e := Expand(c.text, scope); got != want || e != errno {
			t.Errorf("%q: %q %d, must be %q %d", c.text, got, e, want, errno)
		}
		if n, e := Steps(c.text, scope); e != errno || e != api.OK && n != 0 {
			t.Errorf("Steps %q: %d %d", c.text, n, e)
		}
	}
}

func TestExamples(t *testing.T) {
	check(t, example(), []try{
		{"#S:#I #{x} #{nosuch}##", "s1:3 a/b.c #"},
		{"#{?x,yes,no} #{?y,yes,no} #{?#{==:#S,s1},#{x}#,,}", "yes no a/b.c,"},
		{"#{=3:x} #{=-3:x} #{b:x} #{d:x} #{s/b/Q/:x} #{n:x} #{p8:x}|", "a/b b.c b.c a a/Q.c 5 a/b.c   |"},
		{"#{=3;u:x} #{l:#{x}} #{u:#{b:x}}", "A/B #{x} B.C"},
		{"#{W:#W ,[#W] }", "one [two] "},
		{"#{S:#S}", ""},
		{"#{e|+:1,2} #{e|/|f:7,2} #{e|<||0:1,2}", "3 3.50 1"},
		{"#{m:a*[b-d],abc} #{&&:1,0}", "1 0"},
		{"#{x", wrong}, {"#{=x:y}", wrong}, {"#{==:1}", wrong}, {"#{e|?:1,2}", wrong},
	})
}

func TestTexts(t *testing.T) {
	scope := of("session_name", "a", "window_name", "b", "window_index", "c", "pane_index", "d", "window_flags", "e", "pane_title", "f", "pane_id", "g", "host", "h", "b#{c", "odd", "", "none", "#{x}", "twice", "z", "#S")
	check(t, scope, []try{
		{"", ""}, {"plain \x00\xff text, } {", "plain \x00\xff text, } {"},
		{"#S#W#I#P#F#T#D#H", "abcdefgh"}, {"#s#w#i#p#f#t#d#h#A#Z#0# #é", "#s#w#i#p#f#t#d#h#A#Z#0# #é"},
		{"##", "#"}, {"#,", ","}, {"#}", "}"}, {"#", "#"}, {"a#", "a#"}, {"###", "##"}, {"####", "##"}, {"##S", "#S"}, {"###S", "#a"}, {"##{x}", "#{x}"}, {"#:#;#[#]#(#)", "#:#;#[#]#(#)"},
		{"#{z}", "#S"}, {"#{ z}", ""}, {"#{z }", ""}, {"#{Z}", ""}, {"#{}", "none"}, {"#{#{x}}", "twice"}, {"#{b##{c}", ""}, {"#{a,b}", ""},
		{"#{", wrong}, {"a#{b", wrong}, {"#{x}#{", wrong}, {"#{a#{b}", wrong}, {"#{a#}", wrong}, {"#{a##}", ""}, {"#{a###}}", ""}, {"#{a#,}", ""}, {"#{a}}", "}"}, {"}#{z}{", "}#S{"},
		{"#{l:#{}", wrong}, {"#{l:#{}}", "#{}"}, {"#{l:#}}", "#}"}, {"#{l:#}", wrong}, {"#{l:##}", "##"}, {"#{l:###}}", "###}"}, {"#{l:#a}", "#a"}, {"#{l:{}}", "{}"}, {"#{l:a:b,c}", "a:b,c"}, {"#{l:}", ""}, {"#{l:#{#{a}b}c}d", "#{#{a}b}cd"},
		{"#{l#{:}:a}", wrong}, {"#{l#{:}}", ""},
	})
	check(t, api.Scope{}, []try{{"#S#W#I#P#F#T#D#H#{host}#{}|", "|"}, {"#{?,a,b}#{b:}#{n:}#{W:a}", "b0"}})
}

func TestChoices(t *testing.T) {
	check(t, of("x", "1", "y", "0", "e", "", "o", "00", "n", "#{y}", "a:b", "1", "#{==:1,2}", "1", "", "1"), []try{
		{"#{?x,a,b}", "a"}, {"#{?y,a,b}", "b"}, {"#{?e,a,b}", "b"}, {"#{?o,a,b}", "a"}, {"#{?no,a,b}", "b"}, {"#{?1,a,b}", "b"},
		{"#{?x,a}", "a"}, {"#{?y,a}", ""}, {"#{?x}", ""}, {"#{?y}", ""}, {"#{?}", ""}, {"#{?,a,b}", "a"}, {"#{?x,,b}", ""}, {"#{?y,a,b,c#,d,}", "b,c,d,"}, {"#{?x,a,b,c}", "a"},
		{"#{?n,a,b}", "a"}, {"#{?#{n},a,b}", "a"}, {"#{?#{E:n},a,b}", "b"}, {"#{?#{y},a,b}", "b"}, {"#{?#{x},a,b}", "a"}, {"#{?##,a,b}", "a"}, {"#{?#,,a,b}", "a"}, {"#{?0#{no},a,b}", "b"}, {"#{?#{==:1,2},a,b}", "a"}, {"#{?#{==:1,3},a,b}", "b"},
		{"#{?x,#{x}#{y},#{z:}}", "10"}, {"#{?y,#{z:},#{x}}", "1"}, {"#{?x,#{?y,a,b},c}", "b"}, {"#{?x,#{z:},c}", wrong}, {"#{?#{z:},a,b}", wrong},
		{"#{?a:b,c,d}", "c"}, {"#{?x,a:b,c}", "a:b"}, {"#{?==:1,1}", ""}, {"#{??x,a,b}", "b"}, {"#{?x,#},#,}", "}"}, {"#{?y,#},#,}", ","},
	})
}

func TestComparisons(t *testing.T) {
	check(t, of("x", "1", "y", "0", "e", ""), []try{
		{"#{==:a,a}#{==:a,b}#{==:,}#{==:a,}#{==:#{x},1}#{==:x,1}#{==:1,1.0}", "1010100"},
		{"#{!=:a,a}#{!=:a,b}#{!=:,}", "010"},
		{"#{<:a,b}#{<:b,a}#{<:a,a}#{<:10,9}#{<:a,ab}#{<:Z,a}#{<:,a}#{<:\x7f,\x80}#{<:é,\xff}", "100111111"},
		{"#{>:a,b}#{>:b,a}#{>:a,a}#{>:10,9}#{>:ab,a}", "01001"},
		{"#{<=:a,b}#{<=:b,a}#{<=:a,a}", "101"}, {"#{>=:a,b}#{>=:b,a}#{>=:a,a}", "011"},
		{"#{||:1,1}#{||:1,0}#{||:0,1}#{||:0,0}#{||:,}#{||:a,}#{||:#{y},#{x}}#{||:x,y}", "11100111"},
		{"#{&&:1,1}#{&&:1,0}#{&&:0,1}#{&&:0,0}#{&&:,1}#{&&:00,a}#{&&:#{y},#{x}}", "1000010"},
		{"#{m:a*,ab}#{m:ab,a*}#{m:a?,ab}#{m:[ab]#{x},b1}#{m:,}#{m:*,}#{m:a#,*,a#,b}", "1011111"},
		{"#{==:a,a,b}#{==:a,b,a#,b}#{==:a#,b,a#,b}#{==:#}#{e},#}}#{==:#{?x,a,b},a}", "00111"}, {"#{==:b#,c,b,c}", "1"}, {"#{==:a:b,a:b}", "1"},
		{"#{==:}", wrong}, {"#{==:a#,b}", wrong}, {"#{==:#{?x,a,b}}", wrong}, {"#{||:1}", wrong}, {"#{&&:0}", wrong}, {"#{m:a}", wrong}, {"#{<=:#{x}}", wrong},
		{"#{||:1,#{z:}}", wrong}, {"#{&&:0,#{z:}}", wrong}, {"#{==:#{z:},1}", wrong},
		{"#{=:a,a}", wrong}, {"#{===:a,a}", wrong}, {"#{!:a,a}", wrong}, {"#{|:a,a}", wrong}, {"#{&:a,a}", wrong}, {"#{m;b:a,a}", wrong}, {"#{ ==:a,a}", wrong}, {"#{== :a,a}", wrong}, {"#{m/r:a,a}", wrong}, {"#{<>:a,b}", wrong},
		{"#{==}", ""}, {"#{==#{:}}", ""},
	})
}

func TestReckoning(t *testing.T) {
	check(t, of("x", "7", "o", "+"), []try{
		{"#{e|+:1,2} #{e|-:1,2} #{e|*:3,4} #{e|/:7,2} #{e|m:7,4}", "3 -1 12 3 3"},
		{"#{e|==:1,1.2}#{e|!=:1,2}#{e|<:10,9}#{e|>:10,9}#{e|<=:1,1}#{e|>=:1,2}", "110110"},
		{"#{e|+|:1,2} #{e|+||0:1,2} #{e|/||20:7,2} #{e|+|f:1,2} #{e|/|f|0:7,2} #{e|/|f|3:7,2} #{e|/|f|03:7,2} #{e|/|f|12:1,4} #{e|/|f|20:1,8}", "3 3 3 3.00 4 3.500 3.500 0.250000000000 0.12500000000000000000"},
		{"#{e|==|f:nan,nan}#{e|!=|f|9:nan,nan}#{e|<=|f:-0,0}#{e|<|f:1.1,1.2}#{e|<:1.1,1.2}", "01110"},
		{"#{e|/|f:1,0} #{e|/|f:1,-0} #{e|/:1,0} #{e|*|f:0,-1} #{e|m|f:-6,3} #{e|+:nan,1} #{e|-:inf,1}", "inf -inf 9223372036854775807 -0.00 -0.00 1 9223372036854775807"},
		{"#{e|*|f|2:1e308,1e308} #{e|/|f:5e-324,2} #{e|+:1e300,0} #{e|+:2.5,-2.5}", "inf 0.00 9223372036854775807 0"},
		{"#{e|+:#{x},#{e|*:#{x},2}}", "21"}, {"#{e|-:-1,-2}", "1"},
		{"#{e|+:x,1}", wrong}, {"#{e|+:1}", wrong}, {"#{e|+:}", wrong}, {"#{e|+:1,}", wrong}, {"#{e|+:1,2,3}", wrong}, {"#{e|+: 1,2}", wrong}, {"#{e|+:1e,2}", wrong}, {"#{e|+:0x1,2}", wrong}, {"#{e|+:#{z:},2}", wrong},
		{"#{e|%:1,2}", wrong}, {"#{e|:1,2}", wrong}, {"#{e||:1,2}", wrong}, {"#{e|||:1,2}", wrong}, {"#{e:1,2}", wrong}, {"#{e+:1,2}", wrong}, {"#{e|+;b:1,2}", wrong}, {"#{e|#{o}:1,2}", wrong}, {"#{e|add:1,2}", wrong}, {"#{E|+:1,2}", wrong},
		{"#{e|+|g:1,2}", wrong}, {"#{e|+|ff:1,2}", wrong}, {"#{e|+|F:1,2}", wrong}, {"#{e|+|4:1,2}", wrong}, {"#{e|+|f|:1,2}", wrong}, {"#{e|+||:1,2}", wrong}, {"#{e|+|f|123:1,2}", wrong}, {"#{e|+|f|002:1,2}", wrong}, {"#{e|+||000:1,2}", wrong}, {"#{e|+|f|-1:1,2}", wrong}, {"#{e|+|f|1x:1,2}", wrong}, {"#{e|+|f|x:1,2}", wrong}, {"#{e|+|f|1|:1,2}", wrong}, {"#{e|+|f|1|2:1,2}", wrong}, {"#{e|+|f|21:1,2}", wrong}, {"#{e|+||21:1,2}", wrong}, {"#{e|+|f|99:1,2}", wrong}, {"#{e|+|f| 1:1,2}", wrong},
	})
}

func TestLoops(t *testing.T) {
	panes := []api.Scope{of("pane_index", "0"), of("pane_index", "1", "active", "1")}
	one := over(of("window_name", "one", "w", "in", "active", "0"), 'P', panes...)
	two := over(of("window_name", "two", "active", "1"), 'P')
	three := of("window_name", "three", "active", "")
	scope := of("session_name", "s", "w", "out", "active", "1", "wide", "#{W:#W}")
	scope = over(over(over(scope, 'W', one, two, three), 'W', of("window_name", "never")), 'P', of("pane_index", "9"), of())
	scope = over(scope, 'X', of())
	check(t, scope, []try{
		{"#{W:#W}", "onetwothree"}, {"#{W:#W,}", "onethree"}, {"#{W:,#W}", "two"}, {"#{W:#W#,,<#W,>}", "one,<two,>three,"}, {"#{W:}", ""}, {"#{W:.}", "..."}, {"#{W:.,!}", ".!."},
		{"#{W:#{w} }", "in out out "}, {"#{W:#S}", "sss"}, {"#{W:#{active}.}", "0.1.."},
		{"#{W:#W(#{P:#P.}) }", "one(0.1.) two() three(9..) "}, {"#{W:#{P:#P,[#P#W]}}", "0[1one]9"}, {"#{P:#P.}#{P:a,b}", "9..aa"},
		{"#{S:#S,a}", ""}, {"#{X:a}", wrong}, {"#{S:#{z:}}", ""}, {"#{W:#{z:}}", wrong}, {"#{W:a,#{z:}}", wrong}, {"#{W:#{?#{==:#W,two},#{z:},}}", wrong},
		{"#{W}#{P}#{S}", ""}, {"#{W;b:#W}", wrong}, {"#{w:#{W:#W}}", "11"}, {"#{E:wide}", "onetwothree"}, {"#{W:#{W:#W}.}", "onetwothree.onetwothree.onetwothree."}, {"#{W:#{l:#W}}", "#W#W#W"}, {"#W", ""},
	})
	// What is active is told by the first pair of a scope's own, as any value is.
	check(t, over(of(), 'S', of("active", "1", "active", "0"), of("active", "0", "active", "1"), of("Active", "1")), []try{{"#{S:a,b}", "baa"}})
	// The first loop of a kind holds, even if there is nothing in it.
	check(t, over(over(of(), 'W'), 'W', of()), []try{{"#{W:a}", ""}})
	check(t, over(over(of(), 'W', over(of(), 'W')), 'S', of()), []try{{"#{W:a#{W:b}#{S:c}}", "ac"}})
	// Of two pairs the first one holds; a value further out is behind all that are further in.
	check(t, over(of("a", "1", "a", "2", "b", "out"), 'W', of("b", "", "c", "3", "b", "4")), []try{{"#{a}", "1"}, {"#{W:#{a}#{b}#{c}}#{b}#{c}", "13out"}})
}

func TestModifiers(t *testing.T) {
	check(t, of("x", "a/b.c", "y", "a中é\u0301", "e", "", "deep", "/r", "root", "/", "slash", "a//", "bad", "\xffz", "t", "#{x}", "h", "a#{b}", "b/", "q", "low", "azAZ`{é\xff"), []try{
		{"#{=0:x}|#{=1:x}|#{=5:x}|#{=999:x}|#{=001:x}", "|a|a/b.c|a/b.c|a"}, {"#{=-0:x}|#{=-1:x}|#{=-5:x}|#{=-999:x}", "|c|a/b.c|a/b.c"},
		{"#{=2:y}|#{=3:y}|#{=-1:y}|#{=-2:y}|#{=-3:y}", "a|a中|é\u0301|é\u0301|中é\u0301"}, {"#{=1:bad}|#{=0:#{l:\u0301}}", "\ufffd|\u0301"},
		{"#{p7:x}|#{p-7:x}|#{p5:x}|#{p-5:x}|#{p0:x}|#{p-0:x}|#{p3:x}|#{p006:x}|", "a/b.c  |  a/b.c|a/b.c|a/b.c|a/b.c|a/b.c|a/b.c|a/b.c |"}, {"#{p6:y}|#{p-6:y}|#{p2:e}|#{p3:bad}|", "a中é\u0301  |  a中é\u0301|  |\xffz |"},
		{"#{b:x}|#{b:deep}|#{b:root}|#{b:slash}|#{b:e}|#{b:y}", "b.c|r||||a中é\u0301"}, {"#{d:x}|#{d:deep}|#{d:root}|#{d:slash}|#{d:e}|#{d:y}", "a|/|/|a/|.|."},
		{"#{n:x}#{n:y}#{n:e}#{n:bad}", "5802"}, {"#{w:x}#{w:y}#{w:e}#{w:bad}", "5402"}, {"#{u:low}", "AZAZ`{é\xff"},
		{"#{s/b/Q/:x}|#{s/b//:x}|#{s,/,--,:x}|#{s/a/aa/:#{l:aaa}}|#{s/aa/b/:#{l:aaaaa}}|#{s/z/b/:x}|#{s|/b|#|:x}", "a/Q.c|a/.c|a--b.c|aaaaaa|bba|a/b.c|a#.c"},
		{"#{s:b:Q::x}|#{s;b;Q;:x}|#{ssbsQs:x}|#{s;b;Q;;u:x}|#{s:.:-:;b:x}|#{s\xff.\xff-\xff:x}|#{s/\xff/y/:bad}|#{s#a#c#:x}", "a/Q.c|a/Q.c|a/Q.c|A/Q.C|b-c|a/b-c|yz|c/b.c"},
		{"#{s/:/x/:x}|#{s/b/:/:x}|#{s/b/,/:x}|#{s/#{a}/b/:x}|#{s/./#{x}/:x}|#{s,#{:,.,:h}|#{s/#{b}/:/:h}", wrong},
		{"#{s/:/x/:x}|#{s/b/:/:x}|#{s/b/,/:x}|#{s/#{a}/b/:x}|#{s/./#{x}/:x}|#{s/#{b}/:/:h}", "a/b.c|a/:.c|a/,.c|a/b.c|a/b#{x}c|a:"},
		{"#{=3;u:x}|#{u;=3:x}|#{n;p3:x}|#{p3;n:e}|#{b;d:x}|#{d;b:x}|#{=3;=-1:x}|#{=-1;=3:x}|#{s/a/b/;s/b/c/:x}|#{b;b;b:x}|#{n;n:low}", "A/B|A/B|5  |3|.|a|b|c|c/c.c|b.c|1"}, {"#{n;n:low}", "1"},
		{"#{b:a/b}|#{b:b/}|#{b:#{x}}|#{b:z#{x}}|#{b:##/#}}|#{n:#a}|#{n:z}|#{n:##}|#{n:t}|#{b:h}", "|q|b.c|b.c|}|2|0|1|4|a#{b}"}, {"#{b:#x/#S}", ""},
		{"#{l:x}|#{l;u:x#{y}}|#{u;l:x}|#{=2;l:#{x}}|#{l;l:a}|#{l;n:}", "x|X#{Y}|X|#{|a|0"},
		{"#{E:t}|#{t}|#{E:x}|#{E:no}|#{E:h}|#{E;u:t}|#{u;E:t}|#{E;E:t}|#{l;E:#{t}}|#{E;l:#{x}}|#{E:#{t}}|#{E:#{l:##}}|#{E:##{x#}}|#{E:#{l:####}}", "a/b.c|#{x}|a/b.c||a|A/B.C|A/B.C|a/b.c|#{x}|a/b.c|a/b.c|#|a/b.c|##"},
	})
	scope := of("x", "1")
	for _, head := range []string{"", ";", "b;", ";b", "b;;d", "=", "=-", "=x", "=1234", "=--1", "=+1", "=1x", "= 1", "p", "p-", "px", "p1234", "p3-", "bb", "b ", " b", "x", "B", "L", "s", "s/", "s/a", "s/a/", "s/a/b", "s//b/", "s/a/b/c", "s/a/b/;", "l;", "E;x", "q", "=3,u", "a", "t", "0", "\xff", "n;w;x", "e", "ss", "sss"} {
		check(t, scope, []try{{"#{" + head + ":x}", wrong}})
	}
}

// nested is a text of so many expressions within one another.
func nested(deep int) string {
	return strings.Repeat("#{?", deep-1) + "#{x}" + strings.Repeat(",a,b}", deep-1)
}

func told(t *testing.T, text string, scope api.Scope, want string, errno api.Errno) {
	t.Helper()
	if got, e := Expand(text, scope); got != want || e != errno {
		t.Errorf("%.60q: %.60q (%d) %d, must be %.60q (%d) %d", text, got, len(got), e, want, len(want), errno)
	}
	if n, e := Steps(text, scope); e != errno || e != api.OK && n != 0 {
		t.Errorf("Steps %.60q: %d %d", text, n, e)
	}
}

func TestDeep(t *testing.T) {
	// t15 has 15 expressions within one another, with `#{E:t15}` 16.
	scope := of("x", "1", "plain", "p", "e", "#{E:e}", "t15", nested(15), "t16", nested(16))
	scope = over(scope, 'W', of())
	told(t, nested(16), scope, "a", api.OK)
	told(t, nested(17), scope, "", api.ErrDeep)
	told(t, nested(16)+nested(16), scope, "aa", api.OK)
	told(t, strings.Repeat("#{l:", 16)+strings.Repeat("}", 16), scope, strings.Repeat("#{l:", 15)+strings.Repeat("}", 15), api.OK)
	told(t, strings.Repeat("#{l:", 4000/5)+strings.Repeat("}", 4000/5), scope, strings.Repeat("#{l:", 799)+strings.Repeat("}", 799), api.OK)
	told(t, "#{E:t15}", scope, "a", api.OK)
	told(t, "#{E:t16}", scope, "", api.ErrDeep)
	told(t, "#{E:e}", scope, "", api.ErrDeep)
	told(t, "#{e}", scope, "#{E:e}", api.OK)
	// Within 15 expressions E is done, and makes what is plain; within 16 (its own is one) it is not.
	within := func(s string, deep int) string { return strings.Repeat("#{u:", deep) + s + strings.Repeat("}", deep) }
	told(t, within("#{E:plain}", 14), scope, "P", api.OK)
	told(t, within("#{E:plain}", 15), scope, "", api.ErrDeep)
	told(t, within("#{b:plain}", 15), scope, "P", api.OK)
	told(t, within("#{l;E:}", 15), scope, "", api.ErrDeep)
	told(t, within("#{l;E:##{}", 15), of(), "", api.ErrDeep)
	told(t, within("#{E:open}", 15), of("open", "#{"), "", api.ErrDeep)
	told(t, within("#{E:open}", 14), of("open", "#{"), "", api.ErrForm)
	told(t, within("#{E:#{plain}}", 14), scope, "P", api.OK)
	told(t, within("#{E:#{b:#{plain}}}", 14), scope, "", api.ErrDeep)
	// Each kind of piece is within its expression.
	for _, one := range []string{"#{==:%,a}", "#{==:a,%}", "#{||:1,%}", "#{m:%,a}", "#{e|+:%,1}", "#{e|+:1,%}", "#{W:%}", "#{?x,%,}", "#{?y,,%}", "#{?%,,}", "#{b:%}", "#{E:%}", "#{l;E:%}"} {
		if got, e := Expand(strings.ReplaceAll(one, "%", within("#{x}", 14)), scope); e != api.OK {
			t.Errorf("%s: %q %d", one, got, e)
		}
		told(t, strings.ReplaceAll(one, "%", within("#{x}", 15)), scope, "", api.ErrDeep)
	}
	told(t, within("#S#I##", 16), scope, "#", api.OK) // letters are no expressions
	told(t, within("#{z:}", 16), scope, "", api.ErrDeep)
	told(t, within("#{z:}", 15), scope, "", api.ErrForm)
	told(t, "#{z:}"+nested(17), scope, "", api.ErrForm)
	told(t, nested(17)+"#{z:}", scope, "", api.ErrDeep)
	told(t, nested(17)+"#{", scope, "", api.ErrDeep)
	told(t, "#{"+nested(17), scope, "", api.ErrForm)
	told(t, "#{==:"+nested(16)+"}", scope, "", api.ErrForm)
	told(t, "#{q:"+nested(16)+"}", scope, "", api.ErrForm)
	told(t, "#{e|?:"+nested(16)+",1}", scope, "", api.ErrForm)
	told(t, "#{e|+|f|99:"+nested(16)+",1}", scope, "", api.ErrDeep)
	told(t, "#{e|+:x,"+nested(16)+"}", scope, "", api.ErrDeep)
	told(t, "#{?x,a,"+nested(17)+"}", scope, "a", api.OK)
	told(t, "#{S:"+nested(17)+"}", scope, "", api.OK)
}

// many is a scope with a loop W over so many, S over 100 and P over 10000 empty scopes.
func many(n int) api.Scope {
	s := over(of("x", "1"), 'W', make([]api.Scope, n)...)
	return over(over(s, 'S', make([]api.Scope, 100)...), 'P', make([]api.Scope, 10000)...)
}

func TestSteps(t *testing.T) {
	for i, c := range []struct {
		text  string
		n     int
		errno api.Errno
	}{
		{"", 0, 0}, {"plain #S ## #,", 0, 0}, {"#{x}", 1, 0}, {"#{no}#{x}", 2, 0}, {"#{}", 1, 0}, {"#{l:#{x}}", 1, 0}, {"#{E;l:#{x}}", 2, 0}, {"#{b:#{x}}", 2, 0}, {"#{b:x}", 1, 0}, {"#{?x,#{a},#{b}#{c}}", 2, 0}, {"#{?y,#{a},#{b}#{c}}", 3, 0}, {"#{?#{x},,}", 2, 0}, {"#{==:#{a},#{b}}", 3, 0}, {"#{&&:0,#{a}}", 2, 0}, {"#{e|+:#{x},#{x}}", 3, 0},
		{"#{W:}", 4, 0}, {"#{W:#S}", 4, 0}, {"#{W:#{x}}", 7, 0}, {"#{W:#{x},#{x}#{x}}", 7, 0}, {"#{W:#{W:}}", 16, 0}, {"#{S:}", 101, 0}, {"#{S:#{S:}}", 0, api.ErrMany}, {"#{S:#{W:}}", 501, 0}, {"#{X:}", 0, api.ErrForm}, {"#{P:}", 0, api.ErrMany},
	} {
		if n, e := Steps(c.text, many(3)); n != c.n || e != c.errno {
			t.Errorf("%d %s: %d %d, must be %d %d", i, c.text, n, e, c.n, c.errno)
		}
	}
	for i, c := range []struct {
		text string
		over int // so many scopes
		n    int
	}{{"#{W:}", 9999, 10000}, {"#{W:}", 10000, 0}, {"#{W:}#{x}", 9998, 10000}, {"#{W:}#{x}", 9999, 0}, {"#{x}#{W:}", 9999, 0}, {"#{W:}#S", 9999, 10000}, {"#{W:#{y}}", 4999, 9999}, {"#{W:#{y}}#{y}", 4999, 10000}, {"#{W:#{y}}", 5000, 0}, {"#{W:#{y}}#{y}#{y}", 4999, 0}} {
		want := api.OK
		if c.n == 0 {
			want = api.ErrMany
		}
		n, e := Steps(c.text, many(c.over))
		s, e2 := Expand(c.text, many(c.over))
		if n != c.n || e != want || e2 != want || s != strings.Repeat("1", strings.Count(c.text, "x"))[:len(s)] {
			t.Errorf("%d %s: %d %d %d %q, must be %d %d", i, c.text, n, e, e2, s, c.n, want)
		}
	}
	told(t, "#{P:}#{", many(0), "", api.ErrMany)
	told(t, "#{q:}#{P:}", many(0), "", api.ErrForm)
	// The 10001st that is the 17th is too deep first.
	deep := strings.Repeat("#{b:", 16)
	told(t, "#{W:}"+deep+"#{x}"+strings.Repeat("}", 16), many(9983), "", api.ErrDeep)
	told(t, "#{W:}"+deep+"#{x}"+strings.Repeat("}", 16), many(9984), "", api.ErrMany)
	told(t, "#{E:r}", of("r", "#{E:r}#{E:r}"), "", api.ErrDeep)
	told(t, "#{W:#{E:a}}", over(of("a", "#{S:#{E:b}}", "b", strings.Repeat("#{x}", 50)), 'W', make([]api.Scope, 2)...), "", api.OK)
}

func TestLong(t *testing.T) {
	x := func(n int) string { return strings.Repeat("x", n) }
	scope := of("half", x(4096), "most", x(8192), "long", x(8193), "wide", strings.Repeat("\u0301", 4096), "bad", strings.Repeat("\xff", 2731), "slashes", strings.Repeat("/", 8192), "host", x(8193), "session_name", x(8192), "tail", "a/"+x(8191), "twice", "#{half}#{half}", "more", "#{half}#{half}y", "y", "0", "fit", strings.Repeat("\u0301", 4000))
	scope = over(over(scope, 'W', of(), of("active", "1"), of()), 'S', of("active", x(8193)))
	told(t, x(8192), scope, x(8192), api.OK)
	told(t, x(8193), scope, "", api.ErrLong)
	told(t, "#{"+x(8191), scope, "", api.ErrLong)
	told(t, "#{"+x(8190), scope, "", api.ErrForm)
	told(t, strings.Repeat("##", 4096), scope, strings.Repeat("#", 4096), api.OK)
	told(t, strings.Repeat("##", 4097), scope, "", api.ErrLong)
	for _, c := range []struct {
		text string
		n    int // how long it is; 0: too long
	}{
		{"#{half}#{half}", 8192}, {"#{half}#{half}y", 0}, {"y#{half}#{half}", 0}, {"#{most}", 8192}, {"#{most}##", 0}, {"#{most}#{no}", 8192}, {"#{long}", 0}, {"#S", 8192}, {"#H", 0}, {"##H", 2}, {"#S#S", 0}, {"#{l:#H}", 2},
		{"#{?long,a,b}", 0}, {"#{?most,a,b}", 1}, {"#{?y,#{long},b}", 1}, {"#{?#{most}y,a,b}", 0}, {"#{?#{half}#{half},a,b}", 1}, {"#{?most,#{most},}", 8192}, {"#{?most,#{most}y,}", 0},
		{"#{==:#{most},#{most}}", 1}, {"#{==:#{most}y,#{most}}", 0}, {"#{==:#{most},y#{most}}", 0}, {"#{==:#{long},}", 0},
		{"#{n:most}", 4}, {"#{n:long}", 0}, {"#{=1:long}", 0}, {"#{n:#{most}y}", 0}, {"#{n:#{most}#{most}}", 0}, {"#{b:tail}", 0}, {"#{l:long}", 4},
		{"#{p999:wide}", 0}, {"#{p9:#{=0:wide}}", 0}, {"#{p192:fit}", 8192}, {"#{p193:fit}", 0}, {"#{p-192:fit}", 8192}, {"#{p-193:fit}", 0}, {"#{p193;n:fit}", 0}, {"#{p999:most}", 8192},
		{"#{=999:bad}", 2997}, {"#{s|\xff|\u2028|:bad}", 0}, {"#{s|\xff|\u2028|;=1:bad}", 0}, {"#{s|x|yy|:half}", 8192}, {"#{s|x|yyy|:half}", 0}, {"#{s|x|yy|:most}", 0}, {"#{s|xx|y|:most}", 4096}, {"#{s|y|" + x(8000) + "|:half}", 4096},
		{"#{E:twice}", 8192}, {"#{E:more}", 0}, {"#{E:half}", 4096}, {"#{u:#{twice}}", 14}, {"#{E;n:more}", 0},
		{"#{W:#{half},}", 8192}, {"#{W:#{half}}", 0}, {"#{W:#{most}}", 0}, {"#{W:#{long}}", 0}, {"#{W:,#{most}}", 8192}, {"#{W:,#{most}}y", 0}, {"y#{W:,#{most}}", 0}, {"#{n:#{W:#{half}}}", 0},
		{"#{S:a}", 1}, {"#{S:a,b}", 0}, {"#{S:#{=1:active}}", 0},
	} {
		got, e := Expand(c.text, scope)
		n, e2 := Steps(c.text, scope)
		if c.n == 0 && (got != "" || n != 0 || e != api.ErrLong || e2 != e) || c.n > 0 && (len(got) != c.n || e != api.OK || e2 != e) {
			t.Errorf("%.40s: %.20q (%d) %d %d %d, must be %d", c.text, got, len(got), n, e, e2, c.n)
		}
	}
	// What is wrong first is told.
	told(t, "#{long}#{", scope, "", api.ErrLong)
	told(t, "#{z:}#{long}", scope, "", api.ErrForm)
	told(t, "#{most}#{most}#{", scope, "", api.ErrLong)
	told(t, "#{most}#{z:}", scope, "", api.ErrForm)
	told(t, "#{==:#{z:},#{long}}", scope, "", api.ErrForm)
	told(t, "#{==:#{long},#{z:}}", scope, "", api.ErrLong)
	told(t, "#{e|+:#{long},x}", scope, "", api.ErrLong)
	told(t, "#{e|+:x,#{long}}", scope, "", api.ErrLong)
	told(t, "#{==:#{long}}", scope, "", api.ErrForm)
	told(t, "#{q:long}", scope, "", api.ErrForm)
	told(t, "#{b;q:long}", scope, "", api.ErrForm)
	told(t, "#{W:#{?#{no},,#{half}}#{?active,,}}#{", scope, "", api.ErrLong)
	// A loop is too long as soon as it is, whatever would come behind.
	late := over(of("half", x(5000)), 'W', of("v", "1"), of("v", "2"), of("v", "#{"))
	told(t, "#{W:#{half}#{E:v}}", late, "", api.ErrLong)
	told(t, "#{S:#{W:x}}", many(100), "", api.ErrLong)
	told(t, "#{S:#{W:}#{W:}}", many(100), "", api.ErrMany)
}

func TestTrue(t *testing.T) {
	for s, want := range map[string]bool{"": false, "0": false, "1": true, "00": true, " ": true, "-0": true, "0.0": true, "no": true, "false": true, "\x00": true, "0 ": true} {
		if True(s) != want {
			t.Errorf("%q", s)
		}
	}
}

func TestMatch(t *testing.T) {
	for _, c := range []struct{ pattern, means, not string }{ // texts with a blank between; ~ is the empty one
		{"", "~", "a"}, {"a", "a", "~ b aa A"}, {"abc", "abc", "ab abcd xabc"},
		{"*", "~ a abc \xff\x00 é", ""}, {"**", "~ a ab", ""}, {"a*", "a ab aa abc", "~ b ba"}, {"*a", "a ba aa", "~ b ab"}, {"a*b", "ab aab abb axxb abab", "a b ba aba"}, {"*a*", "a ba ab bab", "~ b"}, {"a**b", "ab axb", "a"}, {"*a*b*c", "abc aabbcc xaybzc abcabc", "ab acb abcx"}, {"*ab", "ab aab abab", "aba"}, {"*aab", "aab aaab aaaab", "aaba ab"}, {"a*a", "aa aba aaa", "a"}, {"*abc*abd", "abcabd abcabcabd xabcxxabd", "abd abcab abdabc"},
		{"?", "a * \xff", "~ aa é"}, {"??", "ab é", "a abc"}, {"?*", "a ab", "~"}, {"*?", "a ab", "~"}, {"a?c", "abc a?c", "ac abbc"}, {"*?b", "ab aab bb", "b a"},
		{"[abc]", "a b c", "~ d ab ["}, {"[a-c]", "a b c", "d - `"}, {"[a-ce-g]", "a c e g", "d h -"}, {"[a-a]", "a", "b -"}, {"[c-a]", "", "a b c - ~"}, {"[!c-a]", "a b c - ] \xff", "~ aa"}, {"[\x00-\xff]", "a \x00 \xff ]", "~ ab"},
		{"[!a]", "b ! ^ ]", "a ~ bb"}, {"[^a]", "b ! ^ \xff", "a"}, {"[!a-c]", "d -", "a b c"}, {"[a!]", "a !", "b"}, {"[a^]", "a ^", "b"}, {"[!!]", "a ^", "!"}, {"[!^]", "a !", "^"}, {"[^!]", "a ^", "!"}, {"[^^]", "a", "^"}, {"[!-]", "a", "-"},
		{"[]]", "]", "[ a"}, {"[]a]", "] a", "b"}, {"[!]]", "a [", "]"}, {"[!]a]", "b", "] a"}, {"[^]a]", "b", "] a"}, {"[]-a]", "] ^ _ ` a", "\\ b -"}, {"[]-]", "] -", "a"}, {"[]!]", "] !", "a"}, {"[a]]", "a]", "a ]"}, {"[]]]", "]]", "]"},
		{"[a-]", "a -", "b ]"}, {"[-a]", "- a", "b"}, {"[-]", "-", "a"}, {"[--0]", "- . / 0", "1 ,"}, {"[a--]", "", "a - ."}, {"[a-c-e]", "a b c - e", "d"}, {"[a-c-]", "a b c -", "d"}, {"[---]", "-", "a ."}, {"[a-]]", "a] -]", "a ]"}, {"[a-]x]", "ax] -x]", "a x"}, {"[!a-]", "b ]", "a -"},
		{"[\\]", "\\", "]"}, {"[\\]]", "\\]", "] \\"}, {"[\\a]", "\\ a", "b"}, {"[[-\\]", "[ \\", "] a"}, {"[*]", "*", "a ~"}, {"[?]", "?", "a"}, {"[[]", "[", "a ]"}, {"[[a]", "[ a", "b"}, {"[[]]", "[]", "["}, {"[\xff]", "\xff", "\xfe"}, {"[é]", "\xc3 \xa9", "é a"}, {"[a,b]", "a , b", "c"},
		{"[", "[", "~ a"}, {"[a", "[a", "a ["}, {"[]", "[]", "[ ]"}, {"[!", "[!", "["}, {"[!]", "[!]", "! a"}, {"[^]", "[^]", "^ a"}, {"[^", "[^", "^"}, {"[a-", "[a-", "a"}, {"[a-c", "[a-c", "b"}, {"[*", "[ [a", "a"}, {"[?", "[a", "["}, {"[\\a", "[a", "[\\a"}, {"[[", "[[", "["}, {"a[", "a[", "a"}, {"a]", "a]", "a"}, {"]", "]", "a"}, {"[][", "[][", "["}, {"[[]x[]", "[x[]", "["}, {"[a]b[c", "ab[c", "abc"}, {"]][", "]][", "]["}, {"[]x", "[]x", "]x"}, {"[!]x", "[!]x", "ax"}, {"[[*]", "[ *", "[a"},
		{"\\*", "*", "a \\ ~ \\*"}, {"\\?", "?", "a"}, {"\\[a]", "[a]", "a"}, {"\\\\", "\\", "\\\\"}, {"\\", "\\", "~ a"}, {"a\\", "a\\", "a"}, {"\\a", "a", "\\a"}, {"\\\\*", "\\ \\a", "a *"}, {"\\\\\\", "\\\\", "\\"}, {"*\\", "\\ a\\", "a"}, {"\\]", "]", "\\]"}, {"[a\\", "[a\\", "a"}, {"\\[", "[", "\\["},
		{"*[a-c]*", "a xbx cc", "x ~"}, {"*[!a]", "b ab aab", "a ba ~"}, {"[ab]*[cd]", "ac abcd bd", "a c ca"}, {"*?*?*", "ab abc", "a ~"},
	} {
		for _, s := range strings.Split(c.means, " ") {
			if c.means != "" && !Match(c.pattern, strings.Trim(s, "~")) {
				t.Errorf("%q must mean %q", c.pattern, s)
			}
		}
		for _, s := range strings.Split(c.not, " ") {
			if c.not != "" && Match(c.pattern, strings.Trim(s, "~")) {
				t.Errorf("%q must not mean %q", c.pattern, s)
			}
		}
	}
	if !Match("[ -!]a[!x]", " a~") || Match("[ -!]", "#") || !Match("~", "~") || !Match("[~] ", "~ ") {
		t.Error("blanks")
	}
}

// Each byte by itself, in brackets, and without.
func TestMatchBytes(t *testing.T) {
	for b := range 256 {
		one := string([]byte{byte(b)})
		sign := strings.Contains("!^", one)
		for c := range 256 {
			s := string([]byte{byte(c)})
			if Match("\\"+one, s) != (b == c) || !sign && Match("["+one+"]", s) != (b == c) || Match("[!"+one+"]", s) != (b != c) || Match("[^"+one+"]", s) != (b != c) || !strings.Contains("*?[\\", one) && Match(one, s) != (b == c) {
				t.Errorf("%q %q", one, s)
			}
			if low, high := min(b, c), max(b, c); low > 94 || low < 33 {
				in := string([]byte{'[', byte(low), '-', byte(high), ']'})
				for _, d := range []int{low - 1, low, (low + high) / 2, high, high + 1} {
					if d >= 0 && d < 256 && high != ']' && Match(in, string([]byte{byte(d)})) != (low <= d && d <= high) {
						t.Errorf("%q %d", in, d)
					}
				}
			}
		}
	}
}

// Texts and patterns that would take long, were they gone over carelessly.
func TestGreat(t *testing.T) {
	n := 1 << 20
	open, stars := strings.Repeat("[", n), strings.Repeat("*a", 1<<12)
	if !Match(open, open) || Match(open, open[1:]) || !Match("*"+open, "x"+open) {
		t.Error("open brackets")
	}
	if Match(stars+"b", strings.Repeat("a", 1<<14)) || !Match(stars, strings.Repeat("a", 1<<14)) {
		t.Error("stars")
	}
	told(t, strings.Repeat("#{", 4096), api.Scope{}, "", api.ErrForm)
	told(t, strings.Repeat("#{", n), api.Scope{}, "", api.ErrLong)
	told(t, "#{W:"+strings.Repeat("#S", 4000)+"}", over(of(), 'W', make([]api.Scope, 9999)...), "", api.OK)
	told(t, "#{s/x/"+strings.Repeat("y", 8180)+"/:m}", of("m", strings.Repeat("x", 8192)), "", api.ErrLong)
}

func TestWhatFollows(t *testing.T) {
	all := make([]byte, 256)
	for i := range all {
		all[i] = byte(i)
	}
	text := string(all) + "#S#{x}#,#}##{" + string(all)
	told(t, strings.ReplaceAll(text, "#", ""), example(), strings.ReplaceAll(text, "#", ""), api.OK)
	told(t, strings.ReplaceAll(text, "#", "##"), example(), text, api.OK)
	told(t, "#{l:"+"#{#{?x,:;"+"}}"+"}", example(), "#{#{?x,:;}}", api.OK)
}
