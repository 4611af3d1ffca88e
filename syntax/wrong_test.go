package syntax

import (
	"strings"
	"testing"

	"pipewright/api"
	"pipewright/token"
)

// anyToken has a token of each kind, all words and signs.
const anyToken = "abandon chan clone close drain else emit for from if int let recv repeat send set spawn stage take " +
	"name 12 ( ) { } , ; + - * < = =="

// P3.1: token.Scan's fault is told ahead of all others.
func TestParseOfFaultsOfTokens(t *testing.T) {
	long := rep("n", api.MaxName+1)
	for _, ahead := range []string{"", "stage a(){} ", "stage ", "stage a( { } ", "stage a(){emit 1 < 2 < 3;} ", "} ", "5 5 ", rep("stage a(){}", api.MaxStages+1)} {
		wantFault(t, ahead+"?", fault(api.ErrText, len(ahead)))
		wantFault(t, ahead+"007", fault(api.ErrNumber, len(ahead)))
		wantFault(t, ahead+"5x", fault(api.ErrNumber, len(ahead)))
		wantFault(t, ahead+long, fault(api.ErrName, len(ahead)))
		wantFault(t, ahead+"A 007", fault(api.ErrText, len(ahead)))
		wantFault(t, ahead+rep(" ", api.MaxText+1), fault(api.ErrSize, api.MaxText))
		wantFault(t, ahead+"\x00\xff", fault(api.ErrText, len(ahead)))
	}
}

// P3.1: the tokens end too early ahead of each token, but where a stage ends.
func TestParseOfTextsThatAreCutOff(t *testing.T) {
	tokens, _ := token.Scan(sample)
	for i, tok := range tokens {
		if i > 0 && tok.Text == "stage" {
			parsed(t, sample[:tok.At])
			continue
		}
		for _, behind := range []string{"", " ", "\n\n", "# stage"} {
			src := sample[:tok.At] + behind
			wantFault(t, src, fault(api.ErrShort, len(src)))
		}
		if i > 0 {
			src := sample[:tokens[i-1].At] + tokens[i-1].Text
			wantFault(t, src, fault(api.ErrShort, len(src)))
		}
	}
	for _, src := range []string{"", " ", "\n", "# stage a() { }", "\t\r\n"} {
		wantFault(t, src, fault(api.ErrShort, len(src)))
	}
}

// P3.1: of each place of each rule, what cannot stand there.
func TestParseOfTokensThatCannotStand(t *testing.T) {
	for _, marked := range []string{
		"@main", "@;", "@{", "@12", "stage @stage", "stage @12", "stage @(", "stage a @{", "stage a @b", "stage a @)",
		"stage a(@,", "stage a(@12", "stage a(@int", "stage a(@;", "stage a(b @,", "stage a(b @)", "stage a(b @c", "stage a(b @12",
		"stage a(b send @)", "stage a(b send @send1", "stage a(b recv @,", "stage a(b int @int", "stage a(b int @;", "stage a(b int @send", "stage a(b int,@)", "stage a(b int,@,",
		"stage a(b int) @;", "stage a() @}", "stage a() @emit", "stage a(){}@}", "stage a(){}@;", "stage a(){}@a", "stage a(){}@else{}", "stage a(){}@{",
		"stage a(){@a", "stage a(){@;", "stage a(){@{", "stage a(){@stage", "stage a(){@else", "stage a(){@int", "stage a(){@recv", "stage a(){@from", "stage a(){@12", "stage a(){@(", "stage a(){@)", "stage a(){@-",
		"stage a(){let @12", "stage a(){let @let", "stage a(){let @=", "stage a(){let b @==", "stage a(){let b @;", "stage a(){let b @b", "stage a(){let b=@;", "stage a(){let b= @=", "stage a(){let b=1@=", "stage a(){let b=1@}", "stage a(){let b=1@,",
		"stage a(){set @12", "stage a(){set b @==", "stage a(){set b=@set", "stage a(){set b=1@)", "stage a(){set b=1 @emit",
		"stage a(){emit @;", "stage a(){emit @emit", "stage a(){emit 1@}", "stage a(){emit 1@,", "stage a(){emit 1@{", "stage a(){emit b@=1", "stage a(){emit b @b",
		"stage a(){chan @int", "stage a(){chan @12", "stage a(){chan b @int", "stage a(){chan b @,", "stage a(){chan b c @d", "stage a(){chan b c @1", "stage a(){chan b c @;",
		"stage a(){chan b c send @1", "stage a(){chan b c int @;", "stage a(){chan b c int @-1", "stage a(){chan b c int @n", "stage a(){chan b c int @(", "stage a(){chan b c int 1@}", "stage a(){chan b c int 1@+",
		"stage a(){clone @;", "stage a(){clone b @;", "stage a(){clone b @12", "stage a(){clone b c@,", "stage a(){clone b c @d",
		"stage a(){send @12", "stage a(){send @int", "stage a(){send b @;", "stage a(){send b @int", "stage a(){send b c @d", "stage a(){send b c@}", "stage a(){send b @=",
		"stage a(){close @;", "stage a(){close @12", "stage a(){close b@,", "stage a(){close b @c", "stage a(){abandon @;", "stage a(){abandon b @{", "stage a(){drain @drain", "stage a(){drain b@}",
		"stage a(){spawn @(", "stage a(){spawn @12", "stage a(){spawn b@;", "stage a(){spawn b @c", "stage a(){spawn b(@,", "stage a(){spawn b(@;", "stage a(){spawn b(1@;", "stage a(){spawn b(1 @2", "stage a(){spawn b(1,@)", "stage a(){spawn b(1,@,", "stage a(){spawn b()@}", "stage a(){spawn b(1)@)",
		"stage a(){take @12", "stage a(){take b @;", "stage a(){take b @c", "stage a(){take b from @12", "stage a(){take b from @from", "stage a(){take b from c@;", "stage a(){take b from c @d", "stage a(){take b from c{}@;", "stage a(){take b from c{}else @;", "stage a(){take b from c{}else @if", "stage a(){take b from c{}else{}@else",
		"stage a(){for @from", "stage a(){for b @=", "stage a(){for b from @{", "stage a(){for b from c@;", "stage a(){for b from c{}@else", "stage a(){for b from c{@from",
		"stage a(){repeat @{", "stage a(){repeat @;", "stage a(){repeat 1@;", "stage a(){repeat 1 @2", "stage a(){repeat 1{}@else", "stage a(){repeat 1{}@;",
		"stage a(){if @{", "stage a(){if @if", "stage a(){if b@;", "stage a(){if b@=c", "stage a(){if b{}@;", "stage a(){if b{}else @if", "stage a(){if b{}else{}@else", "stage a(){if b{@else",
		"stage a(){emit @+1", "stage a(){emit @*1", "stage a(){emit @<1", "stage a(){emit @==1", "stage a(){emit @)", "stage a(){emit (@)", "stage a(){emit 1+@;", "stage a(){emit 1+@+", "stage a(){emit 1-@*", "stage a(){emit 1*@;", "stage a(){emit 1<@<", "stage a(){emit 1==@=",
		"stage a(){emit 1<2@<3", "stage a(){emit 1<2@==3", "stage a(){emit 1==2@==3", "stage a(){emit 1==2@<3", "stage a(){emit 1 @2", "stage a(){emit 1@(2)", "stage a(){emit (1@;", "stage a(){emit (1 @2", "stage a(){emit (1)@)", "stage a(){emit (1<2@<3)", "stage a(){emit -@;", "stage a(){emit -@+", "stage a(){emit -@<", "stage a(){emit (1@,2)", "stage a(){emit a@(", "stage a(){emit @int",
	} {
		wantAtMark(t, marked, api.ErrForm)
		wantAtMark(t, marked+" }", api.ErrForm)
	}
}

// P3.1: two faults, of which the first from the front is told.
func TestParseTellsTheFirstFault(t *testing.T) {
	for marked, code := range map[string]int{
		"stage a(){emit @; emit ; }":                                                          api.ErrForm,
		"stage a(){emit @;":                                                                   api.ErrForm,
		"stage a(b send send send @send int, c int,,":                                         api.ErrDeep,
		"stage a(b @, c send send send send":                                                  api.ErrForm,
		"stage a(){emit " + rep("(", api.MaxOpen) + "@(;":                                     api.ErrDeep,
		"stage a(){emit @;emit " + rep("(", api.MaxOpen+1):                                    api.ErrForm,
		"stage a(){emit @" + rep("1+", api.MaxTerms) + "1; emit ;}":                           api.ErrMany,
		"stage a(){emit @;emit " + rep("1+", api.MaxTerms) + "1;}":                            api.ErrForm,
		"stage a(){emit @" + rep("1+", api.MaxTerms) + "1; emit -" + rep("(", api.MaxOpen+1):  api.ErrMany,
		"stage a(){emit " + rep("(", api.MaxOpen) + "@(1;" + rep("1+", api.MaxTerms) + "1;}":  api.ErrDeep,
		"stage a(){" + rep("if 1{", api.MaxDepth-1) + "if 1@{emit ;":                          api.ErrDeep,
		"stage a(){" + rep("if 1{", api.MaxDepth-1) + "if @{{":                                api.ErrForm,
		"stage a(){" + rep("if 1{", api.MaxDepth-1) + "if @" + rep("1+", api.MaxTerms) + "1{": api.ErrMany,
		"stage a(){spawn b(1,2,3,4,5,6,@7;":                                                   api.ErrMany,
		"stage a(){spawn b(1,2,3,4,5@;6,7,8":                                                  api.ErrForm,
		"stage a(){spawn b(1,2,3,4,5,@" + rep("1+", api.MaxTerms) + "1,7":                     api.ErrMany,
		"stage a(){spawn b(1,2,3,4,5,6,@" + rep("1+", api.MaxTerms) + "1":                     api.ErrMany,
		"stage a(b int,b int,b int,b int,b int,b int,@c send send send send int)":             api.ErrMany,
		"stage a(b int,b int,b int,b int,b int,b send send send @send int,c int)":             api.ErrDeep,
		rep("stage a(){}", api.MaxStages) + "@stage a( stage":                                 api.ErrMany,
		rep("stage a(){}", api.MaxStages-1) + "stage a(@stage stage a(){}":                    api.ErrForm,
		"stage a(){" + rep("emit 1;", api.MaxStmts) + "@emit ;}":                              api.ErrMany,
		"stage a(){" + rep("emit 1;", api.MaxStmts-1) + "emit @;emit 1;}":                     api.ErrForm,
	} {
		wantAtMark(t, marked, code)
		wantAtMark(t, "\n"+strings.ReplaceAll(marked, ";", ";\n#;\n"), code)
	}
}

// asFound holds a text's fault against the second reader's; and of a program
// the tokens that it has against the text's.
func asFound(t *testing.T, src string) {
	t.Helper()
	p, f := Parse(src)
	want, _ := slowFault(src)
	if f != want || f.Code != 0 && len(p.Stages) != 0 {
		t.Fatalf("Parse(%q): %d stages %v, want %v", src, len(p.Stages), f, want)
	}
	if f.Code == 0 && !again(t, p, src) {
		t.Fatalf("Parse(%q): %+v, which is another program", src, p)
	}
}

// P3.1: of each token of the sample, all that could stand there in its stead,
// or ahead of it.
func TestParseOfEachTokenChanged(t *testing.T) {
	list := texts(t, sample)
	for i := range list {
		ahead, behind := strings.Join(list[:i], " "), strings.Join(list[i+1:], " ")
		asFound(t, ahead+" "+behind)
		for _, text := range strings.Fields(anyToken) {
			asFound(t, ahead+" "+text+" "+behind)
			asFound(t, ahead+" "+text+" "+list[i]+" "+behind)
			asFound(t, ahead+" "+text)
		}
	}
}

// P3.1: two tokens of a text in each other's stead.
func TestParseOfTokensExchanged(t *testing.T) {
	list := texts(t, sample)
	for i := range list {
		for by := 1; by < 12 && i+by < len(list); by++ {
			list[i], list[i+by] = list[i+by], list[i]
			asFound(t, strings.Join(list, " "))
			list[i], list[i+by] = list[i+by], list[i]
		}
	}
}
