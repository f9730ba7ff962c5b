package prog

import (
	"spinnaker/api"
	"spinnaker/expr"
	"spinnaker/scan"
	"spinnaker/stmt"
)

// parser reads the tokens of a text from left to right. It keeps its first error, and reads
// nothing after it.
type parser struct {
	l    []api.Token
	next int
	e    api.Errno
	at   int
}

// Parse is a text's program, or what is wrong, and where.
func Parse(s string) (api.Prog, api.Errno, int) {
	l, e, at := scan.Scan(s)
	if e != api.OK {
		return api.Prog{}, e, at
	}
	p := parser{l: l}
	x := p.program()
	if p.e != api.OK {
		return api.Prog{}, p.e, p.at
	}
	return x, api.OK, 0
}

func (p *parser) program() api.Prog {
	var x api.Prog
	p.expect("mod")
	x.Mod = p.number()
	p.expect(";")
	p.sequence(is("loc"), func(first api.Token) {
		x.Locs = append(x.Locs, p.location(first.At))
	})
	p.sequence(is("thread"), func(first api.Token) {
		x.Threads = append(x.Threads, p.thread(first.At))
	})
	p.sequence(claims, func(first api.Token) {
		x.Claims = append(x.Claims, p.claim(kind(first.Text), first.At))
	})
	if p.next < len(p.l) {
		p.refuse()
	}
	return x
}

// sequence reads elements as long as the next token begins one: that token, and by a closure
// what follows it.
func (p *parser) sequence(begins func(text string) bool, rest func(first api.Token)) {
	for begins(p.token().Text) {
		p.next++
		rest(p.l[p.next-1])
	}
}

// is makes the test whether a text is this one.
func is(wanted string) func(string) bool {
	return func(s string) bool { return s == wanted }
}

// claims tells whether a text begins a claim.
func claims(s string) bool {
	return kind(s) > 0
}

// kind is the kind of the claims that a text begins, or 0 if it begins none.
func kind(s string) int {
	for k, word := range words {
		if word == s {
			return k
		}
	}
	return 0
}

func (p *parser) location(at int) api.Var {
	v := api.Var{Name: p.name(), At: at}
	p.expect("=")
	v.N = p.number()
	p.expect(";")
	return v
}

func (p *parser) thread(at int) api.Thread {
	t := api.Thread{Name: p.name(), At: at}
	p.expect("{")
	t.Regs = p.registers()
	t.Body = p.statements()
	p.expect("}")
	return t
}

// registers reads the line of registers, if it comes next.
func (p *parser) registers() []string {
	if p.token().Text != "reg" {
		return nil
	}
	p.next++
	names := []string{p.name()}
	p.sequence(is(","), func(api.Token) {
		names = append(names, p.name())
	})
	p.expect(";")
	return names
}

func (p *parser) statements() []api.Stmt {
	l, to, e, at := stmt.Parse(p.l, p.next)
	p.resume(to, e, at)
	return l
}

func (p *parser) claim(kind, at int) api.Claim {
	c := api.Claim{Kind: kind, E: p.expression(), At: at}
	p.expect(";")
	return c
}

// expression reads an expression in which a single name is that of a location.
func (p *parser) expression() []api.Node {
	l, to, e, at := expr.Parse(p.l, p.next)
	p.resume(to, e, at)
	for i := range l {
		if l[i].Op == api.Reg {
			l[i].Op = api.Loc
		}
	}
	return l
}

func (p *parser) name() string {
	return p.take(scan.Name(p.token().Text)).Text
}

func (p *parser) number() int {
	return p.take(p.token().Kind == api.Number).N
}

func (p *parser) expect(text string) {
	p.take(p.token().Text == text)
}

// token is the next token. At the end it is the zero token, whose text no token has.
func (p *parser) token() api.Token {
	if p.next == len(p.l) {
		return api.Token{}
	}
	return p.l[p.next]
}

// take reads the next token, if it can occur there.
func (p *parser) take(can bool) api.Token {
	if !can {
		p.refuse()
		return api.Token{}
	}
	p.next++
	return p.l[p.next-1]
}

// refuse fails at the next token, or because there is none.
func (p *parser) refuse() {
	if p.next < len(p.l) {
		p.fail(api.ErrToken, p.l[p.next].At)
		return
	}
	end := 0
	if len(p.l) > 0 {
		last := p.l[len(p.l)-1]
		end = last.At + len(last.Text)
	}
	p.fail(api.ErrEnd, end)
}

// resume goes on where another layer's parser stopped, unless that failed.
func (p *parser) resume(to int, e api.Errno, at int) {
	p.next = to
	if e != api.OK {
		p.fail(e, at)
	}
}

// fail goes to the end of the tokens, where everything that is still asked for fails as well.
func (p *parser) fail(e api.Errno, at int) {
	if p.e == api.OK {
		p.e, p.at = e, at
	}
	p.next = len(p.l)
}
