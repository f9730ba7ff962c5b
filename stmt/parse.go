package stmt

import (
	"slices"

	"spinnaker/api"
	"spinnaker/expr"
	"spinnaker/scan"
)

// parser reads tokens from left to right. It keeps its first error, and reads nothing after it.
type parser struct {
	l       []api.Token
	next    int
	open    int // how many blocks the next token is nested in
	done    []api.Stmt
	readers map[string]reader
	e       api.Errno
	at      int
}

// reader reads the fields of a statement, from the token after its keyword on. It leaves out At.
type reader func() api.Stmt

// Parse is the statements from a token on.
func Parse(l []api.Token, i int) ([]api.Stmt, int, api.Errno, int) {
	if i < 0 || i > len(l) {
		return nil, 0, api.ErrArg, 0
	}
	p := parser{l: l, next: i}
	p.readers = p.grammar()
	p.sequence()
	switch {
	case p.e != api.OK:
		return nil, 0, p.e, p.at
	case len(p.done) > api.MaxStmts:
		return nil, 0, api.ErrBig, l[i].At
	}
	return p.done, p.next, api.OK, 0
}

// grammar is the readers, each under its keyword. A literal's calls are made from left to
// right, so that its fields are read in their order.
func (p *parser) grammar() map[string]reader {
	return map[string]reader{
		"skip":  func() api.Stmt { return api.Stmt{Kind: api.Skip} },
		"fence": func() api.Stmt { return api.Stmt{Kind: api.Fence} },
		"break": func() api.Stmt { return api.Stmt{Kind: api.Break} },
		"set": func() api.Stmt {
			return api.Stmt{Kind: api.Set, Reg: p.name(), E: p.expression("=")}
		},
		"load": func() api.Stmt {
			return api.Stmt{Kind: api.Load, Reg: p.name(), Loc: p.name("=")}
		},
		"store": func() api.Stmt {
			return api.Stmt{Kind: api.Store, Loc: p.name(), E: p.expression("=")}
		},
		"cas": func() api.Stmt {
			return api.Stmt{Kind: api.Cas, Reg: p.name(), Loc: p.name("="), E: p.expression(","), F: p.expression(",")}
		},
		"fadd": func() api.Stmt {
			return api.Stmt{Kind: api.Fadd, Reg: p.name(), Loc: p.name("="), E: p.expression(",")}
		},
		"xchg": func() api.Stmt {
			return api.Stmt{Kind: api.Xchg, Reg: p.name(), Loc: p.name("="), E: p.expression(",")}
		},
		"await": func() api.Stmt {
			return api.Stmt{Kind: api.Await, Loc: p.name(), Ne: p.differs(), E: p.expression()}
		},
		"if": func() api.Stmt {
			return api.Stmt{Kind: api.If, E: p.expression(), Body: p.block(), Else: p.alternative()}
		},
		"while": func() api.Stmt {
			return api.Stmt{Kind: api.While, E: p.expression(), Body: p.block()}
		},
		"loop": func() api.Stmt {
			return api.Stmt{Kind: api.Loop, Body: p.block()}
		},
	}
}

// sequence reads statements up to a }, or to the end.
func (p *parser) sequence() {
	for p.next < len(p.l) && !p.sees(api.Sign, "}") {
		p.statement()
	}
}

func (p *parser) statement() {
	t := p.l[p.next]
	read := p.readers[t.Text]
	// A statement that began below 0 would not be valid.
	if t.Kind != api.Ident || read == nil || t.At < 0 {
		p.refuse()
		return
	}
	p.next++
	i := len(p.done)
	p.done = append(p.done, api.Stmt{})
	s := read()
	s.At = t.At
	if !nests(s.Kind) {
		p.sign(";")
	}
	p.done[i] = s
}

// block reads a block, and is how many statements are in it.
func (p *parser) block() int {
	if p.open == api.MaxDepth && p.sees(api.Sign, "{") {
		p.fail(api.ErrDeep, p.l[p.next].At)
	}
	p.sign("{")
	before := len(p.done)
	p.open++
	p.sequence()
	p.open--
	p.sign("}")
	return len(p.done) - before
}

// alternative reads else and its block, if they come next.
func (p *parser) alternative() int {
	if !p.sees(api.Ident, "else") {
		return 0
	}
	p.next++
	return p.block()
}

// differs reads one of == and !=, and tells whether it is the latter.
func (p *parser) differs() bool {
	if p.sees(api.Sign, "!=") {
		p.next++
		return true
	}
	p.sign("==")
	return false
}

// expression reads signs and, after them, an expression.
func (p *parser) expression(before ...string) []api.Node {
	p.signs(before)
	x, to, e, at := expr.Parse(p.l, p.next)
	switch {
	case e != api.OK:
		p.fail(e, at)
	case slices.ContainsFunc(x, foreign):
		p.refuse()
	default:
		p.next = to
	}
	return x
}

// name reads signs and, after them, a name.
func (p *parser) name(before ...string) string {
	p.signs(before)
	if p.next == len(p.l) || p.l[p.next].Kind != api.Ident || !scan.Name(p.l[p.next].Text) {
		p.refuse()
		return ""
	}
	p.next++
	return p.l[p.next-1].Text
}

func (p *parser) signs(l []string) {
	for _, s := range l {
		p.sign(s)
	}
}

func (p *parser) sign(s string) {
	if !p.sees(api.Sign, s) {
		p.refuse()
		return
	}
	p.next++
}

// sees tells whether this token comes next.
func (p *parser) sees(kind int, text string) bool {
	return p.next < len(p.l) && p.l[p.next].Kind == kind && p.l[p.next].Text == text
}

// refuse fails at the next token, or because there is none. Tokens there are: without any, none
// is required.
func (p *parser) refuse() {
	if p.next < len(p.l) {
		p.fail(api.ErrToken, p.l[p.next].At)
		return
	}
	last := p.l[len(p.l)-1]
	p.fail(api.ErrEnd, last.At+len(last.Text))
}

// fail goes to the end of the tokens, where everything that is still asked for fails as well.
func (p *parser) fail(e api.Errno, at int) {
	if p.e == api.OK {
		p.e, p.at = e, at
	}
	p.next = len(p.l)
}
