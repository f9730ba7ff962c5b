package expr

import (
	"spinnaker/api"
	"spinnaker/scan"
)

// parser reads tokens from left to right. Of its errors it keeps the first one.
type parser struct {
	l    []api.Token
	next int
	open int // how many ( and ! the next token is nested in
	e    api.Errno
	at   int
}

// level reads an expression of one level of the grammar.
type level func(*parser) part

// part is an expression that was read. An expression beyond a limit has no nodes: a later token
// may still be the error to be returned, so that reading goes on, but it must not cost more and more.
type part struct {
	nodes []api.Node
	size  int
	depth int
}

// Parse is the expression that begins at a token.
func Parse(l []api.Token, i int) ([]api.Node, int, api.Errno, int) {
	if i < 0 {
		return nil, 0, api.ErrArg, 0
	}
	p := parser{l: l, next: i}
	x := p.disjunction()
	switch {
	case p.e != api.OK:
		return nil, 0, p.e, p.at
	case x.depth > api.MaxDepth:
		return nil, 0, api.ErrDeep, l[i].At
	case x.size > api.MaxNodes:
		return nil, 0, api.ErrBig, l[i].At
	}
	return x.nodes, p.next, api.OK, 0
}

func (p *parser) disjunction() part {
	return p.chain((*parser).conjunction, len(p.l), api.Or)
}

func (p *parser) conjunction() part {
	return p.chain((*parser).comparison, len(p.l), api.And)
}

func (p *parser) comparison() part {
	return p.chain((*parser).sum, 1, api.Eq, api.Ne, api.Lt, api.Le)
}

func (p *parser) sum() part {
	return p.chain((*parser).product, len(p.l), api.Add, api.Sub)
}

func (p *parser) product() part {
	return p.chain((*parser).operand, len(p.l), api.Mul)
}

// chain reads operands of the next level and, between them, at most so many of the operators.
func (p *parser) chain(operand level, most int, ops ...int) part {
	left := operand(p)
	for range most {
		op := p.operator(ops)
		if p.e != api.OK || op == 0 {
			break
		}
		n := api.Node{Op: op, At: p.l[p.next].At}
		p.next++
		left = join(n, left, operand(p))
	}
	return left
}

// operator is the one of the operators that comes next, or 0.
func (p *parser) operator(ops []int) int {
	for _, op := range ops {
		if p.sign(signs[op]) {
			return op
		}
	}
	return 0
}

func (p *parser) operand() part {
	t := p.token()
	switch {
	case p.sign(signs[api.Not]):
		x := p.nested((*parser).operand)
		return join(api.Node{Op: api.Not, At: t.At}, x)
	case p.sign("("):
		x := p.nested((*parser).disjunction)
		if !p.sign(")") {
			return p.refuse()
		}
		p.next++
		return x
	case p.name():
		return p.named()
	case t.Kind == api.Number && number(t.N):
		p.next++
		return join(api.Node{Op: api.Num, N: t.N, At: t.At})
	}
	return p.refuse()
}

// nested reads what a ( or ! stands before. That sign is the next token.
func (p *parser) nested(content level) part {
	if p.open == api.MaxDepth {
		return p.fail(api.ErrDeep, p.l[p.next].At)
	}
	p.next++
	p.open++
	x := content(p)
	p.open--
	return x
}

// named reads a register, of a thread or not. Its first name is the next token.
func (p *parser) named() part {
	t := p.token()
	p.next++
	if !p.sign(".") {
		return join(api.Node{Op: api.Reg, Name: t.Text, At: t.At})
	}
	p.next++
	if !p.name() {
		return p.refuse()
	}
	n := api.Node{Op: api.Of, In: t.Text, Name: p.token().Text, At: t.At}
	p.next++
	return join(n)
}

// token is the next token. At the end it is the zero token, which is of no kind, and so it is
// for an offset that no text has, since no valid node could be made of that token.
func (p *parser) token() api.Token {
	if p.next >= len(p.l) || p.l[p.next].At < 0 {
		return api.Token{}
	}
	return p.l[p.next]
}

func (p *parser) sign(s string) bool {
	t := p.token()
	return t.Kind == api.Sign && t.Text == s
}

func (p *parser) name() bool {
	t := p.token()
	return t.Kind == api.Ident && scan.Name(t.Text)
}

// refuse fails at the next token, or because there is none.
func (p *parser) refuse() part {
	if p.next < len(p.l) {
		return p.fail(api.ErrToken, p.l[p.next].At)
	}
	end := 0
	if len(p.l) > 0 {
		last := p.l[len(p.l)-1]
		end = last.At + len(last.Text)
	}
	return p.fail(api.ErrEnd, end)
}

func (p *parser) fail(e api.Errno, at int) part {
	if p.e == api.OK {
		p.e, p.at = e, at
	}
	return part{}
}

// join is a node with its operands behind it.
func join(n api.Node, operands ...part) part {
	x := part{size: 1}
	for _, o := range operands {
		x.size += o.size
		x.depth = max(x.depth, o.depth+1)
	}
	if x.size > api.MaxNodes || x.depth > api.MaxDepth {
		return x
	}
	x.nodes = append(x.nodes, n)
	for _, o := range operands {
		x.nodes = append(x.nodes, o.nodes...)
	}
	return x
}
