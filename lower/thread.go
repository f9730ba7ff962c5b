package lower

import (
	"spinnaker/api"
	"spinnaker/code"
	"spinnaker/legal"
)

// piece is a part of a sequence of instructions: how many there are, and what appends them to
// those before them, where leave is the target of a Break that is in no loop of the piece. How
// many there are is known ahead, so that a jump can lead across a piece that is still to come.
type piece struct {
	size int
	put  func(before []api.Instr, leave int) []api.Instr
}

// noTarget is the target of a Break that is in no loop.
const noTarget = -1

// Thread is the instructions of a thread with these statements and registers. There are none if
// the statements cannot be lowered.
func Thread(l []api.Stmt, regs, locs []string) []api.Instr {
	if len(l) > api.MaxStmts {
		return nil
	}
	whole := chain(names{regs, locs}.block(l), single(api.Instr{Op: api.Done}))
	// What cannot be lowered has become an instruction that is not valid, or of no kind.
	made := whole.put(nil, noTarget)
	if !rightSequence(made, len(regs), len(locs)) {
		return nil
	}
	return made
}

// names are those of a thread's registers, and of the locations.
type names struct{ regs, locs []string }

// block is the piece of statements.
func (n names) block(l []api.Stmt) piece {
	var pieces []piece
	for len(l) > 0 {
		s, after := l[0], l[1:]
		if s.Body < 0 || s.Else < 0 || s.Else > len(after)-s.Body {
			return single(api.Instr{})
		}
		end := s.Body + s.Else
		pieces = append(pieces, n.statement(s, n.block(after[:s.Body]), n.block(after[s.Body:end])))
		l = after[end:]
	}
	return chain(pieces...)
}

// statement is the piece of a statement in which the others are.
func (n names) statement(s api.Stmt, body, other piece) piece {
	switch s.Kind {
	case api.Skip:
		return chain()
	case api.If:
		if s.Else == 0 {
			return chain(n.branch(s, 1+body.size), body)
		}
		return chain(n.branch(s, 1+body.size+1), body, jump(1+other.size), other)
	case api.While:
		return loop(chain(n.branch(s, 1+body.size+1), body, jump(-body.size-1)))
	case api.Loop:
		return loop(chain(body, jump(-body.size)))
	case api.Break:
		return leaving()
	case api.Set, api.Load, api.Store, api.Cas, api.Fadd, api.Xchg, api.Fence, api.Await:
		return single(n.plain(s))
	}
	return single(api.Instr{})
}

// plain is the instruction of a statement that is lowered to one of its own kind.
func (n names) plain(s api.Stmt) api.Instr {
	x := api.Instr{Op: s.Kind, Ne: s.Ne}
	has, _ := partsOf(s.Kind)
	if has.reg {
		x.Reg = legal.Index(n.regs, s.Reg)
	}
	if has.loc {
		x.Loc = legal.Index(n.locs, s.Loc)
	}
	if has.e {
		x.E, _ = code.Thread(s.E, n.regs)
	}
	if has.f {
		x.F, _ = code.Thread(s.F, n.regs)
	}
	return x
}

// branch continues so many instructions after itself if the statement's expression is 0.
func (n names) branch(s api.Stmt, by int) piece {
	e, _ := code.Thread(s.E, n.regs)
	return ahead(api.Instr{Op: api.Branch, E: e}, by)
}

// jump continues so many instructions after itself, or before itself if there are less than none.
func jump(by int) piece {
	return ahead(api.Instr{Op: api.Jump}, by)
}

// ahead is an instruction whose To is by as much greater than its own index.
func ahead(x api.Instr, by int) piece {
	return piece{1, func(before []api.Instr, _ int) []api.Instr {
		x.To = len(before) + by
		return append(before, x)
	}}
}

// leaving is a Break.
func leaving() piece {
	return piece{1, func(before []api.Instr, leave int) []api.Instr {
		return append(before, api.Instr{Op: api.Jump, To: leave})
	}}
}

// single is one instruction that is the same in any place.
func single(x api.Instr) piece {
	return piece{1, func(before []api.Instr, _ int) []api.Instr { return append(before, x) }}
}

// chain is pieces, one after the other.
func chain(pieces ...piece) piece {
	size := 0
	for _, p := range pieces {
		size += p.size
	}
	return piece{size, func(before []api.Instr, leave int) []api.Instr {
		for _, p := range pieces {
			before = p.put(before, leave)
		}
		return before
	}}
}

// loop is a piece that each Break in it leaves.
func loop(p piece) piece {
	return piece{p.size, func(before []api.Instr, _ int) []api.Instr {
		return p.put(before, len(before)+p.size)
	}}
}
