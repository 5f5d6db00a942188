package prog

import (
	"slotcode/api"
	"slotcode/ident"
	"slotcode/insn"
	"slotcode/ops"
)

// stackRegister is the register that no instruction may write.
const stackRegister = api.Registers - 1

// breach tells where a program breaks a condition. The index alone would not
// tell whether it is that of a map or of a statement.
type breach struct {
	ofMap bool
	at    int
}

// condition is what all maps or all statements of a correct program fulfil. It
// finds the first one that does not.
type condition struct {
	ofMap bool
	find  func() (at int, e api.Errno)
}

// names are names that were seen.
type names map[string]bool

// add adds names, and reports whether all of them are new.
func (n names) add(l ...string) bool {
	for _, name := range l {
		if n[name] {
			return false
		}
		n[name] = true
	}
	return true
}

// firstBreach returns where a program breaks the first condition that it does
// not fulfil, and the error.
func firstBreach(p api.Program) (breach, api.Errno) {
	for _, c := range conditions(p) {
		if at, e := c.find(); e != api.OK {
			return breach{c.ofMap, at}, e
		}
	}
	return breach{}, api.OK
}

// conditions returns what a correct program fulfils, in the order of the
// errors. Each one may rely on those before it: all maps and labels were seen
// when it is asked whether those that statements refer to exist.
func conditions(p api.Program) []condition {
	maps, labels := names{}, names{}
	return []condition{
		{true, each(p.Maps, func(_ int, d api.Def) api.Errno { return checkDef(d) })},
		{false, each(p.Stmts, func(_ int, s api.Stmt) api.Errno { return checkStmt(s) })},
		{true, each(p.Maps, func(i int, _ api.Def) api.Errno { return unless(i < api.MaxMaps, api.ErrSize) })},
		{true, each(p.Maps, func(_ int, d api.Def) api.Errno { return unless(maps.add(d.Name), api.ErrDuplicate) })},
		{false, each(p.Stmts, func(_ int, s api.Stmt) api.Errno { return unless(labels.add(s.Labels...), api.ErrDuplicate) })},
		{false, func() (int, api.Errno) { return 0, unless(len(p.Stmts) > 0, api.ErrEnd) }},
		{false, each(p.Stmts, func(_ int, s api.Stmt) api.Errno {
			return unless((s.Target == "" || labels[s.Target]) && (s.Map == "" || maps[s.Map]), api.ErrUndefined)
		})},
		{false, each(p.Stmts, func(_ int, s api.Stmt) api.Errno {
			return unless(insn.Writes(s.Ins) != stackRegister, api.ErrWrite)
		})},
		{false, each(p.Stmts, func(i int, s api.Stmt) api.Errno {
			return unless(i < len(p.Stmts)-1 || insn.Ends(s.Ins), api.ErrEnd)
		})},
	}
}

// each makes the search for the first element of a list that has an error.
func each[T any](l []T, check func(i int, x T) api.Errno) func() (int, api.Errno) {
	return func() (int, api.Errno) {
		for i, x := range l {
			if e := check(i, x); e != api.OK {
				return i, e
			}
		}
		return 0, api.OK
	}
}

func unless(holds bool, e api.Errno) api.Errno {
	if holds {
		return api.OK
	}
	return e
}

// checkDef checks what concerns the declaration of a map alone.
func checkDef(d api.Def) api.Errno {
	if !ident.Valid(d.Name) {
		return api.ErrName
	}
	return unless(upTo(api.MaxKey, d.Key) && upTo(api.MaxValue, d.Value) && upTo(api.MaxEntries, d.Entries), api.ErrMap)
}

// upTo reports whether a size of a map is positive, and not too large.
func upTo(greatest, size int) bool { return 1 <= size && size <= greatest }

// checkStmt checks what concerns a statement alone.
func checkStmt(s api.Stmt) api.Errno {
	for _, label := range s.Labels {
		if !ident.Valid(label) {
			return api.ErrName
		}
	}
	if e := insn.Check(s.Ins); e != api.OK {
		return e
	}
	jumps, refers := insn.Jumps(s.Ins), ops.Form(s.Ins.Op) == api.MapRef
	switch {
	case jumps && s.Ins.Off != 0, refers && s.Ins.Imm != 0, !jumps && s.Target != "", !refers && s.Map != "":
		return api.ErrField
	case jumps && !ident.Valid(s.Target), refers && !ident.Valid(s.Map):
		return api.ErrName
	}
	return api.OK
}
