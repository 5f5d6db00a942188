package print

import (
	"slotcode/api"
	"slotcode/ident"
	"slotcode/ops"
)

// instruction returns the text of the instruction of a statement that is right
// for itself.
func instruction(s api.Stmt) string {
	text := ops.Name(s.Ins.Op)
	for i, operand := range operands(s)[ops.Form(s.Ins.Op)] {
		if i > 0 {
			text += ","
		}
		text += " " + operand()
	}
	return text
}

// operands returns what writes the operands of a statement in their order, if
// the form of its operation is the key. Exit has none.
func operands(s api.Stmt) map[int][]func() string {
	x := s.Ins
	dst := func() string { return ident.Name(x.Dst) }
	src := func() string { return ident.Name(x.Src) }
	imm := func() string { return Number(x.Imm) }
	second := func() string {
		if x.Reg {
			return src()
		}
		return imm()
	}
	from := func() string { return Memory(x.Src, x.Off) }
	to := func() string { return Memory(x.Dst, x.Off) }
	target := func() string { return s.Target }
	return map[int][]func() string{
		api.Alu:      {dst, second},
		api.Unary:    {dst},
		api.Extend:   {dst, src},
		api.Go:       {target},
		api.Jump:     {dst, second, target},
		api.Call:     {func() string { return helper(x.Imm) }},
		api.Load:     {dst, from},
		api.Store:    {to, imm},
		api.StoreReg: {to, src},
		api.Wide:     {dst, imm},
		api.MapRef:   {dst, func() string { return s.Map }},
	}
}

// helper returns the name of a helper.
func helper(n int64) string {
	switch n {
	case api.Lookup:
		return "lookup"
	case api.Update:
		return "update"
	}
	return "delete"
}
