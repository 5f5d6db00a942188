package parse

import (
	"slotcode/api"
	"slotcode/ident"
	"slotcode/lex"
	"slotcode/num"
	"slotcode/ops"
)

// reader reads the operands of an instruction from left to right. Its methods
// read one operand each. They rely on the shape of the operands, which has to
// be compared with those of the form before.
type reader struct {
	rest []lex.Tok // what has not been read yet
	code Code
}

// row returns the row of the table for the form of the operation: the shapes
// that its operands may have, and what reads the operands in their order.
func (r *reader) row() (shapes []string, operands []func() api.Errno) {
	switch ops.Form(r.code.Ins.Op) {
	case api.Alu:
		return []string{"w,w", "w,-w"}, []func() api.Errno{r.dst, r.second}
	case api.Unary:
		return []string{"w"}, []func() api.Errno{r.dst}
	case api.Extend:
		return []string{"w,w"}, []func() api.Errno{r.dst, r.src}
	case api.Go:
		return []string{"w"}, []func() api.Errno{r.target}
	case api.Jump:
		return []string{"w,w,w", "w,-w,w"}, []func() api.Errno{r.dst, r.second, r.target}
	case api.Call:
		return []string{"w"}, []func() api.Errno{r.helper}
	case api.Load:
		return []string{"w,[w]", "w,[w+w]", "w,[w-w]"}, []func() api.Errno{r.dst, r.src, r.off}
	case api.Store:
		shapes = []string{"[w],w", "[w+w],w", "[w-w],w", "[w],-w", "[w+w],-w", "[w-w],-w"}
		return shapes, []func() api.Errno{r.dst, r.off, r.imm32}
	case api.StoreReg:
		return []string{"[w],w", "[w+w],w", "[w-w],w"}, []func() api.Errno{r.dst, r.off, r.src}
	case api.Wide:
		return []string{"w,w", "w,-w"}, []func() api.Errno{r.dst, r.imm64}
	case api.MapRef:
		return []string{"w,w"}, []func() api.Errno{r.dst, r.mapName}
	}
	return []string{""}, nil // api.Exit has no operands
}

// next returns the next word, with the minus sign in front of it if there is one.
func (r *reader) next() string {
	sign := ""
	for i, t := range r.rest {
		switch t.Text {
		case ",", "[", "]", "+":
		case "-":
			sign = "-"
		default:
			r.rest = r.rest[i+1:]
			return sign + t.Text
		}
	}
	return ""
}

func (r *reader) dst() (e api.Errno) {
	r.code.Ins.Dst, e = register(r.next())
	return e
}

func (r *reader) src() (e api.Errno) {
	r.code.Ins.Src, e = register(r.next())
	return e
}

// second reads the second operand, which is a number if it is no register, so
// that it is a wrong number if it is neither.
func (r *reader) second() api.Errno {
	text := r.next()
	if n, ok := ident.Register(text); ok {
		r.code.Ins.Reg, r.code.Ins.Src = true, n
		return api.OK
	}
	return r.immediate(text, 32)
}

// off reads the offset behind the register of an access, if there is one.
func (r *reader) off() api.Errno {
	if r.rest[0].Text == "]" {
		return api.OK
	}
	off, e := num.Parse(r.next(), 16)
	r.code.Ins.Off = int(off)
	return e
}

func (r *reader) imm32() api.Errno { return r.immediate(r.next(), 32) }

func (r *reader) imm64() api.Errno { return r.immediate(r.next(), 64) }

func (r *reader) immediate(text string, bits int) (e api.Errno) {
	r.code.Ins.Imm, e = num.Parse(text, bits)
	return e
}

func (r *reader) target() (e api.Errno) {
	r.code.Target, e = identifier(r.next())
	return e
}

func (r *reader) mapName() (e api.Errno) {
	r.code.Map, e = identifier(r.next())
	return e
}

func (r *reader) helper() api.Errno {
	switch r.next() {
	case "lookup":
		r.code.Ins.Imm = api.Lookup
	case "update":
		r.code.Ins.Imm = api.Update
	case "delete":
		r.code.Ins.Imm = api.Delete
	default:
		return api.ErrName
	}
	return api.OK
}
