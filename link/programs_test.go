package link_test

import (
	"slices"

	"fishplate/api"
)

// Registers.
const (
	rax = iota
	rcx
	rdx
	rbx
	rsp
	rbp
	rsi
	rdi
)

// figure tells a number's bytes.
func figure(v, width int) []byte {
	b := make([]byte, width)
	for i := range b {
		b[i] = byte(v >> (8 * i))
	}
	return b
}

// in tells the bytes of an instruction.
func in(op, r, m, imm int) []byte {
	both := byte(8*r + m)
	four := figure(imm, 4)
	switch op {
	case 1:
		return append([]byte{72, 199, 192 + byte(m)}, four...)
	case 2:
		return append([]byte{72, 184 + byte(m)}, figure(imm, 8)...)
	case 3:
		return append([]byte{72, 141, 5 + 8*byte(r)}, four...)
	case 4:
		return append([]byte{72, 139, 128 + both}, four...)
	case 5:
		return append([]byte{72, 137, 128 + both}, four...)
	case 6:
		return append([]byte{72, 15, 182, 128 + both}, four...)
	case 7:
		return append([]byte{72, 136, 128 + both}, four...)
	case 8:
		return []byte{72, 137, 192 + both}
	case 9:
		return []byte{72, 1, 192 + both}
	case 10:
		return []byte{72, 41, 192 + both}
	case 11:
		return append([]byte{72, 129, 192 + byte(m)}, four...)
	case 12:
		return []byte{72, 57, 192 + both}
	case 13:
		return append([]byte{233}, four...)
	case 14, 15, 16:
		return append([]byte{15, []byte{132, 133, 130}[op-14]}, four...)
	case 17:
		return append([]byte{232}, four...)
	case 18:
		return []byte{255, 208 + byte(m)}
	case 19:
		return []byte{195}
	}
	return []byte{15, 5}
}

// author writes instructions of a function, and the relocations in them.
type author struct {
	b    []byte
	rels []api.Rel
}

// do writes an instruction.
func (a *author) do(op, r, m, imm int) *author {
	a.b = append(a.b, in(op, r, m, imm)...)
	return a
}

// by writes an instruction with a relocation in its field, by a symbol and so many bytes more.
func (a *author) by(op, r, m, kind, sym, more int) *author {
	b := in(op, r, m, 0)
	width := 4
	if kind == api.R64 {
		width = 8
	}
	if kind == api.RPC32 || kind == api.RPLT32 {
		more -= 4
	}
	a.rels = append(a.rels, rel(len(a.b)+len(b)-width, kind, sym, more))
	a.b = append(a.b, b...)
	return a
}

// out writes what tells the number in rdi; end what ends with it.
func (a *author) out() *author { return a.do(1, 0, rax, 1).do(20, 0, 0, 0) }
func (a *author) end() *author { return a.do(1, 0, rax, 60).do(20, 0, 0, 0) }

// over writes a jump over what another author wrote.
func (a *author) over(op int, b *author) *author {
	a.do(op, 0, 0, len(b.b))
	from := len(a.b)
	a.b = append(a.b, b.b...)
	for _, r := range b.rels {
		r.Off += from
		a.rels = append(a.rels, r)
	}
	return a
}

// Sections of each object; functions follow.
const (
	strSec = 1 + iota
	fixedSec
	dataSec
	zeroSec
	wordSec
	ahead
)

// program is what is known of an object that is made.
type program struct {
	c         *counter
	functions int
	strings   []int // symbols of strings
	number    int   // a symbol that is absolute
	others    []int // symbols of functions of other objects
}

// lea writes what lays a place, by a symbol, into a register, in one of the ways that there are.
func (p *program) lea(a *author, m, sym, more int) {
	switch p.c.next(4) {
	case 0:
		a.by(2, 0, m, api.R64, sym, more)
	case 1:
		a.by(1, 0, m, api.R32S, sym, more)
	default:
		a.by(3, m, 0, []int{api.RPC32, api.RPLT32}[p.c.next(2)], sym, more)
	}
}

// bytesSym tells the symbol of something of which bytes are read, and how many there are.
func (p *program) bytesSym() (sym, size int) {
	switch p.c.next(5) {
	case 0:
		return fixedSec, 16
	case 1:
		return zeroSec, 32
	case 2:
		return wordSec, 8
	}
	return p.strings[p.c.next(len(p.strings))], 2
}

// function tells the symbol of a function that comes later than another one, or of another object.
func (p *program) function(i int) (int, bool) {
	if len(p.others) > 0 && p.c.next(4) == 0 {
		return p.others[p.c.next(len(p.others))], true
	}
	if i+1 >= p.functions {
		return 0, false
	}
	return ahead + i + 1 + p.c.next(p.functions-i-1), true
}

// call writes a call of a function that comes later, in one of the ways that there are.
func (p *program) call(a *author, i int) {
	sym, ok := p.function(i)
	if !ok {
		return
	}
	switch p.c.next(6) {
	case 0:
		p.lea(a, rbx, sym, 0)
		a.do(18, 0, rbx, 0)
	case 1:
		// By the table, which names functions at 0 and 8.
		p.lea(a, rbx, dataSec, 0)
		a.do(4, rbx, rbx, 8*p.c.next(2)).do(18, 0, rbx, 0)
	case 2:
		a.by(13, 0, 0, api.RPC32, sym, 0)
	case 3:
		a.do(1, 0, rcx, p.c.next(2)).do(12, rcx, rcx, 0).by(14+p.c.next(3), 0, 0, api.RPLT32, sym, 0)
	default:
		a.by(17, 0, 0, []int{api.RPC32, api.RPLT32}[p.c.next(2)], sym, 0)
	}
}

// bytes writes what reads, and writes, bytes, and tells them.
func (p *program) bytes(a *author) {
	c := p.c
	sym, size := p.bytesSym()
	switch c.next(7) {
	case 0:
		p.lea(a, rsi, sym, 0)
		a.do(6, rdi, rsi, c.next(size)).out()
	case 1:
		a.do(1, 0, rcx, c.next(size)).by(6, rdi, rcx, api.R32S, sym, 0).out()
	case 2:
		at := 8 * c.next(4)
		p.lea(a, rbx, zeroSec, at)
		a.do(1, 0, rcx, c.next(99)-40).do(5, rcx, rbx, 0).do(4, rdi, rbx, 0).out()
	case 3:
		// A place is written, read again, and gone by.
		p.lea(a, rbx, []int{zeroSec, dataSec}[c.next(2)], 16)
		p.lea(a, rcx, sym, c.next(size))
		a.do(5, rcx, rbx, 0).do(4, rsi, rbx, 0).do(6, rdi, rsi, 0).out()
	case 4:
		p.lea(a, rbx, dataSec, 24)
		a.do(4, rdi, rbx, 0).out().do(1, 0, rcx, 7).do(7, rcx, rbx, 9).do(4, rdi, rbx, 8).out()
	case 5:
		p.lea(a, rsi, dataSec, 16)
		a.do(4, rsi, rsi, 0).do(6, rdi, rsi, 0).out()
	default:
		// On the stack.
		a.do(11, 0, rsp, -8).do(8, rsp, rbp, 0).do(5, rdi, rbp, 0).do(4, rcx, rbp, 0).do(11, 0, rsp, 8)
	}
}

// sums writes what adds, holds against each other, and jumps, and tells what comes of it.
func (p *program) sums(a *author) {
	c := p.c
	sym, size := p.bytesSym()
	skipped := new(author).do(1, 0, rdi, c.next(9)).out()
	jump := 14 + c.next(3)
	switch c.next(8) {
	case 0:
		a.do(1, 0, rcx, c.next(3)).do(1, 0, rdx, c.next(3)).do(12, rdx, rcx, 0).over(jump, skipped)
	case 1:
		p.lea(a, rcx, sym, c.next(size))
		p.lea(a, rdx, sym, c.next(size))
		a.do(12, rdx, rcx, 0).over(jump, skipped)
	case 2:
		p.lea(a, rcx, sym, 0)
		a.do(1, 0, rdx, 0).do(12, rdx, rcx, 0).over(14+c.next(2), skipped)
	case 3:
		other, _ := p.bytesSym()
		p.lea(a, rcx, sym, 0)
		p.lea(a, rdx, other, 0)
		a.do(12, rdx, rcx, 0).over(14+c.next(2), skipped)
	case 4:
		p.lea(a, rcx, sym, c.next(size))
		p.lea(a, rdx, sym, c.next(size))
		a.do(10, rdx, rcx, 0).do(8, rcx, rdi, 0).out()
	case 5:
		a.by(1, 0, rdi, api.R32S, p.number, c.next(9)-4).do(9, rdi, rdi, 0).out()
	case 6:
		// Round a few times.
		round := len(a.b) + 7
		a.do(1, 0, rdx, 1+c.next(3)).do(11, 0, rdx, -1).do(8, rdx, rdi, 0).out().do(1, 0, rcx, 0).do(12, rcx, rdx, 0)
		a.do(15, 0, 0, round-len(a.b)-6)
	default:
		a.do(1, 0, rax, 0).do(20, 0, 0, 0).do(8, rax, rdi, 0).do(1, 0, rcx, -1).do(12, rcx, rdi, 0).over(14, new(author).out())
	}
}

// body writes a function.
func (p *program) body(i int) *author {
	a := &author{}
	for range 1 + p.c.next(3) {
		switch p.c.next(6) {
		case 0, 1:
			p.call(a, i)
		case 2, 3:
			p.bytes(a)
		default:
			p.sums(a)
		}
	}
	return a
}

// table tells what is written: two functions, a string, and two numbers.
func (p *program) table() api.Sec {
	first, ok := p.function(0)
	second, _ := p.function(0)
	if !ok {
		first, second = ahead, ahead
	}
	return data("................................12345678", rel(0, api.R64, first, 0), rel(8, api.R64, second, 0), rel(16, api.R64, p.strings[p.c.next(len(p.strings))], 0), rel(24, api.R64, p.number, 3))
}

// program tells the object of a number, of so many, by where the counter is; the first one has the entry f, which ends.
func (c *counter) program(number, many int) api.Obj {
	p := &program{c: c, functions: 2 + c.next(4)}
	syms := []api.Sym{}
	for i := range ahead - 1 + p.functions {
		syms = append(syms, local(i+1, 0))
	}
	add := func(y api.Sym) int {
		syms = append(syms, y)
		return len(syms)
	}
	text := []string{"ab\x00b\x00xab\x00", "b\x00ab\x00\x00cb\x00", "xab\x00ab\x00ab\x00"}[c.next(3)]
	for i, b := range []byte(text) {
		if i == 0 || b != 0 && text[i-1] == 0 {
			p.strings = append(p.strings, add(local(strSec, i)))
		}
	}
	p.number = add(local(-1, 7))
	locals := len(syms)
	name := "g" + string(rune('0'+number))
	if number == 0 {
		add(global("f", ahead, 0))
	}
	add(global(name, ahead+1, 0))
	p.others = append(p.others, add(weak("w", ahead+p.functions-1, 0)))
	if number+1 < many {
		p.others = append(p.others, add(global("g"+string(rune('1'+number)), 0, 0)))
	}
	l := secs(texts(text), fixed("0123456789abcdef"), p.table(), zeros(32), fixed("87654321"))
	l[wordSec-1].Name, l[wordSec-1].Flags, l[wordSec-1].Ent, l[wordSec-1].Align = ".word", api.Alloc|api.Merge, 8, 8
	l = append(l, p.code(number == 0)...)
	o := object(l, syms...)
	if o.HasSig = c.next(4) > 0; o.HasSig {
		for range c.next(4) {
			o.Sig = append(o.Sig, 1+c.next(locals))
		}
	}
	return o
}

// code tells the functions; the first one, if it is the entry, calls others, and ends; some are as the one ahead of them.
func (p *program) code(hasEntry bool) []api.Sec {
	var l []api.Sec
	var last *author
	for i := range p.functions {
		a := p.body(i)
		if last != nil && i > 1 && p.c.next(2) == 0 {
			a = last
		}
		last = &author{b: slices.Clone(a.b), rels: slices.Clone(a.rels)}
		if i == 0 && hasEntry {
			for k := 1; k < p.functions; k++ {
				if p.c.next(3) > 0 {
					a.by(17, 0, 0, api.RPLT32, ahead+k, 0)
				}
			}
			a.do(1, 0, rdi, p.c.next(99)).end()
		} else {
			a.do(19, 0, 0, 0)
		}
		l = append(l, code(string(a.b), a.rels...))
	}
	return l
}
