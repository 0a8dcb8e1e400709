package isa

import "bolthole/api"

// Operands that are registers; none: a shape has no operand there.
const (
	none = iota
	regD
	regA
	regB
)

// Shapes that instructions have.
const (
	bare = iota
	constant
	offset
	triple
	store
	intoD
	fromA
	branch
	jump
	call
	table
)

// operator: the bytes with which a Kind begins (long: 0, if it is never Long), and its shape.
type operator struct {
	first byte
	long  byte
	shape int
}

// shape of what follows the first byte: which registers stand in the halves of the next byte (without an upper one the lower one has it whole), which one in the byte behind that, and in how many bytes N stands, if it is not Long.
type shape struct {
	upper int
	lower int
	third int
	width int
}

func (s shape) has(operand int) bool {
	return s.upper == operand || s.lower == operand || s.third == operand
}

var operators = [api.Table + 1]operator{
	api.Halt:  {0x00, 0, bare},
	api.Trap:  {0x01, 0, bare},
	api.Ret:   {0x02, 0, bare},
	api.Nop:   {0x03, 0, bare},
	api.Li:    {0x10, 0, constant},
	api.Addi:  {0x11, 0, offset},
	api.Add:   {0x20, 0, triple},
	api.Sub:   {0x21, 0, triple},
	api.Mul:   {0x22, 0, triple},
	api.And:   {0x23, 0, triple},
	api.Or:    {0x24, 0, triple},
	api.Xor:   {0x25, 0, triple},
	api.Slt:   {0x26, 0, triple},
	api.Load:  {0x30, 0, offset},
	api.Store: {0x31, 0, store},
	api.In:    {0x40, 0, intoD},
	api.Out:   {0x41, 0, fromA},
	api.Beq:   {0x50, 0x54, branch},
	api.Bne:   {0x51, 0x55, branch},
	api.Blt:   {0x52, 0x56, branch},
	api.Bge:   {0x53, 0x57, branch},
	api.Jump:  {0x60, 0x61, jump},
	api.Call:  {0x62, 0, call},
	api.Table: {0x63, 0, table},
}

var shapes = [table + 1]shape{
	bare:     {none, none, none, 0},
	constant: {none, regD, none, 2},
	offset:   {regD, regA, none, 1},
	triple:   {regD, regA, regB, 0},
	store:    {regB, regA, none, 1},
	intoD:    {none, regD, none, 0},
	fromA:    {none, regA, none, 0},
	branch:   {regA, regB, none, 1},
	jump:     {none, none, none, 1},
	call:     {none, none, none, 2},
	table:    {none, regA, none, 1},
}
