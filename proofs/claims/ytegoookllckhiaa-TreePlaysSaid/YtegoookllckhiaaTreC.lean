/-
  The frame of TreePlays, and the tail of a round.
  Conditions: none.
-/
import Derived.Test.YtegoookllckhiaaTreX
import Derived.Test.YtegoookllckhiaaPieces
import Derived.KernelRfl
namespace Go.Proofs.Ytegoookllckhiaa
open Go.RowKit

def TrL (a : Act) (x8 x9 x11 x12 x14 x15 : Value) : Prop := a.defers = [] ∧ a.tmps.size = 227 ∧ a.tmps.getD 8 undef = x8 ∧ a.tmps.getD 9 undef = x9 ∧ a.tmps.getD 11 undef = x11 ∧ a.tmps.getD 12 undef = x12 ∧ a.tmps.getD 14 undef = x14 ∧ a.tmps.getD 15 undef = x15
set_option maxRecDepth 100000 in
theorem TrL.open_ {a : Act} {x8 x9 x11 x12 x14 x15 : Value} (h : TrL a x8 x9 x11 x12 x14 x15) : ∃ u : Nat → Value, a = ⟨#[u 0, u 1, u 2, u 3, u 4, u 5, u 6, u 7, x8, x9, u 10, x11, x12, u 13, x14, x15, u 16, u 17, u 18, u 19, u 20, u 21, u 22, u 23, u 24, u 25, u 26, u 27, u 28, u 29, u 30, u 31, u 32, u 33, u 34, u 35, u 36, u 37, u 38, u 39, u 40, u 41, u 42, u 43, u 44, u 45, u 46, u 47, u 48, u 49, u 50, u 51, u 52, u 53, u 54, u 55, u 56, u 57, u 58, u 59, u 60, u 61, u 62, u 63, u 64, u 65, u 66, u 67, u 68, u 69, u 70, u 71, u 72, u 73, u 74, u 75, u 76, u 77, u 78, u 79, u 80, u 81, u 82, u 83, u 84, u 85, u 86, u 87, u 88, u 89, u 90, u 91, u 92, u 93, u 94, u 95, u 96, u 97, u 98, u 99, u 100, u 101, u 102, u 103, u 104, u 105, u 106, u 107, u 108, u 109, u 110, u 111, u 112, u 113, u 114, u 115, u 116, u 117, u 118, u 119, u 120, u 121, u 122, u 123, u 124, u 125, u 126, u 127, u 128, u 129, u 130, u 131, u 132, u 133, u 134, u 135, u 136, u 137, u 138, u 139, u 140, u 141, u 142, u 143, u 144, u 145, u 146, u 147, u 148, u 149, u 150, u 151, u 152, u 153, u 154, u 155, u 156, u 157, u 158, u 159, u 160, u 161, u 162, u 163, u 164, u 165, u 166, u 167, u 168, u 169, u 170, u 171, u 172, u 173, u 174, u 175, u 176, u 177, u 178, u 179, u 180, u 181, u 182, u 183, u 184, u 185, u 186, u 187, u 188, u 189, u 190, u 191, u 192, u 193, u 194, u 195, u 196, u 197, u 198, u 199, u 200, u 201, u 202, u 203, u 204, u 205, u 206, u 207, u 208, u 209, u 210, u 211, u 212, u 213, u 214, u 215, u 216, u 217, u 218, u 219, u 220, u 221, u 222, u 223, u 224, u 225, u 226], []⟩ := by
  obtain ⟨hd, hs, rfl, rfl, rfl, rfl, rfl, rfl⟩ := h
  refine ⟨fun k => a.tmps.getD k undef, ?_⟩
  obtain ⟨t, d⟩ := a
  obtain rfl : d = [] := hd
  exact congrArg (fun t' => Act.mk t' []) (arr_range t 227 hs)
/-- The tail turns no other slots. -/
def TrK (a a' : Act) : Prop := a'.defers = [] ∧ a'.tmps.size = 227 ∧ a'.tmps.getD 0 undef = a.tmps.getD 0 undef ∧ a'.tmps.getD 1 undef = a.tmps.getD 1 undef ∧ a'.tmps.getD 2 undef = a.tmps.getD 2 undef ∧ a'.tmps.getD 3 undef = a.tmps.getD 3 undef ∧ a'.tmps.getD 4 undef = a.tmps.getD 4 undef ∧ a'.tmps.getD 5 undef = a.tmps.getD 5 undef ∧ a'.tmps.getD 7 undef = a.tmps.getD 7 undef ∧ a'.tmps.getD 8 undef = a.tmps.getD 8 undef ∧ a'.tmps.getD 9 undef = a.tmps.getD 9 undef ∧ a'.tmps.getD 10 undef = a.tmps.getD 10 undef ∧ a'.tmps.getD 11 undef = a.tmps.getD 11 undef ∧ a'.tmps.getD 12 undef = a.tmps.getD 12 undef ∧ a'.tmps.getD 13 undef = a.tmps.getD 13 undef ∧ a'.tmps.getD 14 undef = a.tmps.getD 14 undef ∧ a'.tmps.getD 20 undef = a.tmps.getD 20 undef ∧ a'.tmps.getD 21 undef = a.tmps.getD 21 undef ∧ a'.tmps.getD 22 undef = a.tmps.getD 22 undef ∧ a'.tmps.getD 23 undef = a.tmps.getD 23 undef ∧ a'.tmps.getD 24 undef = a.tmps.getD 24 undef ∧ a'.tmps.getD 25 undef = a.tmps.getD 25 undef ∧ a'.tmps.getD 26 undef = a.tmps.getD 26 undef ∧ a'.tmps.getD 27 undef = a.tmps.getD 27 undef ∧ a'.tmps.getD 28 undef = a.tmps.getD 28 undef ∧ a'.tmps.getD 29 undef = a.tmps.getD 29 undef ∧ a'.tmps.getD 30 undef = a.tmps.getD 30 undef ∧ a'.tmps.getD 31 undef = a.tmps.getD 31 undef ∧ a'.tmps.getD 32 undef = a.tmps.getD 32 undef ∧ a'.tmps.getD 33 undef = a.tmps.getD 33 undef ∧ a'.tmps.getD 34 undef = a.tmps.getD 34 undef ∧ a'.tmps.getD 35 undef = a.tmps.getD 35 undef ∧ a'.tmps.getD 36 undef = a.tmps.getD 36 undef ∧ a'.tmps.getD 37 undef = a.tmps.getD 37 undef ∧ a'.tmps.getD 38 undef = a.tmps.getD 38 undef ∧ a'.tmps.getD 39 undef = a.tmps.getD 39 undef ∧ a'.tmps.getD 40 undef = a.tmps.getD 40 undef ∧ a'.tmps.getD 41 undef = a.tmps.getD 41 undef ∧ a'.tmps.getD 42 undef = a.tmps.getD 42 undef ∧ a'.tmps.getD 43 undef = a.tmps.getD 43 undef ∧ a'.tmps.getD 44 undef = a.tmps.getD 44 undef ∧ a'.tmps.getD 45 undef = a.tmps.getD 45 undef ∧ a'.tmps.getD 46 undef = a.tmps.getD 46 undef ∧ a'.tmps.getD 47 undef = a.tmps.getD 47 undef ∧ a'.tmps.getD 48 undef = a.tmps.getD 48 undef ∧ a'.tmps.getD 49 undef = a.tmps.getD 49 undef ∧ a'.tmps.getD 50 undef = a.tmps.getD 50 undef ∧ a'.tmps.getD 51 undef = a.tmps.getD 51 undef ∧ a'.tmps.getD 176 undef = a.tmps.getD 176 undef ∧ a'.tmps.getD 177 undef = a.tmps.getD 177 undef ∧ a'.tmps.getD 178 undef = a.tmps.getD 178 undef ∧ a'.tmps.getD 179 undef = a.tmps.getD 179 undef ∧ a'.tmps.getD 180 undef = a.tmps.getD 180 undef ∧ a'.tmps.getD 181 undef = a.tmps.getD 181 undef ∧ a'.tmps.getD 182 undef = a.tmps.getD 182 undef ∧ a'.tmps.getD 183 undef = a.tmps.getD 183 undef ∧ a'.tmps.getD 184 undef = a.tmps.getD 184 undef ∧ a'.tmps.getD 185 undef = a.tmps.getD 185 undef ∧ a'.tmps.getD 186 undef = a.tmps.getD 186 undef ∧ a'.tmps.getD 187 undef = a.tmps.getD 187 undef ∧ a'.tmps.getD 188 undef = a.tmps.getD 188 undef ∧ a'.tmps.getD 189 undef = a.tmps.getD 189 undef ∧ a'.tmps.getD 190 undef = a.tmps.getD 190 undef ∧ a'.tmps.getD 191 undef = a.tmps.getD 191 undef ∧ a'.tmps.getD 192 undef = a.tmps.getD 192 undef ∧ a'.tmps.getD 193 undef = a.tmps.getD 193 undef ∧ a'.tmps.getD 194 undef = a.tmps.getD 194 undef ∧ a'.tmps.getD 195 undef = a.tmps.getD 195 undef ∧ a'.tmps.getD 196 undef = a.tmps.getD 196 undef ∧ a'.tmps.getD 197 undef = a.tmps.getD 197 undef ∧ a'.tmps.getD 198 undef = a.tmps.getD 198 undef ∧ a'.tmps.getD 199 undef = a.tmps.getD 199 undef ∧ a'.tmps.getD 200 undef = a.tmps.getD 200 undef ∧ a'.tmps.getD 201 undef = a.tmps.getD 201 undef ∧ a'.tmps.getD 202 undef = a.tmps.getD 202 undef ∧ a'.tmps.getD 203 undef = a.tmps.getD 203 undef ∧ a'.tmps.getD 204 undef = a.tmps.getD 204 undef ∧ a'.tmps.getD 205 undef = a.tmps.getD 205 undef ∧ a'.tmps.getD 206 undef = a.tmps.getD 206 undef ∧ a'.tmps.getD 207 undef = a.tmps.getD 207 undef ∧ a'.tmps.getD 208 undef = a.tmps.getD 208 undef ∧ a'.tmps.getD 209 undef = a.tmps.getD 209 undef ∧ a'.tmps.getD 210 undef = a.tmps.getD 210 undef ∧ a'.tmps.getD 211 undef = a.tmps.getD 211 undef ∧ a'.tmps.getD 212 undef = a.tmps.getD 212 undef ∧ a'.tmps.getD 213 undef = a.tmps.getD 213 undef ∧ a'.tmps.getD 214 undef = a.tmps.getD 214 undef ∧ a'.tmps.getD 215 undef = a.tmps.getD 215 undef ∧ a'.tmps.getD 216 undef = a.tmps.getD 216 undef ∧ a'.tmps.getD 217 undef = a.tmps.getD 217 undef ∧ a'.tmps.getD 218 undef = a.tmps.getD 218 undef ∧ a'.tmps.getD 219 undef = a.tmps.getD 219 undef ∧ a'.tmps.getD 220 undef = a.tmps.getD 220 undef ∧ a'.tmps.getD 221 undef = a.tmps.getD 221 undef ∧ a'.tmps.getD 222 undef = a.tmps.getD 222 undef ∧ a'.tmps.getD 223 undef = a.tmps.getD 223 undef ∧ a'.tmps.getD 224 undef = a.tmps.getD 224 undef ∧ a'.tmps.getD 225 undef = a.tmps.getD 225 undef ∧ a'.tmps.getD 226 undef = a.tmps.getD 226 undef
set_option maxRecDepth 100000 in
theorem TrK.open_ {a' : Act} {x0 x1 x2 x3 x4 x5 x6 x7 x8 x9 x10 x11 x12 x13 x14 x15 x16 x17 x18 x19 x20 x21 x22 x23 x24 x25 x26 x27 x28 x29 x30 x31 x32 x33 x34 x35 x36 x37 x38 x39 x40 x41 x42 x43 x44 x45 x46 x47 x48 x49 x50 x51 x52 x53 x54 x55 x56 x57 x58 x59 x60 x61 x62 x63 x64 x65 x66 x67 x68 x69 x70 x71 x72 x73 x74 x75 x76 x77 x78 x79 x80 x81 x82 x83 x84 x85 x86 x87 x88 x89 x90 x91 x92 x93 x94 x95 x96 x97 x98 x99 x100 x101 x102 x103 x104 x105 x106 x107 x108 x109 x110 x111 x112 x113 x114 x115 x116 x117 x118 x119 x120 x121 x122 x123 x124 x125 x126 x127 x128 x129 x130 x131 x132 x133 x134 x135 x136 x137 x138 x139 x140 x141 x142 x143 x144 x145 x146 x147 x148 x149 x150 x151 x152 x153 x154 x155 x156 x157 x158 x159 x160 x161 x162 x163 x164 x165 x166 x167 x168 x169 x170 x171 x172 x173 x174 x175 x176 x177 x178 x179 x180 x181 x182 x183 x184 x185 x186 x187 x188 x189 x190 x191 x192 x193 x194 x195 x196 x197 x198 x199 x200 x201 x202 x203 x204 x205 x206 x207 x208 x209 x210 x211 x212 x213 x214 x215 x216 x217 x218 x219 x220 x221 x222 x223 x224 x225 x226 : Value} (h : TrK ⟨#[x0, x1, x2, x3, x4, x5, x6, x7, x8, x9, x10, x11, x12, x13, x14, x15, x16, x17, x18, x19, x20, x21, x22, x23, x24, x25, x26, x27, x28, x29, x30, x31, x32, x33, x34, x35, x36, x37, x38, x39, x40, x41, x42, x43, x44, x45, x46, x47, x48, x49, x50, x51, x52, x53, x54, x55, x56, x57, x58, x59, x60, x61, x62, x63, x64, x65, x66, x67, x68, x69, x70, x71, x72, x73, x74, x75, x76, x77, x78, x79, x80, x81, x82, x83, x84, x85, x86, x87, x88, x89, x90, x91, x92, x93, x94, x95, x96, x97, x98, x99, x100, x101, x102, x103, x104, x105, x106, x107, x108, x109, x110, x111, x112, x113, x114, x115, x116, x117, x118, x119, x120, x121, x122, x123, x124, x125, x126, x127, x128, x129, x130, x131, x132, x133, x134, x135, x136, x137, x138, x139, x140, x141, x142, x143, x144, x145, x146, x147, x148, x149, x150, x151, x152, x153, x154, x155, x156, x157, x158, x159, x160, x161, x162, x163, x164, x165, x166, x167, x168, x169, x170, x171, x172, x173, x174, x175, x176, x177, x178, x179, x180, x181, x182, x183, x184, x185, x186, x187, x188, x189, x190, x191, x192, x193, x194, x195, x196, x197, x198, x199, x200, x201, x202, x203, x204, x205, x206, x207, x208, x209, x210, x211, x212, x213, x214, x215, x216, x217, x218, x219, x220, x221, x222, x223, x224, x225, x226], []⟩ a') : ∃ v : Nat → Value, a' = ⟨#[x0, x1, x2, x3, x4, x5, v 6, x7, x8, x9, x10, x11, x12, x13, x14, v 15, v 16, v 17, v 18, v 19, x20, x21, x22, x23, x24, x25, x26, x27, x28, x29, x30, x31, x32, x33, x34, x35, x36, x37, x38, x39, x40, x41, x42, x43, x44, x45, x46, x47, x48, x49, x50, x51, v 52, v 53, v 54, v 55, v 56, v 57, v 58, v 59, v 60, v 61, v 62, v 63, v 64, v 65, v 66, v 67, v 68, v 69, v 70, v 71, v 72, v 73, v 74, v 75, v 76, v 77, v 78, v 79, v 80, v 81, v 82, v 83, v 84, v 85, v 86, v 87, v 88, v 89, v 90, v 91, v 92, v 93, v 94, v 95, v 96, v 97, v 98, v 99, v 100, v 101, v 102, v 103, v 104, v 105, v 106, v 107, v 108, v 109, v 110, v 111, v 112, v 113, v 114, v 115, v 116, v 117, v 118, v 119, v 120, v 121, v 122, v 123, v 124, v 125, v 126, v 127, v 128, v 129, v 130, v 131, v 132, v 133, v 134, v 135, v 136, v 137, v 138, v 139, v 140, v 141, v 142, v 143, v 144, v 145, v 146, v 147, v 148, v 149, v 150, v 151, v 152, v 153, v 154, v 155, v 156, v 157, v 158, v 159, v 160, v 161, v 162, v 163, v 164, v 165, v 166, v 167, v 168, v 169, v 170, v 171, v 172, v 173, v 174, v 175, x176, x177, x178, x179, x180, x181, x182, x183, x184, x185, x186, x187, x188, x189, x190, x191, x192, x193, x194, x195, x196, x197, x198, x199, x200, x201, x202, x203, x204, x205, x206, x207, x208, x209, x210, x211, x212, x213, x214, x215, x216, x217, x218, x219, x220, x221, x222, x223, x224, x225, x226], []⟩ := by
  obtain ⟨hd, hs, h0, h1, h2, h3, h4, h5, h7, h8, h9, h10, h11, h12, h13, h14, h20, h21, h22, h23, h24, h25, h26, h27, h28, h29, h30, h31, h32, h33, h34, h35, h36, h37, h38, h39, h40, h41, h42, h43, h44, h45, h46, h47, h48, h49, h50, h51, h176, h177, h178, h179, h180, h181, h182, h183, h184, h185, h186, h187, h188, h189, h190, h191, h192, h193, h194, h195, h196, h197, h198, h199, h200, h201, h202, h203, h204, h205, h206, h207, h208, h209, h210, h211, h212, h213, h214, h215, h216, h217, h218, h219, h220, h221, h222, h223, h224, h225, h226⟩ := h
  refine ⟨fun k => a'.tmps.getD k undef, ?_⟩
  obtain ⟨t, d⟩ := a'
  obtain rfl : d = [] := hd
  have e0 : t.getD 0 undef = x0 := h0
  have e1 : t.getD 1 undef = x1 := h1
  have e2 : t.getD 2 undef = x2 := h2
  have e3 : t.getD 3 undef = x3 := h3
  have e4 : t.getD 4 undef = x4 := h4
  have e5 : t.getD 5 undef = x5 := h5
  have e7 : t.getD 7 undef = x7 := h7
  have e8 : t.getD 8 undef = x8 := h8
  have e9 : t.getD 9 undef = x9 := h9
  have e10 : t.getD 10 undef = x10 := h10
  have e11 : t.getD 11 undef = x11 := h11
  have e12 : t.getD 12 undef = x12 := h12
  have e13 : t.getD 13 undef = x13 := h13
  have e14 : t.getD 14 undef = x14 := h14
  have e20 : t.getD 20 undef = x20 := h20
  have e21 : t.getD 21 undef = x21 := h21
  have e22 : t.getD 22 undef = x22 := h22
  have e23 : t.getD 23 undef = x23 := h23
  have e24 : t.getD 24 undef = x24 := h24
  have e25 : t.getD 25 undef = x25 := h25
  have e26 : t.getD 26 undef = x26 := h26
  have e27 : t.getD 27 undef = x27 := h27
  have e28 : t.getD 28 undef = x28 := h28
  have e29 : t.getD 29 undef = x29 := h29
  have e30 : t.getD 30 undef = x30 := h30
  have e31 : t.getD 31 undef = x31 := h31
  have e32 : t.getD 32 undef = x32 := h32
  have e33 : t.getD 33 undef = x33 := h33
  have e34 : t.getD 34 undef = x34 := h34
  have e35 : t.getD 35 undef = x35 := h35
  have e36 : t.getD 36 undef = x36 := h36
  have e37 : t.getD 37 undef = x37 := h37
  have e38 : t.getD 38 undef = x38 := h38
  have e39 : t.getD 39 undef = x39 := h39
  have e40 : t.getD 40 undef = x40 := h40
  have e41 : t.getD 41 undef = x41 := h41
  have e42 : t.getD 42 undef = x42 := h42
  have e43 : t.getD 43 undef = x43 := h43
  have e44 : t.getD 44 undef = x44 := h44
  have e45 : t.getD 45 undef = x45 := h45
  have e46 : t.getD 46 undef = x46 := h46
  have e47 : t.getD 47 undef = x47 := h47
  have e48 : t.getD 48 undef = x48 := h48
  have e49 : t.getD 49 undef = x49 := h49
  have e50 : t.getD 50 undef = x50 := h50
  have e51 : t.getD 51 undef = x51 := h51
  have e176 : t.getD 176 undef = x176 := h176
  have e177 : t.getD 177 undef = x177 := h177
  have e178 : t.getD 178 undef = x178 := h178
  have e179 : t.getD 179 undef = x179 := h179
  have e180 : t.getD 180 undef = x180 := h180
  have e181 : t.getD 181 undef = x181 := h181
  have e182 : t.getD 182 undef = x182 := h182
  have e183 : t.getD 183 undef = x183 := h183
  have e184 : t.getD 184 undef = x184 := h184
  have e185 : t.getD 185 undef = x185 := h185
  have e186 : t.getD 186 undef = x186 := h186
  have e187 : t.getD 187 undef = x187 := h187
  have e188 : t.getD 188 undef = x188 := h188
  have e189 : t.getD 189 undef = x189 := h189
  have e190 : t.getD 190 undef = x190 := h190
  have e191 : t.getD 191 undef = x191 := h191
  have e192 : t.getD 192 undef = x192 := h192
  have e193 : t.getD 193 undef = x193 := h193
  have e194 : t.getD 194 undef = x194 := h194
  have e195 : t.getD 195 undef = x195 := h195
  have e196 : t.getD 196 undef = x196 := h196
  have e197 : t.getD 197 undef = x197 := h197
  have e198 : t.getD 198 undef = x198 := h198
  have e199 : t.getD 199 undef = x199 := h199
  have e200 : t.getD 200 undef = x200 := h200
  have e201 : t.getD 201 undef = x201 := h201
  have e202 : t.getD 202 undef = x202 := h202
  have e203 : t.getD 203 undef = x203 := h203
  have e204 : t.getD 204 undef = x204 := h204
  have e205 : t.getD 205 undef = x205 := h205
  have e206 : t.getD 206 undef = x206 := h206
  have e207 : t.getD 207 undef = x207 := h207
  have e208 : t.getD 208 undef = x208 := h208
  have e209 : t.getD 209 undef = x209 := h209
  have e210 : t.getD 210 undef = x210 := h210
  have e211 : t.getD 211 undef = x211 := h211
  have e212 : t.getD 212 undef = x212 := h212
  have e213 : t.getD 213 undef = x213 := h213
  have e214 : t.getD 214 undef = x214 := h214
  have e215 : t.getD 215 undef = x215 := h215
  have e216 : t.getD 216 undef = x216 := h216
  have e217 : t.getD 217 undef = x217 := h217
  have e218 : t.getD 218 undef = x218 := h218
  have e219 : t.getD 219 undef = x219 := h219
  have e220 : t.getD 220 undef = x220 := h220
  have e221 : t.getD 221 undef = x221 := h221
  have e222 : t.getD 222 undef = x222 := h222
  have e223 : t.getD 223 undef = x223 := h223
  have e224 : t.getD 224 undef = x224 := h224
  have e225 : t.getD 225 undef = x225 := h225
  have e226 : t.getD 226 undef = x226 := h226
  refine congrArg (fun t' => Act.mk t' []) ((arr_range t 227 hs).trans ?_)
  have hl : (List.range 227).map (fun k => t.getD k undef) = [x0, x1, x2, x3, x4, x5, t.getD 6 undef, x7, x8, x9, x10, x11, x12, x13, x14, t.getD 15 undef, t.getD 16 undef, t.getD 17 undef, t.getD 18 undef, t.getD 19 undef, x20, x21, x22, x23, x24, x25, x26, x27, x28, x29, x30, x31, x32, x33, x34, x35, x36, x37, x38, x39, x40, x41, x42, x43, x44, x45, x46, x47, x48, x49, x50, x51, t.getD 52 undef, t.getD 53 undef, t.getD 54 undef, t.getD 55 undef, t.getD 56 undef, t.getD 57 undef, t.getD 58 undef, t.getD 59 undef, t.getD 60 undef, t.getD 61 undef, t.getD 62 undef, t.getD 63 undef, t.getD 64 undef, t.getD 65 undef, t.getD 66 undef, t.getD 67 undef, t.getD 68 undef, t.getD 69 undef, t.getD 70 undef, t.getD 71 undef, t.getD 72 undef, t.getD 73 undef, t.getD 74 undef, t.getD 75 undef, t.getD 76 undef, t.getD 77 undef, t.getD 78 undef, t.getD 79 undef, t.getD 80 undef, t.getD 81 undef, t.getD 82 undef, t.getD 83 undef, t.getD 84 undef, t.getD 85 undef, t.getD 86 undef, t.getD 87 undef, t.getD 88 undef, t.getD 89 undef, t.getD 90 undef, t.getD 91 undef, t.getD 92 undef, t.getD 93 undef, t.getD 94 undef, t.getD 95 undef, t.getD 96 undef, t.getD 97 undef, t.getD 98 undef, t.getD 99 undef, t.getD 100 undef, t.getD 101 undef, t.getD 102 undef, t.getD 103 undef, t.getD 104 undef, t.getD 105 undef, t.getD 106 undef, t.getD 107 undef, t.getD 108 undef, t.getD 109 undef, t.getD 110 undef, t.getD 111 undef, t.getD 112 undef, t.getD 113 undef, t.getD 114 undef, t.getD 115 undef, t.getD 116 undef, t.getD 117 undef, t.getD 118 undef, t.getD 119 undef, t.getD 120 undef, t.getD 121 undef, t.getD 122 undef, t.getD 123 undef, t.getD 124 undef, t.getD 125 undef, t.getD 126 undef, t.getD 127 undef, t.getD 128 undef, t.getD 129 undef, t.getD 130 undef, t.getD 131 undef, t.getD 132 undef, t.getD 133 undef, t.getD 134 undef, t.getD 135 undef, t.getD 136 undef, t.getD 137 undef, t.getD 138 undef, t.getD 139 undef, t.getD 140 undef, t.getD 141 undef, t.getD 142 undef, t.getD 143 undef, t.getD 144 undef, t.getD 145 undef, t.getD 146 undef, t.getD 147 undef, t.getD 148 undef, t.getD 149 undef, t.getD 150 undef, t.getD 151 undef, t.getD 152 undef, t.getD 153 undef, t.getD 154 undef, t.getD 155 undef, t.getD 156 undef, t.getD 157 undef, t.getD 158 undef, t.getD 159 undef, t.getD 160 undef, t.getD 161 undef, t.getD 162 undef, t.getD 163 undef, t.getD 164 undef, t.getD 165 undef, t.getD 166 undef, t.getD 167 undef, t.getD 168 undef, t.getD 169 undef, t.getD 170 undef, t.getD 171 undef, t.getD 172 undef, t.getD 173 undef, t.getD 174 undef, t.getD 175 undef, x176, x177, x178, x179, x180, x181, x182, x183, x184, x185, x186, x187, x188, x189, x190, x191, x192, x193, x194, x195, x196, x197, x198, x199, x200, x201, x202, x203, x204, x205, x206, x207, x208, x209, x210, x211, x212, x213, x214, x215, x216, x217, x218, x219, x220, x221, x222, x223, x224, x225, x226] := by
    rw [← e0, ← e1, ← e2, ← e3, ← e4, ← e5, ← e7, ← e8, ← e9, ← e10, ← e11, ← e12, ← e13, ← e14, ← e20, ← e21, ← e22, ← e23, ← e24, ← e25, ← e26, ← e27, ← e28, ← e29, ← e30, ← e31, ← e32, ← e33, ← e34, ← e35, ← e36, ← e37, ← e38, ← e39, ← e40, ← e41, ← e42, ← e43, ← e44, ← e45, ← e46, ← e47, ← e48, ← e49, ← e50, ← e51, ← e176, ← e177, ← e178, ← e179, ← e180, ← e181, ← e182, ← e183, ← e184, ← e185, ← e186, ← e187, ← e188, ← e189, ← e190, ← e191, ← e192, ← e193, ← e194, ← e195, ← e196, ← e197, ← e198, ← e199, ← e200, ← e201, ← e202, ← e203, ← e204, ← e205, ← e206, ← e207, ← e208, ← e209, ← e210, ← e211, ← e212, ← e213, ← e214, ← e215, ← e216, ← e217, ← e218, ← e219, ← e220, ← e221, ← e222, ← e223, ← e224, ← e225, ← e226]
    rfl
  rw [hl]

noncomputable def cTail12 : Code := cAt (Try.f3.body.getD .skip) [true, true, true, true, true, true, true, false, true, false, false, true, false, false, true, true, true]
def pagesU (e : List En) (n : Nat) : List Nat := (List.range n).filter (fun p => decide ((e.getD p en0).k ≠ 0))
theorem pagesU_all (e : List En) : pagesU e 4096 = pagesOf e := rfl
theorem pagesU_yes {e : List En} {n : Nat} (h : (e.getD n en0).k ≠ 0) : pagesU e (n + 1) = pagesU e n ++ [n] := by
  unfold pagesU
  rw [List.range_succ, List.filter_append]
  congr 1
  exact List.filter_cons_of_pos (decide_eq_true h)
theorem pagesU_no {e : List En} {n : Nat} (h : (e.getD n en0).k = 0) : pagesU e (n + 1) = pagesU e n := by
  unfold pagesU
  rw [List.range_succ, List.filter_append]
  have : List.filter (fun p => decide ((e.getD p en0).k ≠ 0)) [n] = [] := List.filter_cons_of_neg (by simpa using h)
  rw [this, List.append_nil]
theorem pagesU_le (e : List En) (n : Nat) : (pagesU e n).length ≤ n := by
  have := List.length_filter_le (fun p => decide ((e.getD p en0).k ≠ 0)) (List.range n)
  rwa [List.length_range] at this
/-- What a round's tail leaves. -/
def TailT (a : Act) (w0 : World) (gT gP : Nat) (p' : PS) (s' : TS) (tt g3 : Nat) (a' : Act) (w' : World) : Prop := TrK a a' ∧ TreV w0 w' gT gP p' s' tt g3 (g3 + 1) ∧ ArrE w' g3 s'.e
end Go.Proofs.Ytegoookllckhiaa
