/-
  The frame of RamPlays and the pieces of its loop.
  Conditions: none.
-/
import Derived.Test.YtlodeejeeldplaaProg
import Derived.Test.YtlodeejeeldplaaPieces
import Derived.KernelRfl
namespace Go.Proofs.Ytlodeejeeldplaa
open Go.RowKit

/-! ### what the frame's slots hold: at the loop's head; behind a round's first part; behind its middle -/
def PlayL0 (a : Act) (x0 x1 x5 x6 x7 x8 x9 : Value) : Prop := a.defers = [] ∧ a.tmps.size = 257 ∧ a.tmps.getD 0 undef = x0 ∧ a.tmps.getD 1 undef = x1 ∧ a.tmps.getD 5 undef = x5 ∧ a.tmps.getD 6 undef = x6 ∧ a.tmps.getD 7 undef = x7 ∧ a.tmps.getD 8 undef = x8 ∧ a.tmps.getD 9 undef = x9
set_option maxRecDepth 100000 in
theorem PlayL0.open_ {a : Act} {x0 x1 x5 x6 x7 x8 x9 : Value} (h : PlayL0 a x0 x1 x5 x6 x7 x8 x9) : ∃ u : Nat → Value, a = ⟨#[x0, x1, u 2, u 3, u 4, x5, x6, x7, x8, x9, u 10, u 11, u 12, u 13, u 14, u 15, u 16, u 17, u 18, u 19, u 20, u 21, u 22, u 23, u 24, u 25, u 26, u 27, u 28, u 29, u 30, u 31, u 32, u 33, u 34, u 35, u 36, u 37, u 38, u 39, u 40, u 41, u 42, u 43, u 44, u 45, u 46, u 47, u 48, u 49, u 50, u 51, u 52, u 53, u 54, u 55, u 56, u 57, u 58, u 59, u 60, u 61, u 62, u 63, u 64, u 65, u 66, u 67, u 68, u 69, u 70, u 71, u 72, u 73, u 74, u 75, u 76, u 77, u 78, u 79, u 80, u 81, u 82, u 83, u 84, u 85, u 86, u 87, u 88, u 89, u 90, u 91, u 92, u 93, u 94, u 95, u 96, u 97, u 98, u 99, u 100, u 101, u 102, u 103, u 104, u 105, u 106, u 107, u 108, u 109, u 110, u 111, u 112, u 113, u 114, u 115, u 116, u 117, u 118, u 119, u 120, u 121, u 122, u 123, u 124, u 125, u 126, u 127, u 128, u 129, u 130, u 131, u 132, u 133, u 134, u 135, u 136, u 137, u 138, u 139, u 140, u 141, u 142, u 143, u 144, u 145, u 146, u 147, u 148, u 149, u 150, u 151, u 152, u 153, u 154, u 155, u 156, u 157, u 158, u 159, u 160, u 161, u 162, u 163, u 164, u 165, u 166, u 167, u 168, u 169, u 170, u 171, u 172, u 173, u 174, u 175, u 176, u 177, u 178, u 179, u 180, u 181, u 182, u 183, u 184, u 185, u 186, u 187, u 188, u 189, u 190, u 191, u 192, u 193, u 194, u 195, u 196, u 197, u 198, u 199, u 200, u 201, u 202, u 203, u 204, u 205, u 206, u 207, u 208, u 209, u 210, u 211, u 212, u 213, u 214, u 215, u 216, u 217, u 218, u 219, u 220, u 221, u 222, u 223, u 224, u 225, u 226, u 227, u 228, u 229, u 230, u 231, u 232, u 233, u 234, u 235, u 236, u 237, u 238, u 239, u 240, u 241, u 242, u 243, u 244, u 245, u 246, u 247, u 248, u 249, u 250, u 251, u 252, u 253, u 254, u 255, u 256], []⟩ := by
  obtain ⟨hd, hs, rfl, rfl, rfl, rfl, rfl, rfl, rfl⟩ := h
  refine ⟨fun k => a.tmps.getD k undef, ?_⟩
  obtain ⟨t, d⟩ := a
  obtain rfl : d = [] := hd
  exact congrArg (fun t' => Act.mk t' []) (arr_range t 257 hs)
def PlayL1 (a : Act) (x0 x1 x5 x6 x7 x8 x9 x10 x11 x12 x13 x14 x68 : Value) : Prop := a.defers = [] ∧ a.tmps.size = 257 ∧ a.tmps.getD 0 undef = x0 ∧ a.tmps.getD 1 undef = x1 ∧ a.tmps.getD 5 undef = x5 ∧ a.tmps.getD 6 undef = x6 ∧ a.tmps.getD 7 undef = x7 ∧ a.tmps.getD 8 undef = x8 ∧ a.tmps.getD 9 undef = x9 ∧ a.tmps.getD 10 undef = x10 ∧ a.tmps.getD 11 undef = x11 ∧ a.tmps.getD 12 undef = x12 ∧ a.tmps.getD 13 undef = x13 ∧ a.tmps.getD 14 undef = x14 ∧ a.tmps.getD 68 undef = x68
set_option maxRecDepth 100000 in
theorem PlayL1.open_ {a : Act} {x0 x1 x5 x6 x7 x8 x9 x10 x11 x12 x13 x14 x68 : Value} (h : PlayL1 a x0 x1 x5 x6 x7 x8 x9 x10 x11 x12 x13 x14 x68) : ∃ u : Nat → Value, a = ⟨#[x0, x1, u 2, u 3, u 4, x5, x6, x7, x8, x9, x10, x11, x12, x13, x14, u 15, u 16, u 17, u 18, u 19, u 20, u 21, u 22, u 23, u 24, u 25, u 26, u 27, u 28, u 29, u 30, u 31, u 32, u 33, u 34, u 35, u 36, u 37, u 38, u 39, u 40, u 41, u 42, u 43, u 44, u 45, u 46, u 47, u 48, u 49, u 50, u 51, u 52, u 53, u 54, u 55, u 56, u 57, u 58, u 59, u 60, u 61, u 62, u 63, u 64, u 65, u 66, u 67, x68, u 69, u 70, u 71, u 72, u 73, u 74, u 75, u 76, u 77, u 78, u 79, u 80, u 81, u 82, u 83, u 84, u 85, u 86, u 87, u 88, u 89, u 90, u 91, u 92, u 93, u 94, u 95, u 96, u 97, u 98, u 99, u 100, u 101, u 102, u 103, u 104, u 105, u 106, u 107, u 108, u 109, u 110, u 111, u 112, u 113, u 114, u 115, u 116, u 117, u 118, u 119, u 120, u 121, u 122, u 123, u 124, u 125, u 126, u 127, u 128, u 129, u 130, u 131, u 132, u 133, u 134, u 135, u 136, u 137, u 138, u 139, u 140, u 141, u 142, u 143, u 144, u 145, u 146, u 147, u 148, u 149, u 150, u 151, u 152, u 153, u 154, u 155, u 156, u 157, u 158, u 159, u 160, u 161, u 162, u 163, u 164, u 165, u 166, u 167, u 168, u 169, u 170, u 171, u 172, u 173, u 174, u 175, u 176, u 177, u 178, u 179, u 180, u 181, u 182, u 183, u 184, u 185, u 186, u 187, u 188, u 189, u 190, u 191, u 192, u 193, u 194, u 195, u 196, u 197, u 198, u 199, u 200, u 201, u 202, u 203, u 204, u 205, u 206, u 207, u 208, u 209, u 210, u 211, u 212, u 213, u 214, u 215, u 216, u 217, u 218, u 219, u 220, u 221, u 222, u 223, u 224, u 225, u 226, u 227, u 228, u 229, u 230, u 231, u 232, u 233, u 234, u 235, u 236, u 237, u 238, u 239, u 240, u 241, u 242, u 243, u 244, u 245, u 246, u 247, u 248, u 249, u 250, u 251, u 252, u 253, u 254, u 255, u 256], []⟩ := by
  obtain ⟨hd, hs, rfl, rfl, rfl, rfl, rfl, rfl, rfl, rfl, rfl, rfl, rfl, rfl, rfl⟩ := h
  refine ⟨fun k => a.tmps.getD k undef, ?_⟩
  obtain ⟨t, d⟩ := a
  obtain rfl : d = [] := hd
  exact congrArg (fun t' => Act.mk t' []) (arr_range t 257 hs)
def PlayL2 (a : Act) (x0 x1 x5 x6 x7 x8 x9 x10 x11 x12 : Value) : Prop := a.defers = [] ∧ a.tmps.size = 257 ∧ a.tmps.getD 0 undef = x0 ∧ a.tmps.getD 1 undef = x1 ∧ a.tmps.getD 5 undef = x5 ∧ a.tmps.getD 6 undef = x6 ∧ a.tmps.getD 7 undef = x7 ∧ a.tmps.getD 8 undef = x8 ∧ a.tmps.getD 9 undef = x9 ∧ a.tmps.getD 10 undef = x10 ∧ a.tmps.getD 11 undef = x11 ∧ a.tmps.getD 12 undef = x12
set_option maxRecDepth 100000 in
theorem PlayL2.open_ {a : Act} {x0 x1 x5 x6 x7 x8 x9 x10 x11 x12 : Value} (h : PlayL2 a x0 x1 x5 x6 x7 x8 x9 x10 x11 x12) : ∃ u : Nat → Value, a = ⟨#[x0, x1, u 2, u 3, u 4, x5, x6, x7, x8, x9, x10, x11, x12, u 13, u 14, u 15, u 16, u 17, u 18, u 19, u 20, u 21, u 22, u 23, u 24, u 25, u 26, u 27, u 28, u 29, u 30, u 31, u 32, u 33, u 34, u 35, u 36, u 37, u 38, u 39, u 40, u 41, u 42, u 43, u 44, u 45, u 46, u 47, u 48, u 49, u 50, u 51, u 52, u 53, u 54, u 55, u 56, u 57, u 58, u 59, u 60, u 61, u 62, u 63, u 64, u 65, u 66, u 67, u 68, u 69, u 70, u 71, u 72, u 73, u 74, u 75, u 76, u 77, u 78, u 79, u 80, u 81, u 82, u 83, u 84, u 85, u 86, u 87, u 88, u 89, u 90, u 91, u 92, u 93, u 94, u 95, u 96, u 97, u 98, u 99, u 100, u 101, u 102, u 103, u 104, u 105, u 106, u 107, u 108, u 109, u 110, u 111, u 112, u 113, u 114, u 115, u 116, u 117, u 118, u 119, u 120, u 121, u 122, u 123, u 124, u 125, u 126, u 127, u 128, u 129, u 130, u 131, u 132, u 133, u 134, u 135, u 136, u 137, u 138, u 139, u 140, u 141, u 142, u 143, u 144, u 145, u 146, u 147, u 148, u 149, u 150, u 151, u 152, u 153, u 154, u 155, u 156, u 157, u 158, u 159, u 160, u 161, u 162, u 163, u 164, u 165, u 166, u 167, u 168, u 169, u 170, u 171, u 172, u 173, u 174, u 175, u 176, u 177, u 178, u 179, u 180, u 181, u 182, u 183, u 184, u 185, u 186, u 187, u 188, u 189, u 190, u 191, u 192, u 193, u 194, u 195, u 196, u 197, u 198, u 199, u 200, u 201, u 202, u 203, u 204, u 205, u 206, u 207, u 208, u 209, u 210, u 211, u 212, u 213, u 214, u 215, u 216, u 217, u 218, u 219, u 220, u 221, u 222, u 223, u 224, u 225, u 226, u 227, u 228, u 229, u 230, u 231, u 232, u 233, u 234, u 235, u 236, u 237, u 238, u 239, u 240, u 241, u 242, u 243, u 244, u 245, u 246, u 247, u 248, u 249, u 250, u 251, u 252, u 253, u 254, u 255, u 256], []⟩ := by
  obtain ⟨hd, hs, rfl, rfl, rfl, rfl, rfl, rfl, rfl, rfl, rfl, rfl⟩ := h
  refine ⟨fun k => a.tmps.getD k undef, ?_⟩
  obtain ⟨t, d⟩ := a
  obtain rfl : d = [] := hd
  exact congrArg (fun t' => Act.mk t' []) (arr_range t 257 hs)

/-! ### the pieces -/
noncomputable def cPlay : Code := Try.f3.body.getD .skip
noncomputable def cLB : Code := cAt cPlay [true, true, true, true, true, true, true, false, true, false, false]
noncomputable def cHead : Code := cAt cPlay [true, true, true, true, true, true, true, false, true, false, false, false]
noncomputable def cInc : Code := cAt cPlay [true, true, true, true, true, true, true, false, true, false, false, true, true]
noncomputable def c12 : Code := cAt cPlay [true, true, true, true, true, true, true, false, true, false, false, true, false, false, false]
noncomputable def c13 : Code := cAt cPlay [true, true, true, true, true, true, true, false, true, false, false, true, false, false, true, false]
noncomputable def c14 : Code := cAt cPlay [true, true, true, true, true, true, true, false, true, false, false, true, false, false, true, true, false]
noncomputable def c15 : Code := cAt cPlay [true, true, true, true, true, true, true, false, true, false, false, true, false, false, true, true, true, false]
noncomputable def c17 : Code := cAt cPlay [true, true, true, true, true, true, true, false, true, false, false, true, false, false, true, true, true, true, false]
noncomputable def c18 : Code := cAt cPlay [true, true, true, true, true, true, true, false, true, false, false, true, false, false, true, true, true, true, true, false]
noncomputable def c19 : Code := cAt cPlay [true, true, true, true, true, true, true, false, true, false, false, true, false, false, true, true, true, true, true, true, false, false]
noncomputable def cSw : Code := cAt cPlay [true, true, true, true, true, true, true, false, true, false, false, true, false, false, true, true, true, true, true, true, false, true, false]
noncomputable def cTail : Code := cAt cPlay [true, true, true, true, true, true, true, false, true, false, false, true, false, false, true, true, true, true, true, true, true]
theorem cLB_eq : cLB = .seq cHead (.seq (.block 1 (.seq c12 (.seq c13 (.seq c14 (.seq c15 (.seq c17 (.seq c18 (.seq (.seq c19 (.block 2 cSw)) cTail)))))))) cInc) := by kernel_rfl
end Go.Proofs.Ytlodeejeeldplaa
