import Derived.Test.YtenpopelbmeemaaGreatRows
import Derived.WalkKit
import Derived.ProofKit
import Derived.ChangeSame
import Derived.OpenShut
import Derived.ChangeSlices
/- A cell, a value among a statement's arguments: what they are made of. -/
namespace Go.Proofs.YtenpopelbmeemaaGreat.W
open Go.ChangeShapes Go.WideShapes Go.ChangeAt Go.RowKit
set_option linter.unusedVariables false
theorem ofCell : Tryz.prog.cellsOf 43 = 9 := by kernel_rfl
theorem ofBool : Tryz.prog.cellsOf 4 = 1 := by kernel_rfl
theorem ofI64 : Tryz.prog.cellsOf 2 = 1 := by kernel_rfl
theorem ofInt : Tryz.prog.cellsOf 3 = 1 := by kernel_rfl
theorem ofU64 : Tryz.prog.cellsOf 22 = 1 := by kernel_rfl
theorem ofU8 : Tryz.prog.cellsOf 5 = 1 := by kernel_rfl
theorem ofStr : Tryz.prog.cellsOf 9 = 1 := by kernel_rfl
theorem ofBs : Tryz.prog.cellsOf 41 = 1 := by kernel_rfl
theorem ofWs : Tryz.prog.cellsOf 27 = 1 := by kernel_rfl
theorem fieldsC : ∃ f0 f1 f2 f3 f4 f5 f6 f7 f8 : Field, Tryz.prog.underlying 43 = some (.struct #[f0, f1, f2, f3, f4, f5, f6, f7, f8]) ∧ (f0.type = 3 ∧ f0.offset = 0) ∧ (f1.type = 4 ∧ f1.offset = 1) ∧ (f2.type = 2 ∧ f2.offset = 2) ∧ (f3.type = 9 ∧ f3.offset = 3) ∧ (f4.type = 41 ∧ f4.offset = 4) ∧ (f5.type = 27 ∧ f5.offset = 5) ∧ (f6.type = 22 ∧ f6.offset = 6) ∧ (f7.type = 3 ∧ f7.offset = 7) ∧ (f8.type = 3 ∧ f8.offset = 8) :=
  ⟨_, _, _, _, _, _, _, _, _, Tryz.underlying43, ⟨rfl, rfl⟩, ⟨rfl, rfl⟩, ⟨rfl, rfl⟩, ⟨rfl, rfl⟩, ⟨rfl, rfl⟩, ⟨rfl, rfl⟩, ⟨rfl, rfl⟩, ⟨rfl, rfl⟩, ⟨rfl, rfl⟩⟩
set_option maxRecDepth 100000 in
theorem open_cell {H : Type} {enc : TypeId × Value → H} {w : World} {base b0 : Nat} {spare : Nat → Bool} {held : Bool} {r : Reach} {v : Value} {d : DataW H} {ps : List MemPlace}
    (hval : Value.okWide Tryz.prog w r b0 43 v) (hd : DataW.Trod enc Tryz.prog w base spare held 43 v d ps) :
    ∃ (kd : Int) (vw : Bool) (i : Int) (t : ByteArray) (ob ow : Option Addr) (bl bc wl wc : Nat) (ba p n : Int), v = .agg #[.int .i64 kd, .bool vw, .int .i64 i, .string t, .slice ob bl bc, .slice ow wl wc, .int .u64 ba, .int .i64 p, .int .i64 n] := by
  obtain ⟨f0, f1, f2, f3, f4, f5, f6, f7, f8, hu, ⟨t0, o0⟩, ⟨t1, o1⟩, ⟨t2, o2⟩, ⟨t3, o3⟩, ⟨t4, o4⟩, ⟨t5, o5⟩, ⟨t6, o6⟩, ⟨t7, o7⟩, ⟨t8, o8⟩⟩ := fieldsC
  obtain ⟨cs, rfl, hsz⟩ := okWide_struct hu hval
  rw [ofCell] at hsz
  obtain ⟨l⟩ := cs
  match l, hsz with
  | [c0, c1, c2, c3, c4, c5, c6, c7, c8], _ =>
    obtain ⟨fuel, hf⟩ := hd
    obtain ⟨xs, n, _, hx, _, hlen, hg⟩ := DataW.trod_struct hu hf
    match xs, hlen with
    | [y0, y1, y2, y3, y4, y5, y6, y7, y8], _ =>
      have g0 := hg 0 f0 rfl
      have g1 := hg 1 f1 rfl
      have g2 := hg 2 f2 rfl
      have g3 := hg 3 f3 rfl
      have g4 := hg 4 f4 rfl
      have g5 := hg 5 f5 rfl
      have g6 := hg 6 f6 rfl
      have g7 := hg 7 f7 rfl
      have g8 := hg 8 f8 rfl
      rw [t0, o0, ofInt] at g0
      rw [t1, o1, ofBool] at g1
      rw [t2, o2, ofI64] at g2
      rw [t3, o3, ofStr] at g3
      rw [t4, o4, ofBs] at g4
      rw [t5, o5, ofWs] at g5
      rw [t6, o6, ofU64] at g6
      rw [t7, o7, ofInt] at g7
      rw [t8, o8, ofInt] at g8
      obtain ⟨kd, e0, _⟩ := DataW.trod_int Tryz.underlying3 g0
      obtain ⟨vw, e1, _⟩ := DataW.trod_bool Tryz.underlying4 g1
      obtain ⟨i, e2, _⟩ := DataW.trod_int Tryz.underlying2 g2
      obtain ⟨t, e3, _⟩ := DataW.trod_string Tryz.underlying9 g3
      obtain ⟨ba, e6, _⟩ := DataW.trod_int Tryz.underlying22 g6
      obtain ⟨p, e7, _⟩ := DataW.trod_int Tryz.underlying3 g7
      obtain ⟨q, e8, _⟩ := DataW.trod_int Tryz.underlying3 g8
      have e4 : ∃ ob bl bc, c4 = .slice ob bl bc := by
        rcases open_ints Tryz.underlying41 Tryz.underlying5 ofU8 g4 with ⟨hcs, _⟩ | ⟨x, l, c, zs, hcs, _⟩
        · simp [Value.cells] at hcs; exact ⟨_, _, _, hcs⟩
        · simp [Value.cells] at hcs; exact ⟨_, _, _, hcs⟩
      have e5 : ∃ ob bl bc, c5 = .slice ob bl bc := by
        rcases open_ints Tryz.underlying27 Tryz.underlying22 ofU64 g5 with ⟨hcs, _⟩ | ⟨x, l, c, zs, hcs, _⟩
        · simp [Value.cells] at hcs; exact ⟨_, _, _, hcs⟩
        · simp [Value.cells] at hcs; exact ⟨_, _, _, hcs⟩
      obtain ⟨ob, bl, bc, rfl⟩ := e4
      obtain ⟨ow, wl, wc, rfl⟩ := e5
      simp [Value.cells] at e0 e1 e2 e3 e6 e7 e8
      subst e0 e1 e2 e3 e6 e7 e8
      exact ⟨kd, vw, i, t, ob, ow, bl, bc, wl, wc, ba, p, q, rfl⟩
theorem ofValue : Tryz.prog.cellsOf 33 = 5 := by kernel_rfl
theorem fieldsV : ∃ f0 f1 f2 f3 f4 : Field, Tryz.prog.underlying 33 = some (.struct #[f0, f1, f2, f3, f4]) ∧ (f0.type = 3 ∧ f0.offset = 0) ∧ (f1.type = 2 ∧ f1.offset = 1) ∧ (f2.type = 22 ∧ f2.offset = 2) ∧ (f3.type = 9 ∧ f3.offset = 3) ∧ (f4.type = 22 ∧ f4.offset = 4) :=
  ⟨_, _, _, _, _, Tryz.underlying33, ⟨rfl, rfl⟩, ⟨rfl, rfl⟩, ⟨rfl, rfl⟩, ⟨rfl, rfl⟩, ⟨rfl, rfl⟩⟩
set_option maxRecDepth 100000 in
theorem open_value {H : Type} {enc : TypeId × Value → H} {w : World} {base b0 : Nat} {spare : Nat → Bool} {held : Bool} {r : Reach} {v : Value} {d : DataW H} {ps : List MemPlace}
    (hval : Value.okWide Tryz.prog w r b0 33 v) (hd : DataW.Trod enc Tryz.prog w base spare held 33 v d ps) :
    ∃ (kd i bi : Int) (t : ByteArray) (re : Int), v = .agg #[.int .i64 kd, .int .i64 i, .int .u64 bi, .string t, .int .u64 re] ∧ (Lit.int .i64 kd).wf = true ∧ (Lit.int .i64 i).wf = true ∧ (Lit.int .u64 bi).wf = true ∧ t.size ≤ maxLen ∧ (Lit.int .u64 re).wf = true := by
  obtain ⟨f0, f1, f2, f3, f4, hu, ⟨t0, o0⟩, ⟨t1, o1⟩, ⟨t2, o2⟩, ⟨t3, o3⟩, ⟨t4, o4⟩⟩ := fieldsV
  obtain ⟨cs, rfl, hsz⟩ := okWide_struct hu hval
  rw [ofValue] at hsz
  obtain ⟨l⟩ := cs
  match l, hsz with
  | [c0, c1, c2, c3, c4], _ =>
    obtain ⟨fuel, hf⟩ := hd
    obtain ⟨xs, n, _, hx, _, hlen, hg⟩ := DataW.trod_struct hu hf
    match xs, hlen with
    | [y0, y1, y2, y3, y4], _ =>
      have g0 := hg 0 f0 rfl
      have g1 := hg 1 f1 rfl
      have g2 := hg 2 f2 rfl
      have g3 := hg 3 f3 rfl
      have g4 := hg 4 f4 rfl
      rw [t0, o0, ofInt] at g0
      rw [t1, o1, ofI64] at g1
      rw [t2, o2, ofU64] at g2
      rw [t3, o3, ofStr] at g3
      rw [t4, o4, ofU64] at g4
      obtain ⟨kd, e0, _, w0⟩ := DataW.trod_int Tryz.underlying3 g0
      obtain ⟨i, e1, _, w1⟩ := DataW.trod_int Tryz.underlying2 g1
      obtain ⟨bi, e2, _, w2⟩ := DataW.trod_int Tryz.underlying22 g2
      obtain ⟨t, e3, _, w3⟩ := DataW.trod_string Tryz.underlying9 g3
      obtain ⟨re, e4, _, w4⟩ := DataW.trod_int Tryz.underlying22 g4
      simp [Value.cells] at e0 e1 e2 e3 e4
      subst e0 e1 e2 e3 e4
      exact ⟨kd, i, bi, t, re, rfl, w0, w1, w2, w3, w4⟩
end Go.Proofs.YtenpopelbmeemaaGreat.W
