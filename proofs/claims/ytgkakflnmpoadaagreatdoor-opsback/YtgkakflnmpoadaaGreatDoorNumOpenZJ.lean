import Derived.Test.YtgkakflnmpoadaaGreatDoorRows
import Derived.WalkKit
import Derived.ProofKit
import Derived.ChangeSame
import Derived.OpenShut
/- A number among a statement's arguments: its parts out of its reading, and back. -/
namespace Go.Proofs.YtgkakflnmpoadaaGreatDoor.W.Nu
open Go.ChangeShapes Go.WideShapes Go.ChangeAt Go.RowKit

theorem cellsN : Tryz.prog.cellsOf 24 = 3 := by kernel_rfl
theorem cellsB : Tryz.prog.cellsOf 4 = 1 := by kernel_rfl
theorem cellsI : Tryz.prog.cellsOf 2 = 1 := by kernel_rfl
theorem cellsU : Tryz.prog.cellsOf 22 = 1 := by kernel_rfl
theorem fieldsN : ∃ f0 f1 f2 : Field, Tryz.prog.underlying 24 = some (.struct #[f0, f1, f2]) ∧ (f0.type = 4 ∧ f0.offset = 0) ∧ (f1.type = 2 ∧ f1.offset = 1) ∧ (f2.type = 22 ∧ f2.offset = 2) :=
  ⟨_, _, _, Tryz.underlying24, ⟨rfl, rfl⟩, ⟨rfl, rfl⟩, ⟨rfl, rfl⟩⟩
set_option maxRecDepth 100000 in
theorem open_num {H : Type} {enc : TypeId × Value → H} {w : World} {base b0 : Nat} {spare : Nat → Bool} {held : Bool} {r : Reach} {v : Value} {d : DataW H} {ps : List MemPlace}
    (hval : Value.okWide Tryz.prog w r b0 24 v) (hd : DataW.Trod enc Tryz.prog w base spare held 24 v d ps) :
    ∃ (b : Bool) (i u : Int), v = .agg #[.bool b, .int .i64 i, .int .u64 u] ∧ d = .agg [.lit (.bool b), .lit (.int .i64 i), .lit (.int .u64 u)] ∧ ps = [] ∧ (Lit.int .i64 i).wf = true ∧ (Lit.int .u64 u).wf = true := by
  obtain ⟨f0, f1, f2, hu, ⟨t0, o0⟩, ⟨t1, o1⟩, ⟨t2, o2⟩⟩ := fieldsN
  obtain ⟨cs, rfl, hsz⟩ := okWide_struct hu hval
  rw [cellsN] at hsz
  obtain ⟨l⟩ := cs
  match l, hsz with
  | [c0, c1, c2], _ =>
    obtain ⟨fuel, hf⟩ := hd
    obtain ⟨xs, n, _, hx, _, hlen, hg⟩ := DataW.trod_struct hu hf
    match xs, hlen with
    | [y0, y1, y2], _ =>
      have g0 := hg 0 f0 rfl
      have g1 := hg 1 f1 rfl
      have g2 := hg 2 f2 rfl
      rw [t0, o0, cellsB] at g0
      rw [t1, o1, cellsI] at g1
      rw [t2, o2, cellsU] at g2
      obtain ⟨b, e0, hy0⟩ := DataW.trod_bool Tryz.underlying4 g0
      obtain ⟨i, e1, hy1, wi⟩ := DataW.trod_int Tryz.underlying2 g1
      obtain ⟨u, e2, hy2, wu⟩ := DataW.trod_int Tryz.underlying22 g2
      simp [Value.cells] at e0 e1 e2
      subst e0 e1 e2
      rw [hy0, hy1, hy2] at hx
      simp at hx
      exact ⟨b, i, u, rfl, hx.1, hx.2, wi, wu⟩
set_option maxRecDepth 100000 in
theorem shut_num {H : Type} {enc : TypeId × Value → H} {w : World} {base : Nat} {spare : Nat → Bool} {held : Bool} (b : Bool) {i u : Int} (wi : (Lit.int .i64 i).wf = true) (wu : (Lit.int .u64 u).wf = true) :
    DataW.Trod enc Tryz.prog w base spare held 24 (.agg #[.bool b, .int .i64 i, .int .u64 u]) (.agg [.lit (.bool b), .lit (.int .i64 i), .lit (.int .u64 u)]) [] := by
  obtain ⟨f0, f1, f2, hu, ⟨t0, o0⟩, ⟨t1, o1⟩, ⟨t2, o2⟩⟩ := fieldsN
  refine ⟨2, ?_⟩
  have f0' : DataW.trod enc Tryz.prog w base spare held 1 4 [.bool b] = some (.lit (.bool b), []) := by simp [DataW.trod, Tryz.underlying4]
  have f1' : DataW.trod enc Tryz.prog w base spare held 1 2 [.int .i64 i] = some (.lit (.int .i64 i), []) := by simp [DataW.trod, Tryz.underlying2, wi]
  have f2' : DataW.trod enc Tryz.prog w base spare held 1 22 [.int .u64 u] = some (.lit (.int .u64 u), []) := by simp [DataW.trod, Tryz.underlying22, wu]
  have h := trod_struct_mk (enc := enc) (w := w) (base := base) (spare := spare) (held := held) (n := 1) (cs := [.bool b, .int .i64 i, .int .u64 u]) (xs := [(.lit (.bool b), []), (.lit (.int .i64 i), []), (.lit (.int .u64 u), [])]) hu (by rw [cellsN]; rfl) (by
    simp [t0, o0, t1, o1, t2, o2, cellsB, cellsI, cellsU, f0', f1', f2'])
  simpa [Value.cells] using h
end Go.Proofs.YtgkakflnmpoadaaGreatDoor.W.Nu
