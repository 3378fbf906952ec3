import Derived.Test.YtaebnnkhjlidiaaBase9
import Derived.Test.YtaebnnkhjlidiaaBase8
/- HeapViews: a buffer and a view of it, in plain words. -/
namespace Go.Proofs.Ytaebnnkhjlidiaa.W
open Go.ChangeShapes Go.WideShapes Go.RowKit Go.Shelf
set_option linter.unusedVariables false
/-- a buffer and a view of it -/
def hvH (bs : List Nat) (f m : Nat) : List (Option Hc) := [some (.buf 8 bs), some (.view 8 (hw 0) f m)]
theorem hv_sum (bs : List Nat) (f m : Nat) : sumH (hvH bs f m) = 2 + (bs.length + 7) / 8 := by
  show (Hc.buf 8 bs).need + ((Hc.view 8 (hw 0) f m).need + 0) = _
  rw [bufn_need, view_need]; omega
theorem hv_ar (s : Nat) (h : s ≤ 300) : IntKind.i64.wrap ((s : Int) + 7) = (s : Int) + 7 ∧ wrap64 ((s : Int) + 7) = (s : Int) + 7 ∧ Int.tdiv ((s : Int) + 7) 8 = (((s + 7) / 8 : Nat) : Int) ∧ wrap64 (((s + 7) / 8 : Nat) : Int) = (((s + 7) / 8 : Nat) : Int) ∧ IntKind.i64.wrap (((s + 7) / 8 : Nat) : Int) = (((s + 7) / 8 : Nat) : Int) ∧ wrap64 (2 + (((s + 7) / 8 : Nat) : Int)) = ((2 + (s + 7) / 8 : Nat) : Int) ∧ IntKind.i64.wrap (2 + (((s + 7) / 8 : Nat) : Int)) = ((2 + (s + 7) / 8 : Nat) : Int) := by
  refine ⟨?_, ?_, ?_, ?_, ?_, ?_, ?_⟩
  · rw [IntKind.wrap_i64]; omega
  · unfold wrap64; omega
  · rw [Int.tdiv_eq_ediv_of_nonneg (by omega)]; omega
  · unfold wrap64; omega
  · rw [IntKind.wrap_i64]; omega
  · unfold wrap64; omega
  · rw [IntKind.wrap_i64]; omega
theorem hv_y {y : Nat} (h : 0 ≤ (y : Int) ∧ (y : Int) ≤ 255) : y < 256 := by omega
theorem hv_hit0 (bs : List Nat) (f m : Nat) : hit (hvH bs f m) (hw 0) = some 0 := hit_hw (by decide) (show (hvH bs f m)[0]? = some (some (.buf 8 bs)) from rfl)
theorem hv_hit1 (bs : List Nat) (f m : Nat) : hit (hvH bs f m) (hw 1) = some 1 := hit_hw (by decide) (show (hvH bs f m)[1]? = some (some (.view 8 (hw 0) f m)) from rfl)
theorem hv_rch (bs : List Nat) (f m : Nat) : ∀ i c, (hvH bs f m)[i]? = some (some c) → Rch (hvH bs f m) [hw 1] i := by
  intro i c hc
  have hi : i < 2 := (List.getElem?_eq_some_iff.1 hc).1
  have r1 : Rch (hvH bs f m) [hw 1] 1 := .root (hw 1) 1 (by simp) (hv_hit1 bs f m)
  rcases (by omega : i = 0 ∨ i = 1) with rfl | rfl
  · exact .step 1 0 (hw 0) (.view 8 (hw 0) f m) r1 rfl (by simp [Hc.succ]) (hv_hit0 bs f m)
  · exact r1
theorem hv_spot (bs : List Nat) (f m : Nat) (h : f + m ≤ bs.length) : Spot (hvH bs f m) (hw 1) 8 0 f m 8 bs := by
  refine ⟨hw_lt 1 (by decide), rfl, h, 1, hv_hit1 bs f m, .inr ⟨hw 0, m, rfl, hv_hit0 bs f m, ?_⟩⟩
  show m = m * 1
  omega
theorem hv_set (bs bs' : List Nat) (f m : Nat) : (hvH bs f m).set 0 (some (.buf 8 bs')) = hvH bs' f m := rfl
theorem hv_get (n p x j : Nat) (hp : p < n) (hx : x < 256) (hj : j < n) : (saved (List.replicate n 0) p x 1)[j]? = some (if j = p then x else 0) := by
  rw [saved_get _ _ _ _ _ (by rw [List.length_replicate]; omega)]
  by_cases e : j = p
  · subst e
    rw [if_pos (by omega), if_pos rfl, Nat.sub_self, Nat.pow_zero, Nat.div_one, Nat.mod_eq_of_lt hx]
  · rw [if_neg (by omega), if_neg e, List.getElem?_replicate, if_pos hj]
theorem hv_succ {j s : Nat} (h : j ≤ s) (hs : s ≤ 300) : IntKind.i64.wrap ((j : Int) + 1) = (j : Int) + 1 := by rw [IntKind.wrap_i64]; omega
theorem hv_ne {j k : Nat} (h : ¬ j = k) : ¬ (j : Int) = (k : Int) := by omega
theorem hv_add {f o m s : Nat} (h : f + m ≤ s) (hs : s ≤ 300) (om : o < m) : IntKind.i64.wrap ((f : Int) + (o : Int)) = ((f + o : Nat) : Int) ∧ wrap64 ((f : Int) + (o : Int)) = ((f + o : Nat) : Int) := by
  refine ⟨?_, ?_⟩
  · rw [IntKind.wrap_i64]; omega
  · unfold wrap64; omega
theorem hv_wy {y : Nat} (h : 0 ≤ (y : Int) ∧ (y : Int) ≤ 255) : IntKind.u64.wrap (y : Int) = (y : Int) := by rw [IntKind.wrap_u64]; omega
theorem hv_lt {j s : Nat} (h : j < s) : (0 : Int) ≤ j ∧ (j : Int) < s := by omega
theorem hv_nlt {j s : Nat} (h : ¬ j < s) : ¬ (j : Int) < s := by omega
theorem hv_nb {j k : Nat} (h : ¬ j = k) : ((j : Int) == (k : Int)) = false := by simp; omega
theorem hv_meas {j s : Nat} (h : j < s) : s - ((j : Int) + 1).toNat < s - (j : Int).toNat := by omega
theorem get_b {W0 W1 : World} {hb : Nat} {u : Nat} {K : Nat → Prop} {bs : List Nat} {f m s : Nat} (q : Hf W0 W1 hb (hvH bs f m) u K) (hs : bs.length = s) :
    Calls Try.prog 14 #[.pointer (some ⟨hb, 0, none⟩), .int .u64 (hw 0 : Nat)] W1 fun e w' => ∃ gb, e = .returned (.tuple #[.agg #[.int .i64 8, .bool false, .int .i64 0, .string ⟨#[]⟩, .slice (some ⟨gb, 0, none⟩) s s, .slice none 0 0, .int .u64 0, .int .i64 0, .int .i64 0], .int .i64 0]) ∧ W1.heap.size ≤ gb ∧ Below W1.heap.size W1 w' ∧ w'.ownsRow W1.heap.size 5 1 (.slice (some ⟨gb, 0, none⟩) s s) s (bs.map byteV) := by
  subst hs
  obtain ⟨sb, vc, T, l⟩ := q.lay
  exact get_buf l (hw 0) (hw_lt 0 (by decide)) 0 (hv_hit0 bs f m) 8 bs rfl
end Go.Proofs.Ytaebnnkhjlidiaa.W
