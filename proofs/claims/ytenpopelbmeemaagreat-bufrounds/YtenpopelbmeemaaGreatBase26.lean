import Derived.Test.YtenpopelbmeemaaGreatBase25
import Derived.Test.YtenpopelbmeemaaGreatBase22
import Derived.Test.YtenpopelbmeemaaGreatBase21
import Derived.Test.YtenpopelbmeemaaGreatBase13
import Derived.Test.YtenpopelbmeemaaGreatBase24
/- Box, told whole: of numbers, doubles and strings, beside what is kept; what all of it takes. -/
namespace Go.Proofs.YtenpopelbmeemaaGreat.W
open Go.ChangeShapes Go.WideShapes Go.RowKit Go.Shelf
set_option linter.unusedVariables false
/-- each cell is a root -/
def AllR (H : List (Option Hc)) (ws : List Nat) : Prop := ∀ (i : Nat) (c : Hc), H[i]? = some (some c) → ∃ w ∈ ws, hit H w = some i
theorem hit_ext {H H' : List (Option Hc)} (he : Ext H H') {w i : Nat} (h : hit H w = some i) : hit H' w = some i := by
  unfold hit at h ⊢
  split at h
  · rename_i c
    cases h
    have : ∃ x, H[w % 281474976710656]? = some (some x) := by
      have c2 := c.2
      cases e : H[w % 281474976710656]? with
      | none => rw [e] at c2; cases c2
      | some o => cases o with
        | none => rw [e] at c2; cases c2
        | some x => exact ⟨x, rfl⟩
    obtain ⟨x, hx⟩ := this
    rw [if_pos ⟨c.1, by rw [he _ _ hx]; rfl⟩]
  · cases h
theorem allR_put {H : List (Option Hc)} {ws : List Nat} (h : AllR H ws) (c : Hc) (hl : lid H < 281474976710656) : AllR (putH H (lid H) (some c)) (ws ++ [hw (lid H)]) := by
  intro i x hx
  by_cases e : i = lid H
  · subst e
    exact ⟨hw (lid H), by simp, hit_hw hl (putH_self H _)⟩
  · rw [putH_ne H _ i e] at hx
    obtain ⟨w, hw1, hw2⟩ := h i x hx
    exact ⟨w, List.mem_append_left _ hw1, hit_ext (ext_put H c) hw2⟩
theorem allR_snoc {H : List (Option Hc)} {ws : List Nat} (h : AllR H ws) (w : Nat) : AllR H (ws ++ [w]) := by
  intro i x hx
  obtain ⟨v, h1, h2⟩ := h i x hx
  exact ⟨v, List.mem_append_left _ h1, h2⟩
/-- a word of a whole number -/
def IsInt (H : List (Option Hc)) (w : Nat) (i : Int) : Prop := (smallB i = true ∧ (w : Int) = intW i) ∨ ∃ id, w = hw id ∧ id < 281474976710656 ∧ H[id]? = some (some (.num i))
theorem IsInt.ext {H H' : List (Option Hc)} {w : Nat} {i : Int} (h : IsInt H w i) (he : Ext H H') : IsInt H' w i := by
  rcases h with h | ⟨id, h1, h2, h3⟩
  · exact .inl h
  · exact .inr ⟨id, h1, h2, he _ _ h3⟩
theorem IsInt.cls {H : List (Option Hc)} {w : Nat} {i : Int} (h : IsInt H w i) : ¬ cls (w : Int) = 7 := by
  rcases h with ⟨h1, h2⟩ | ⟨id, rfl, h2, h3⟩
  · rw [h2, intW_cls i h1]; decide
  · rw [cls_hw id h2]; decide
theorem IsTxt.cls {H : List (Option Hc)} {w : Nat} {t : ByteArray} (h : IsTxt H w t) : ¬ W.cls (w : Int) = 7 := by
  rcases h with ⟨h1, h2⟩ | ⟨id, rfl, h2, h3⟩
  · rw [h2, txtW_cls t h1]; decide
  · rw [cls_hw id h2]; decide
/-- what a whole number takes -/
def nI (i : Int) : Nat := if smallB i = true then 0 else 2
/-- what a string takes -/
def nT (t : ByteArray) : Nat := if t.size ≤ 5 then 0 else tneed t
theorem num_need (i : Int) : (Hc.num i).need = 2 := by
  unfold Hc.need
  rw [show (Hc.num i).bytes.length = 8 from le8_len _]
/-- behind a value that was boxed -/
def BPost (W0 W1 : World) (hb : Nat) (H : List (Option Hc)) (u : Nat) (K : Nat → Prop) (V : List (Option Hc) → Nat → Prop) (n : Nat) (e : Ending) (w' : World) : Prop := ∃ (w : Nat) (H' : List (Option Hc)), e = .returned (.tuple #[.int .u64 (w : Nat), .int .i64 0]) ∧ Hf W0 w' hb H' u K ∧ Ext H H' ∧ V H' w ∧ sumH H' = sumH H + n ∧ H'.length ≤ H.length + 1 ∧ (∀ ws, AllR H ws → AllR H' (ws ++ [w])) ∧ w < 18446744073709551616 ∧ Upd (Ch W0 K) W1 w'
section
variable {W0 W W1 W' : World} {hb : Nat} {H : List (Option Hc)} {u : Nat} {K K' : Nat → Prop}
theorem BPost.two {V : List (Option Hc) → Nat → Prop} {n : Nat} {e : Ending} (h : BPost W0 W1 hb H u K V n e W') : ∃ x y, e = .returned (.tuple #[.int .u64 x, .int .i64 y]) := by
  obtain ⟨w, H', rfl, _⟩ := h
  exact ⟨_, _, rfl⟩
theorem BPost.on {W2 : World} {V : List (Option Hc) → Nat → Prop} {n : Nat} {e : Ending} (hB : Below W1.heap.size W1 W2) (h : BPost W0 W2 hb H u K V n e W') : BPost W0 W1 hb H u K V n e W' := by
  obtain ⟨w, H', rfl, h1, h2, h3, h4, h5, h6, h7, h8⟩ := h
  exact ⟨w, H', rfl, h1, h2, h3, h4, h5, h6, h7, (Upd.of_below hB).trans' h8⟩
theorem hf_num (q : Hf W0 W1 hb H u K) (i : Int) (h0 : -9223372036854775808 ≤ i) (h1 : i < 9223372036854775808) (hf : sumH H + 2 ≤ u) (vr : Value) (rs : List Nat) (hr : WordsAt W1 vr rs) :
    Calls Tryz.prog 23 #[.pointer (some ⟨hb, 0, none⟩), .agg #[.int .i64 2, .bool false, .int .i64 i, .string ⟨#[]⟩, .slice none 0 0, .slice none 0 0, .int .u64 0, .int .i64 0, .int .i64 0], vr] W1 fun e w' => e = .returned (.tuple #[.int .u64 (hw (lid H) : Nat), .int .i64 0]) ∧ Hf W0 w' hb (putH H (lid H) (some (.num i))) u K ∧ Upd (Ch W0 K) W1 w' := by
  obtain ⟨g1, S, h2, h3, h4⟩ := q
  refine (put_num h2 (fun k e => (h3 k e).2) i h0 h1 none none 0 0 vr rs hr).mono ?_
  intro e w' hP
  have hf' : sumH H + (Hc.num i).need ≤ u := by rw [num_need]; exact hf
  have hrm : roomH H u (.num i) rs = H := by unfold roomH; rw [if_pos hf']
  rw [hrm] at hP
  obtain ⟨hU, ⟨_, rfl, g⟩ | ⟨hn, _⟩⟩ := hP
  · exact ⟨rfl, Hf.put g1 h3 h4 hU g⟩
  · omega
theorem boxInt_b (q : Hf W0 W1 hb H u K) (vr : Value) (rs : List Nat) (hr : WordsAt W1 vr rs) (i : Int) (h0 : -9223372036854775808 ≤ i) (h1 : i ≤ 9223372036854775807) (hf : sumH H + 2 ≤ u) (hH : H.length ≤ 1000000) : Calls Tryz.prog 28 #[.pointer (some ⟨hb, 0, none⟩), .int .i64 i, vr] W1 (BPost W0 W1 hb H u K (fun H' w => IsInt H' w i) (nI i)) := by
  by_cases hs : smallB i = true
  · refine (boxInt_small _ vr i h0 h1 hs W1).mono ?_
    rintro e w' ⟨rfl, rfl⟩
    have hbd := intW_bd i hs
    exact ⟨(intW i).toNat, H, by rw [Int.toNat_of_nonneg (by omega)], q, Ext.refl _, .inl ⟨hs, Int.toNat_of_nonneg (by omega)⟩, by unfold nI; rw [if_pos hs]; omega, by omega, fun ws h => allR_snoc h _, by omega, Upd.refl _ _⟩
  · have cf := fromInt_c i h0 h1 W1
    have hs' : smallB i = false := by simpa using hs
    rw [hs'] at cf
    have cp := hf_num q i h0 (by omega) hf vr rs hr
    have fin : Hid (∀ w2, Hf W0 w2 hb (putH H (lid H) (some (.num i))) u K → Upd (Ch W0 K) W1 w2 → BPost W0 W1 hb H u K (fun H' w => IsInt H' w i) (nI i) (.returned (.tuple #[.int .u64 (hw (lid H) : Nat), .int .i64 0])) w2) := by
      show ∀ w2, _
      intro w2 hq hU
      have h9 := lid_le H
      refine ⟨hw (lid H), _, rfl, hq, ext_put H _, .inr ⟨lid H, rfl, by omega, putH_self H _⟩, ?_, ?_, fun ws h => allR_put h _ (by omega), hw_lt _ (by omega), hU⟩
      · unfold nI; rw [putH_sum, num_need, if_neg hs]
      · rw [putH_len]; split <;> omega
    generalize hw (lid H) = X at *
    clear q hr hs
    go_enter Tryz.func28, Tryz.ntmps28
    go_wp2_with (first | (go_at_call 53; (with_reducible refine cf.mono ?_); rintro e w' ⟨rfl, hw⟩; (have hw' := hw.symm); subst hw'; clear hw) | (go_at_call 23; (with_reducible refine cp.mono ?_); rintro e w2 ⟨rfl, hq, hU⟩; clear cp))
    go_ret2
    exact fin.out _ hq hU
theorem boxI (q : Hf W0 W1 hb H u K) (vr : Value) (rs : List Nat) (hr : WordsAt W1 vr rs) (i : Int) (h0 : -9223372036854775808 ≤ i) (h1 : i ≤ 9223372036854775807) (hf : sumH H + 2 ≤ u) (hH : H.length ≤ 1000000) : Calls Tryz.prog 9 #[.pointer (some ⟨hb, 0, none⟩), .agg #[.int .i64 2, .int .i64 i, .int .u64 0, .string ⟨#[]⟩, .int .u64 0], vr] W1 (BPost W0 W1 hb H u K (fun H' w => IsInt H' w i) (nI i)) := by
  refine (box_int _ vr i (fun w e w' => BPost W0 w hb H u K (fun H' w => IsInt H' w i) (nI i) e w') (fun w e w' h => h.two) W1 (fun w hB => boxInt_b (q.below' hB) vr rs (words_below hr hB) i h0 h1 hf hH)).mono ?_
  rintro e w' ⟨w, hB, h⟩
  exact h.on hB
theorem boxF (q : Hf W0 W1 hb H u K) (vr : Value) (bi : Int) (h0 : 0 ≤ bi) (h1 : bi < 18446744073709551616) : Calls Tryz.prog 9 #[.pointer (some ⟨hb, 0, none⟩), .agg #[.int .i64 3, .int .i64 0, .int .u64 bi, .string ⟨#[]⟩, .int .u64 0], vr] W1 (BPost W0 W1 hb H u K (fun _ w => (w : Int) = fltW bi) 0) := by
  refine (box_float _ vr bi h0 h1 W1).mono ?_
  rintro e w' ⟨rfl, hB⟩
  have hbd := fltW_bd bi h0 h1
  exact ⟨(fltW bi).toNat, H, by rw [Int.toNat_of_nonneg hbd.1], q.below' hB, Ext.refl _, Int.toNat_of_nonneg hbd.1, by omega, by omega, fun ws h => allR_snoc h _, by omega, Upd.of_below hB⟩
theorem unbox_int {S : Nat → Prop} (q : HSt W1 S hb H u) (w : Nat) (i : Int) (h : IsInt H w i) :
    Calls Tryz.prog 33 #[.pointer (some ⟨hb, 0, none⟩), .int .u64 w] W1 fun e w' => e = .returned (.tuple #[.agg #[.int .i64 2, .int .i64 i, .int .u64 0, .string ⟨#[]⟩, .int .u64 0], .int .i64 0]) ∧ Below W1.heap.size W1 w' := by
  rcases h with ⟨h1, h2⟩ | ⟨id, rfl, h2, h3⟩
  · rw [h2]; exact unbox_sint i h1 _ W1
  · obtain ⟨sb, vc, T, l, _⟩ := q
    exact unbox_num l (hw id) (hw_lt id h2) (cls_hw id h2) id (hit_hw h2 h3) i h3
theorem hf_reach (q : Hf W0 W1 hb H u K) (vr : Value) (rs : List Nat) (hr : WordsAt W1 vr rs) :
    Calls Tryz.prog 19 #[.pointer (some ⟨hb, 0, none⟩), vr] W1 fun e w' => e = .returned (.int .i64 (reachN H rs : Nat)) ∧ Below W1.heap.size W1 w' := by
  obtain ⟨_, S, ⟨sb, vc, T, l, _, _, _, hs⟩, _⟩ := q
  have hu := l.u1
  refine (hreach_c l (by omega) vr rs hr).mono ?_
  rintro e w' ⟨rfl, hB'⟩
  exact ⟨rfl, hB'⟩
/-- a copy of a row of words -/
theorem copy_run (ty : TypeId) (v : Value) (ws : List Nat) (h : WordsAt W1 v ws) (hl : ws.length ≤ 900000) : ∃ v' w', (Builtin.append_ #[27, 27] ty #[.slice (some ⟨W1.heap.size, 0, none⟩) 0 0, v]).run Tryz.prog (W1.alloc (.cells #[] 22)) = .ok v' w' ∧ WordsAt w' v' ws ∧ Below W1.heap.size W1 w' := by
  have hB1 : Below W1.heap.size W1 (W1.alloc (.cells #[] 22)) := (Below.refl _ W1).alloc (Nat.le_refl _) _
  have h0 := World.ownsRow_lit (base := W1.heap.size) (e := 22) (size := 1) W1 #[] 0 (Nat.le_refl _) (by simp) (by simp)
  obtain ⟨v', w', hrun, ho, hg⟩ := app_words (W1.alloc (.cells #[] 22)) W1.heap.size ty hB1.size (.slice (some ⟨W1.heap.size, 0, none⟩) 0 0) 0 [] h0 v ws (words_below h hB1) (by omega)
  have hU : Upd (fun k => W1.heap.size ≤ k) (W1.alloc (.cells #[] 22)) w' := (Upd.refl _ _).grown hg (fun k e => .inl (by cases e; exact Nat.le_refl _))
  have h64 := h.choose_spec.choose_spec.2.2.1
  refine ⟨v', w', hrun, words_own (B := W1.heap.size) (by simpa using ho) (by omega) h64, hB1.trans (hU.below hB1.size (fun k e => e))⟩
end
end Go.Proofs.YtenpopelbmeemaaGreat.W
/- Put of buffers and rows, beside what a statement keeps. -/
namespace Go.Proofs.YtenpopelbmeemaaGreat.W
open Go.ChangeShapes Go.WideShapes Go.RowKit Go.Shelf
set_option linter.unusedVariables false
section
variable {W0 W W1 W' : World} {hb : Nat} {H : List (Option Hc)} {u : Nat} {K K' : Nat → Prop}
/-- whatever is put and fits -/
theorem Hf.fits {S : Nat → Prop} {c : Hc} {rs : List Nat} {e : Ending} {w' : World} (h1 : Below W0.heap.size W0 W1) (h3 : ∀ k, S k → W0.heap.size ≤ k ∧ k < W1.heap.size) (h4 : ∀ k, K k → k < W1.heap.size ∧ ¬ S k) (hf : sumH H + c.need ≤ u) (hP : PutPost W1 S hb (roomH H u c rs) u c e w') : e = .returned (.tuple #[.int .u64 (hw (lid H) : Nat), .int .i64 0]) ∧ Hf W0 w' hb (putH H (lid H) (some c)) u K ∧ Upd (Ch W0 K) W1 w' := by
  have hrm : roomH H u c rs = H := by unfold roomH; rw [if_pos hf]
  rw [hrm] at hP
  obtain ⟨hU, ⟨_, rfl, g⟩ | ⟨hn, _⟩⟩ := hP
  · exact ⟨rfl, Hf.put h1 h3 h4 hU g⟩
  · omega
theorem hf_buf (q : Hf W0 W1 hb H u K) (k : Int) (hk : elB k > 0) (bs : List Nat) (hb256 : ∀ x ∈ bs, x < 256) (hl : bs.length ≤ 8388608) (hmod : bs.length % elB k = 0) (ob ow : Option Addr) (bc wc : Nat) (hcap : bs.length ≤ bc) (hv : ByteRow W1 ob bs) (ho : ∀ x, ob = some x → K x.block) (hf : sumH H + (Hc.buf k bs).need ≤ u) (vr : Value) (rs : List Nat) (hr : WordsAt W1 vr rs) :
    Calls Tryz.prog 23 #[.pointer (some ⟨hb, 0, none⟩), .agg #[.int .i64 k, .bool false, .int .i64 0, .string ⟨#[]⟩, .slice ob bs.length bc, .slice ow 0 wc, .int .u64 0, .int .i64 0, .int .i64 0], vr] W1 fun e w' => e = .returned (.tuple #[.int .u64 (hw (lid H) : Nat), .int .i64 0]) ∧ Hf W0 w' hb (putH H (lid H) (some (.buf k bs))) u K ∧ Upd (Ch W0 K) W1 w' := by
  obtain ⟨h1, S, h2, h3, h4⟩ := q
  exact (put_buf h2 (fun k e => (h3 k e).2) k hk bs hb256 hl hmod ob ow bc wc hcap hv (fun x e => ⟨(h4 _ (ho x e)).2, (h4 _ (ho x e)).1⟩) vr rs hr).mono (fun e w' hP => Hf.fits h1 h3 h4 hf hP)
theorem hf_row (q : Hf W0 W1 hb H u K) (ws : List Nat) (hl : ws.length ≤ 1048576) (hv64 : ∀ w ∈ ws, w < 18446744073709551616) (hval : ∀ w ∈ ws, isVal H w = true) (ow : Option Addr) (wc : Nat) (hv : WordsAt W1 (.slice ow ws.length wc) ws) (ho : ∀ x, ow = some x → K x.block) (hf : sumH H + (Hc.row ws).need ≤ u) (vr : Value) (rs : List Nat) (hr : WordsAt W1 vr rs) :
    Calls Tryz.prog 23 #[.pointer (some ⟨hb, 0, none⟩), .agg #[.int .i64 9, .bool false, .int .i64 0, .string ⟨#[]⟩, .slice none 0 0, .slice ow ws.length wc, .int .u64 0, .int .i64 0, .int .i64 0], vr] W1 fun e w' => e = .returned (.tuple #[.int .u64 (hw (lid H) : Nat), .int .i64 0]) ∧ Hf W0 w' hb (putH H (lid H) (some (.row ws))) u K ∧ Upd (Ch W0 K) W1 w' := by
  obtain ⟨h1, S, h2, h3, h4⟩ := q
  refine (put_row h2 (fun k e => (h3 k e).2) ws hl hv64 hval none ow 0 wc hv ?_ vr rs hr).mono (fun e w' hP => Hf.fits h1 h3 h4 hf hP)
  intro o n cap e k
  cases e
  have := h4 _ (ho o rfl)
  rcases k with k | k
  · exact this.2 k
  · omega
end
end Go.Proofs.YtenpopelbmeemaaGreat.W
/- slices.AppendSeq over a row's words; load and Get, of a row. -/
namespace Go.Proofs.YtenpopelbmeemaaGreat.W
open Go.ChangeShapes Go.WideShapes Go.RowKit Go.Shelf
set_option linter.unusedVariables false
section
variable {W W' : World} {hb sb : Nat} {vc : Value} {T : Nat → Prop} {H : List (Option Hc)} {u h : Nat}
/-- along AppendSeq: i words are there -/
structure AqI (B0 : Nat) (W : World) (hb sb : Nat) (vc : Value) (T : Nat → Prop) (H : List (Option Hc)) (u h id Bh Bi Bs : Nat) (ws : List Nat) (i : Nat) (W' : World) : Prop where
  lay : HLay W' hb sb vc T H u h
  b0 : Boxed W' Bh 23 (.pointer (some ⟨hb, 0, none⟩))
  b1 : Boxed W' Bi 3 (.int .i64 id)
  s : ∃ v, Boxed W' Bs 27 v ∧ W'.ownsRow B0 22 1 v i ((ws.take i).map (fun x => .int .u64 (x : Nat)))
  bel : Below B0 W W'
theorem AqI.upd {B0 id Bh Bi Bs i : Nat} {ws : List Nat} {w2 : World} {S : Nat → Prop} (hlo : hb < B0 ∧ (∀ k, vc.ownBlock = some k → k < B0) ∧ ∀ k, T k → k < B0) (q : AqI B0 W hb sb vc T H u h id Bh Bi Bs ws i W') (hu : Upd S W' w2) (hS : ∀ k, S k → B0 ≤ k) (h0 : ¬ S Bh) (h1 : ¬ S Bi) (h2 : ¬ S Bs) (h3 : ∀ v, Boxed W' Bs 27 v → ∀ k, v.ownBlock = some k → ¬ S k) (hz : B0 ≤ W.heap.size) : AqI B0 W hb sb vc T H u h id Bh Bi Bs ws i w2 := by
  obtain ⟨v, hv1, hv2⟩ := q.s
  have z := q.bel.size
  refine ⟨q.lay.upd hu (fun e => by have := hS _ e; omega) (fun k e e2 => by have := hlo.2.1 k e; have := hS _ e2; omega) (fun k e e2 => by have := hlo.2.2 k e; have := hS _ e2; omega), box_of (hu.block _ q.b0.lt h0) q.b0, box_of (hu.block _ q.b1.lt h1) q.b1, ⟨v, box_of (hu.block _ hv1.lt h2) hv1, owns_on hv2 (fun k e => hu.block k (hv2.lt k e).2 (h3 v hv1 k e))⟩, q.bel.trans (hu.below (by omega) hS)⟩
end
end Go.Proofs.YtenpopelbmeemaaGreat.W
