import Derived.Test.YtgmimmdojkoppaaGreatDoorBase23
import Derived.Test.YtgmimmdojkoppaaGreatDoorBase15
import Derived.Lib.AppendZeros
import Derived.Lib.SliceRun
import Derived.Test.YtgmimmdojkoppaaGreatDoorBase20
import Derived.Test.YtgmimmdojkoppaaGreatDoorBase21
/- Package text: what a word tells; Of, Len, Byte, both, Compare. -/
namespace Go.Proofs.YtgmimmdojkoppaaGreatDoor.W
open Go.ChangeShapes Go.WideShapes Go.RowKit Go.Shelf
set_option linter.unusedVariables false
/-- a word of a string -/
def IsTxt (H : List (Option Hc)) (w : Nat) (t : ByteArray) : Prop := (t.size ≤ 5 ∧ (w : Int) = txtW t) ∨ ∃ id, w = hw id ∧ id < 281474976710656 ∧ H[id]? = some (some (.text (strB t)))
/-- what is held is held on -/
def Ext (H H' : List (Option Hc)) : Prop := ∀ (i : Nat) (c : Hc), H[i]? = some (some c) → H'[i]? = some (some c)
theorem Ext.refl (H : List (Option Hc)) : Ext H H := fun _ _ h => h
theorem Ext.trans {H H' H'' : List (Option Hc)} (h : Ext H H') (h' : Ext H' H'') : Ext H H'' := fun i c e => h' i c (h i c e)
theorem ext_put (H : List (Option Hc)) (c : Hc) : Ext H (putH H (lid H) (some c)) := by
  intro i x hx
  rw [putH_ne H _ i (fun e => ?_)]
  · exact hx
  · subst e
    have hl := (List.getElem?_eq_some_iff.1 hx).1
    rw [lid_free hl] at hx
    cases hx
theorem IsTxt.ext {H H' : List (Option Hc)} {w : Nat} {t : ByteArray} (h : IsTxt H w t) (he : Ext H H') : IsTxt H' w t := by
  rcases h with h | ⟨id, h1, h2, h3⟩
  · exact .inl h
  · exact .inr ⟨id, h1, h2, he _ _ h3⟩
theorem IsTxt.lt {H : List (Option Hc)} {w : Nat} {t : ByteArray} (h : IsTxt H w t) : w < 18446744073709551616 := by
  rcases h with ⟨h1, h2⟩ | ⟨id, rfl, h2, h3⟩
  · have := cls_is5 _ (txtW_cls t h1); omega
  · exact hw_lt id h2
section
variable {W1 : World} {S : Nat → Prop} {hb : Nat} {H : List (Option Hc)} {u : Nat}
theorem unbox_txt (q : HSt W1 S hb H u) (w : Nat) (t : ByteArray) (h : IsTxt H w t) :
    Calls Tryz.prog 18 #[.pointer (some ⟨hb, 0, none⟩), .int .u64 w] W1 fun e w' => e = .returned (.tuple #[.agg #[.int .i64 4, .int .i64 0, .int .u64 0, .string t, .int .u64 0], .int .i64 0]) ∧ Below W1.heap.size W1 w' := by
  rcases h with ⟨h1, h2⟩ | ⟨id, rfl, h2, h3⟩
  · rw [h2]; exact unbox_stext t h1 _ W1
  · obtain ⟨sb, vc, T, l, _⟩ := q
    exact unbox_text l (hw id) (hw_lt id h2) (cls_hw id h2) id (hit_hw h2 h3) t h3
set_option maxRecDepth 100000 in
theorem of_c (q : HSt W1 S hb H u) (w : Nat) (t : ByteArray) (h : IsTxt H w t) :
    Calls Tryz.prog 144 #[.pointer (some ⟨hb, 0, none⟩), .int .u64 w] W1 fun e w' => e = .returned (.tuple #[.string t, .int .i64 0]) ∧ Below W1.heap.size W1 w' := by
  have cu := unbox_txt q w t h
  clear q h
  go_enter Tryz.func144, Tryz.ntmps144
  go_wp2_with (go_at_call 18; (with_reducible refine cu.mono ?_); rintro e w4 ⟨rfl, hB4⟩; clear cu)
  go_ret2
  exact ⟨rfl, hB4.alloc hB4.size _⟩
set_option maxRecDepth 100000 in
theorem both_c (q : HSt W1 S hb H u) (a b : Nat) (x y : ByteArray) (hx : IsTxt H a x) (hy : IsTxt H b y) :
    Calls Tryz.prog 156 #[.pointer (some ⟨hb, 0, none⟩), .int .u64 a, .int .u64 b] W1 fun e w' => e = .returned (.tuple #[.string x, .string y, .int .i64 0]) ∧ Below W1.heap.size W1 w' := by
  have ca := of_c q a x hx
  have cb := fun w4 (hB4 : Below W1.heap.size W1 w4) => of_c (q.below hB4) b y hy
  clear q hx hy
  go_enter Tryz.func156, Tryz.ntmps156
  go_wp2_with (go_at_call 144; first | ((with_reducible refine ca.mono ?_); rintro e w4 ⟨rfl, hB4⟩; clear ca) | ((with_reducible refine (cb _ hB4).mono ?_); rintro e w5 ⟨rfl, hB5⟩; clear cb))
  refine bodyPost_ret (results_tmp3 rfl _ _ _) rfl ?_
  exact ⟨rfl, hB4.trans (hB5.mono hB4.size)⟩
theorem compare_c (q : HSt W1 S hb H u) (a b : Nat) (x y : ByteArray) (hx : IsTxt H a x) (hy : IsTxt H b y) (lx : x.size ≤ 100000000) (ly : y.size ≤ 100000000) :
    Calls Tryz.prog 166 #[.pointer (some ⟨hb, 0, none⟩), .int .u64 a, .int .u64 b] W1 fun e w' => e = .returned (.tuple #[.int .i64 (ordL (byL x) (byL y)), .int .i64 0]) ∧ Below W1.heap.size W1 w' := by
  have ca := both_c q a b x y hx hy
  have co := fun w => order_c x y lx ly w
  clear q hx hy lx ly
  go_enter Tryz.func166, Tryz.ntmps166
  go_wp2_with (first | (go_at_call 156; (with_reducible refine ca.mono ?_); rintro e w4 ⟨rfl, hB4⟩; clear ca) | (go_at_call 208; (with_reducible refine (co _).mono ?_); rintro e w5 ⟨rfl, hB5⟩; clear co))
  go_ret2
  exact ⟨rfl, hB4.trans (hB5.mono hB4.size)⟩
end
end Go.Proofs.YtgmimmdojkoppaaGreatDoor.W
/- slices.Grow and slices.Concat, of words. -/
namespace Go.Proofs.YtgmimmdojkoppaaGreatDoor.W
open Go.ChangeShapes Go.WideShapes Go.RowKit Go.Shelf
set_option linter.unusedVariables false
theorem infoW : (Tryz.prog.info? 22).map (fun i => (i.zero, i.size, i.bytes)) = some (some (.int .u64 0), 1, 8) := by kernel_rfl
theorem underW : Tryz.prog.underlying 31 = some (.slice 22) := by kernel_rfl
theorem grow_run (w : World) (ty : TypeId) (m : Nat) (hm : 0 < m) (hm2 : m ≤ 2000000) : ∃ cap w', (Builtin.append_ #[31, 3] ty #[.slice none 0 0, .int .i64 (m : Int)]).run Tryz.prog w = .ok (.slice (some ⟨w.heap.size, 0, none⟩) m cap) w' ∧ w'.ownsRow w.heap.size 22 1 (.slice (some ⟨w.heap.size, 0, none⟩) 0 cap) 0 [] ∧ w.grownBy w' none ∧ m ≤ cap := by
  obtain ⟨i0, hi, hz0, hz1, hz2⟩ := info_parts infoW
  have hrun := Lib.run_append_nil_zeros (P := Tryz.prog) w 31 3 ty 22 i0 (.int .u64 0) .i64 .i64 underW Tryz.underlying3 hi hz0 m hm (by omega) (by omega) (by rw [hz2]; omega)
  refine ⟨_, _, hrun, ⟨by simp, .inr ⟨w.heap.size, _, _, rfl, Nat.le_refl _, heap_alloc_new w.drew _, Nat.zero_le _, grownCap_le_maxLen w _ _ _ (by unfold maxLen; omega), ?_, by simp⟩⟩, ⟨rfl, rfl, rfl, ?_, fun k hk _ => Below.heap_alloc w.drew _ k hk⟩, ?_⟩
  · have h1 : (Value.int .u64 0).cells = #[.int .u64 0] := rfl
    rw [zeroCells_one _ _ h1, zeroCells_one _ _ h1]
    have := grownCap_ge w m 0 22
    simp; omega
  · show w.heap.size ≤ (w.drew.alloc _).heap.size; simp
  · exact grownCap_ge w m 0 22
set_option maxRecDepth 100000 in
theorem grow_c (W : World) (m : Nat) (hm : 0 < m) (hm2 : m ≤ 2000000) : Calls Tryz.prog 84 #[.slice none 0 0, .int .i64 m] W fun e w' => ∃ v, e = .returned v ∧ Below W.heap.size W w' ∧ w'.ownsRow W.heap.size 22 1 v 0 [] := by
  obtain ⟨cap, w1, hrun, hown, hgr, hcap⟩ := grow_run W 31 m hm hm2
  have h1 : ¬ ((m : Int) < 0) := by omega
  have h3 : IntKind.i64.wrap (m : Int) = m := by rw [IntKind.wrap_i64]; omega
  have h4 : (m : Int) > 0 := by omega
  have hB : Below W.heap.size W w1 := ((Upd.refl (fun _ => False) W).grown hgr (fun k e => by cases e)).below (Nat.le_refl _) (fun k e => e.elim)
  go_enter Tryz.func84, Tryz.ntmps84
  go_wp2_with (at_builtin; refine Lib.wpList_append_run _ rfl (.tmp 20) (.tmp 21) 31 3 rfl _ _ (by simp [Act.eval]) (by simp [Act.eval]) _ _ hrun ?_)
  go_ret
  exact ⟨_, rfl, hB, hown⟩
theorem app_words (w : World) (B : Nat) (ty : TypeId) (hB : B ≤ w.heap.size) (v : Value) (n : Nat) (xs : List Value) (hown : w.ownsRow B 22 1 v n xs) (vs : Value) (ws : List Nat) (hw : WordsAt w vs ws) (hn : n + ws.length ≤ 2000000) :
    ∃ v' w', (Builtin.append_ #[31, 31] ty #[v, vs]).run Tryz.prog w = .ok v' w' ∧ w'.ownsRow B 22 1 v' (n + ws.length) (xs ++ ws.map (fun x => .int .u64 (x : Nat))) ∧ w.grownBy w' v.ownBlock := by
  obtain ⟨i0, hi, hz0, hz1, hz2⟩ := info_parts infoW
  obtain ⟨o, cap, rfl, hl, h64, hcell⟩ := hw
  cases o with
  | none =>
    have h0 : ws = [] := by
      cases ws with
      | nil => rfl
      | cons a r => obtain ⟨x, hx, _⟩ := hcell 0 (by simp); cases hx
    subst h0
    refine ⟨v, w, ?_, by simpa using hown, ⟨rfl, rfl, rfl, Nat.le_refl _, fun k _ _ => rfl⟩⟩
    rcases hown.2 with ⟨rfl, rfl⟩ | ⟨g, cap', cur, rfl, _, _, hnc, _⟩
    · simp [Builtin.append_, run_underlying underW, sizeOf, typeInfo, hi, Builtin.lenOf, Builtin.firstCells]
    · simp [Builtin.append_, run_underlying underW, sizeOf, typeInfo, hi, Builtin.lenOf, Builtin.firstCells, hnc, storeCells]
  | some a =>
    have h1 : ∀ j u, (ws.map (fun x => Value.int .u64 (x : Nat)))[j]? = some u → w.cell? (a.add j) = some u := by
      intro j u hj
      rw [List.getElem?_map] at hj
      by_cases hjl : j < ws.length
      · rw [List.getElem?_eq_getElem hjl] at hj
        obtain ⟨x, hx, hc⟩ := hcell j hjl
        cases hx
        simp at hj
        rw [← hj]; exact hc
      · rw [List.getElem?_eq_none (by omega)] at hj; cases hj
    have h2 : ∀ u ∈ ws.map (fun x => Value.int .u64 (x : Nat)), u.oneCell' = true := by
      intro u hu
      obtain ⟨x, _, rfl⟩ := List.mem_map.1 hu
      rfl
    obtain ⟨v', w', hrun, ho, hg, _⟩ := run_append_own w B 31 ty 22 i0 (.int .u64 0) 1 8 underW hi hz0 hz1 hz2 rfl (by omega) v n xs hown a ws.length cap (ws.map (fun x => .int .u64 (x : Nat))) (by simp) h1 h2 (by unfold maxLen; omega) (by omega) hB
    exact ⟨v', w', hrun, ho, hg⟩
theorem words_own {w : World} {B : Nat} {v : Value} {ws : List Nat} (h : w.ownsRow B 22 1 v ws.length (ws.map (fun x => .int .u64 (x : Nat)))) (hl : ws.length ≤ 2000000) (h64 : ∀ x ∈ ws, x < 18446744073709551616) : WordsAt w v ws := by
  rcases h.2 with ⟨rfl, h0⟩ | ⟨g, cap, cur, rfl, _⟩
  · exact ⟨none, 0, by rw [h0], by omega, h64, fun i hi => by omega⟩
  · refine ⟨some ⟨g, 0, none⟩, cap, rfl, by omega, h64, fun i hi => ⟨_, rfl, ?_⟩⟩
    exact h.cells (g := g) rfl i _ (by rw [List.getElem?_map, List.getElem?_eq_getElem hi]; rfl)
set_option maxRecDepth 100000 in
theorem sconcat_c (W : World) (gb cap : Nat) (v1 v2 : Value) (r1 r2 : List Nat) (hc0 : W.cell? ⟨gb, 0, none⟩ = some v1) (hc1 : W.cell? ⟨gb, 1, none⟩ = some v2) (h1 : WordsAt W v1 r1) (h2 : WordsAt W v2 r2) (hl : r1.length + r2.length ≤ 2000000) (hp : 0 < r2.length) :
    Calls Tryz.prog 44 #[.slice (some ⟨gb, 0, none⟩) 2 cap] W fun e w' => ∃ v, e = .returned v ∧ Below W.heap.size W w' ∧ WordsAt w' v (r1 ++ r2) := by
  have cg := grow_c W (r1.length + r2.length) (by omega) hl
  have h1' := h1
  have h2' := h2
  obtain ⟨o1, cap1, rfl, l1, x1, e1⟩ := h1'
  obtain ⟨o2, cap2, rfl, l2, x2, e2⟩ := h2'
  have X1 := hid x1
  have X2 := hid x2
  have HL := hid hl
  clear x1 x2 e1 e2 l1 l2
  generalize hn1 : r1.length = n1 at *
  generalize hn2 : r2.length = n2 at *
  have a1 : IntKind.i64.wrap (n1 : Int) = (n1 : Int) := by rw [IntKind.wrap_i64]; omega
  have a2 : IntKind.i64.wrap ((n1 : Int) + (n2 : Int)) = (n1 : Int) + (n2 : Int) := by rw [IntKind.wrap_i64]; omega
  have b1 : ¬ (n1 : Int) < 0 := by omega
  have b2 : ¬ (n1 : Int) + (n2 : Int) < 0 := by omega
  rw [show ((n1 + n2 : Nat) : Int) = (n1 : Int) + (n2 : Int) by omega] at cg
  have N1 := hid hn1
  have N2 := hid hn2
  clear hn1 hn2 hl
  go_enter Tryz.func44, Tryz.ntmps44
  go_wp2
  refine wp_loop_rounds 3 ?_
  rw [rounds_succ]
  go_wp2
  rw [rounds_succ]
  go_wp2
  rw [rounds_succ]
  go_wp2_with (go_at_call 84; (with_reducible refine cg.mono ?_); rintro e w4 ⟨v, rfl, hB4, hown⟩; clear cg)
  have H1 := hid (words_below h1 hB4)
  obtain ⟨v5, w5, hrun5, hown5, hg5⟩ := app_words w4 W.heap.size 31 hB4.size v 0 [] hown (.slice o1 n1 cap1) r1 H1.out (by rw [N1.out]; have := HL.out; omega)
  have hU5 : Upd (fun k => W.heap.size ≤ k) w4 w5 := (Upd.refl (fun k => W.heap.size ≤ k) w4).grown hg5 (fun k e => .inl (hown.lt k e).1)
  have hB5 : Below W.heap.size W w5 := hB4.trans (hU5.below hB4.size (fun k e => e))
  obtain ⟨v6, w6, hrun6, hown6, hg6⟩ := app_words w5 W.heap.size 31 hB5.size v5 (0 + r1.length) ([] ++ r1.map (fun x => .int .u64 (x : Nat))) hown5 (.slice o2 n2 cap2) r2 (words_below h2 hB5) (by rw [N1.out, N2.out]; have := HL.out; omega)
  have hU6 : Upd (fun k => W.heap.size ≤ k) w5 w6 := (Upd.refl (fun k => W.heap.size ≤ k) w5).grown hg6 (fun k e => .inl (hown5.lt k e).1)
  have hB6 : Below W.heap.size W w6 := hB5.trans (hU6.below hB5.size (fun k e => e))
  have d0 := below_cell hB4 hc0
  have d1 := below_cell hB5 hc1
  have fin : Hid (WordsAt w6 v6 (r1 ++ r2)) := by
    refine words_own (B := W.heap.size) ?_ ?_ ?_
    · rw [List.length_append, List.map_append]
      simpa using hown6
    · rw [List.length_append, N1.out, N2.out]; exact HL.out
    · intro x hx
      rcases List.mem_append.1 hx with h | h
      · exact X1.out x h
      · exact X2.out x h
  have HB6 := hid hB6
  obtain ⟨p0, q0, hv0⟩ := slice_of (owns_base hown (b' := 0) (fun _ _ => Nat.zero_le _))
  obtain ⟨p5, q5, hv5⟩ := slice_of (owns_base hown5 (b' := 0) (fun _ _ => Nat.zero_le _))
  subst hv0
  subst hv5
  clear hown hown5 hown6 hg5 hg6 hU5 hU6 hB5 hB6 hB4 h1 h2
  refine wp_loop_rounds 3 ?_
  rw [rounds_succ]
  go_wp2_with (at_builtin; refine Lib.wpList_append_run _ rfl (.tmp 31) (.tmp 32) 31 31 rfl _ _ (by simp [Act.eval]) (by simp [Act.eval]) _ _ hrun5 ?_)
  rw [rounds_succ]
  go_wp2_with (at_builtin; refine Lib.wpList_append_run _ rfl (.tmp 31) (.tmp 32) 31 31 rfl _ _ (by simp [Act.eval]) (by simp [Act.eval]) _ _ hrun6 ?_)
  rw [rounds_succ]
  go_wp2
  go_ret
  exact ⟨_, rfl, HB6.out, fin.out⟩
end Go.Proofs.YtgmimmdojkoppaaGreatDoor.W
/- casketlaw6's awake. -/
namespace Go.Proofs.YtgmimmdojkoppaaGreatDoor.W
open Go.ChangeShapes Go.WideShapes Go.RowKit Go.Shelf
set_option linter.unusedVariables false
theorem HSt.lt {W : World} {S : Nat → Prop} {hb : Nat} {H : List (Option Hc)} {u : Nat} {W' : World} (hS : ∀ k, S k → k < W.heap.size) (hU : Upd S W W') : ∀ k, Nx S W W' k → k < W'.heap.size := by
  rintro k (e | e)
  · have := hS k e; have := hU.size; omega
  · exact e.2
end Go.Proofs.YtgmimmdojkoppaaGreatDoor.W
/- A heap that a statement made itself, and what it keeps beside it; Box of a string; Concat, Sub. -/
namespace Go.Proofs.YtgmimmdojkoppaaGreatDoor.W
open Go.ChangeShapes Go.WideShapes Go.RowKit Go.Shelf
set_option linter.unusedVariables false
/-- a heap that was made behind W0; what K names is none of its -/
def Hf (W0 W : World) (hb : Nat) (H : List (Option Hc)) (u : Nat) (K : Nat → Prop) : Prop := Below W0.heap.size W0 W ∧ ∃ S, HSt W S hb H u ∧ (∀ k, S k → W0.heap.size ≤ k ∧ k < W.heap.size) ∧ (∀ k, K k → k < W.heap.size ∧ ¬ S k)
section
variable {W0 W W1 W' : World} {hb : Nat} {H : List (Option Hc)} {u : Nat} {K K' : Nat → Prop}
theorem Hf.bel (q : Hf W0 W hb H u K) : Below W0.heap.size W0 W := q.1
theorem Hf.sub (q : Hf W0 W hb H u K) (h : ∀ k, K' k → K k) : Hf W0 W hb H u K' := by
  obtain ⟨h1, S, h2, h3, h4⟩ := q
  exact ⟨h1, S, h2, h3, fun k e => h4 k (h k e)⟩
theorem Hf.below (q : Hf W0 W hb H u K) (hB : Below W.heap.size W W') : Hf W0 W' hb H u (fun k => K k ∨ (W.heap.size ≤ k ∧ k < W'.heap.size)) := by
  obtain ⟨h1, S, h2, h3, h4⟩ := q
  have z := hB.size
  refine ⟨h1.trans (hB.mono h1.size), S, h2.below hB, fun k e => ⟨(h3 k e).1, by have := (h3 k e).2; omega⟩, ?_⟩
  rintro k (e | e)
  · exact ⟨by have := (h4 k e).1; omega, (h4 k e).2⟩
  · exact ⟨e.2, fun e2 => by have := (h3 k e2).2; omega⟩
theorem Hf.below' (q : Hf W0 W hb H u K) (hB : Below W.heap.size W W') : Hf W0 W' hb H u K := (q.below hB).sub (fun k e => .inl e)
/-- what is kept aside may be written -/
theorem Hf.upd {D : Nat → Prop} (q : Hf W0 W hb H u K) (hU : Upd D W W') (hD : ∀ k, D k → K k ∧ W0.heap.size ≤ k) : Hf W0 W' hb H u K := by
  obtain ⟨h1, S, h2, h3, h4⟩ := q
  have z := hU.size
  refine ⟨h1.trans (hU.below h1.size (fun k e => (hD k e).2)), S, h2.on z (fun k e hl => hU.block k hl (fun d => (h4 k (hD k d).1).2 e)), fun k e => ⟨(h3 k e).1, by have := (h3 k e).2; omega⟩, fun k e => ⟨by have := (h4 k e).1; omega, (h4 k e).2⟩⟩
theorem hf_new (hB : Below W0.heap.size W0 W) (u : Nat) (hu : u ≤ 1048576) : Calls Tryz.prog 4 #[.int .i64 u] W fun e w' => ∃ hb, e = .returned (.tuple #[.pointer (some ⟨hb, 0, none⟩), .int .i64 0]) ∧ Hf W0 w' hb [] u (fun k => k < W.heap.size) ∧ Below W.heap.size W w' := by
  refine (hnew_c u hu W).mono ?_
  rintro e w' ⟨hb, rfl, hB', g⟩
  have h1 := hB.size
  have h2 := hB'.size
  exact ⟨hb, rfl, ⟨hB.trans (hB'.mono h1), _, g, fun k e => ⟨by omega, e.2⟩, fun k e => ⟨by omega, fun e2 => by omega⟩⟩, hB'⟩
/-- what may change -/
def Ch (W0 : World) (K : Nat → Prop) : Nat → Prop := fun k => ¬ K k ∧ W0.heap.size ≤ k
theorem Hf.put {S : Nat → Prop} {H' : List (Option Hc)} (h0 : Below W0.heap.size W0 W1) (h3 : ∀ k, S k → W0.heap.size ≤ k ∧ k < W1.heap.size) (h4 : ∀ k, K k → k < W1.heap.size ∧ ¬ S k) (hU : Upd S W1 W') (g : HSt W' (Nx S W1 W') hb H' u) : Hf W0 W' hb H' u K ∧ Upd (Ch W0 K) W1 W' := by
  have z := hU.size
  have z0 := h0.size
  refine ⟨⟨h0.trans (hU.below z0 (fun k e => (h3 k e).1)), _, g, ?_, fun k e => ⟨by have := (h4 k e).1; omega, ?_⟩⟩, ⟨hU.os, hU.tape, hU.output, hU.size, fun k hk hn => hU.block k hk (fun e => hn ⟨fun e2 => (h4 k e2).2 e, (h3 k e).1⟩)⟩⟩
  · rintro k (e | e)
    · exact ⟨(h3 k e).1, by have := (h3 k e).2; omega⟩
    · exact ⟨by omega, e.2⟩
  · rintro (e2 | e2)
    · exact (h4 k e).2 e2
    · have := (h4 k e).1; omega
/-- what a string needs -/
def tneed (t : ByteArray) : Nat := 1 + (t.size + 7) / 8
theorem hf_text (q : Hf W0 W1 hb H u K) (t : ByteArray) (hl : t.size ≤ 8388608) (hf : sumH H + tneed t ≤ u) (vr : Value) (rs : List Nat) (hr : WordsAt W1 vr rs) :
    Calls Tryz.prog 63 #[.pointer (some ⟨hb, 0, none⟩), .agg #[.int .i64 4, .bool false, .int .i64 0, .string t, .slice none 0 0, .slice none 0 0, .int .u64 0, .int .i64 0, .int .i64 0], vr] W1 fun e w' => e = .returned (.tuple #[.int .u64 (hw (lid H) : Nat), .int .i64 0]) ∧ Hf W0 w' hb (putH H (lid H) (some (.text (strB t)))) u K ∧ Upd (Ch W0 K) W1 w' := by
  obtain ⟨h1, S, h2, h3, h4⟩ := q
  refine (put_text h2 (fun k e => (h3 k e).2) t hl none none 0 0 vr rs hr).mono ?_
  intro e w' hP
  have hf' : sumH H + (Hc.text (strB t)).need ≤ u := by rw [text_need]; exact hf
  have hrm : roomH H u (.text (strB t)) rs = H := by unfold roomH; rw [if_pos hf']
  rw [hrm] at hP
  obtain ⟨hU, ⟨_, rfl, g⟩ | ⟨hn, _⟩⟩ := hP
  · exact ⟨rfl, Hf.put h1 h3 h4 hU g⟩
  · omega
/-- behind a string that was boxed -/
def TxtPost (W0 W1 : World) (hb : Nat) (H : List (Option Hc)) (u : Nat) (K : Nat → Prop) (t : ByteArray) (e : Ending) (w' : World) : Prop := ∃ (w : Nat) (H' : List (Option Hc)), e = .returned (.tuple #[.int .u64 (w : Nat), .int .i64 0]) ∧ Hf W0 w' hb H' u K ∧ Ext H H' ∧ IsTxt H' w t ∧ sumH H' ≤ sumH H + tneed t ∧ H'.length ≤ H.length + 1 ∧ Upd (Ch W0 K) W1 w'
theorem TxtPost.two {t : ByteArray} {e : Ending} (h : TxtPost W0 W1 hb H u K t e W') : ∃ x y, e = .returned (.tuple #[.int .u64 x, .int .i64 y]) := by
  obtain ⟨w, H', rfl, _⟩ := h
  exact ⟨_, _, rfl⟩
theorem TxtPost.on {W2 : World} {t : ByteArray} {e : Ending} (hB : Below W1.heap.size W1 W2) (h : TxtPost W0 W2 hb H u K t e W') : TxtPost W0 W1 hb H u K t e W' := by
  obtain ⟨w, H', rfl, h1, h2, h3, h4, h5, h6⟩ := h
  exact ⟨w, H', rfl, h1, h2, h3, h4, h5, (Upd.of_below hB).trans' h6⟩
end
end Go.Proofs.YtgmimmdojkoppaaGreatDoor.W
/- Package text: box, Concat, Sub. -/
namespace Go.Proofs.YtgmimmdojkoppaaGreatDoor.W
open Go.ChangeShapes Go.WideShapes Go.RowKit Go.Shelf
set_option linter.unusedVariables false
section
variable {W0 W W1 W' : World} {hb : Nat} {H : List (Option Hc)} {u : Nat} {K K' : Nat → Prop}
end
end Go.Proofs.YtgmimmdojkoppaaGreatDoor.W
/- casketlaw8: awake, box. -/
namespace Go.Proofs.YtgmimmdojkoppaaGreatDoor.W
open Go.ChangeShapes Go.WideShapes Go.RowKit Go.Shelf
set_option linter.unusedVariables false
theorem words_nil' (w : World) : WordsAt w (.slice none 0 0) [] := words_nil w none 0
section
variable {W0 W W1 W' : World} {hb : Nat} {H : List (Option Hc)} {u : Nat} {K K' : Nat → Prop}
end
end Go.Proofs.YtgmimmdojkoppaaGreatDoor.W
