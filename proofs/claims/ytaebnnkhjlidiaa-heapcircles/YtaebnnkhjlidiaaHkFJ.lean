import Derived.Test.YtaebnnkhjlidiaaHkAJ
import Derived.Test.YtaebnnkhjlidiaaHkEJ
import Derived.Test.YtaebnnkhjlidiaaKf1J
/- HeapCircles: its state; Get of what is none, Put that does not fit, Collect that leaves none. -/
namespace Go.Proofs.Ytaebnnkhjlidiaa.W
open Go.ChangeShapes Go.WideShapes Go.RowKit Go.Shelf
set_option linter.unusedVariables false
theorem thaw_row {W : World} {b : Nat} {c : Array Value} {t : TypeId} (h : W.heap[b]? = some (.cells c t (0, 0))) (j : Nat) : W.frozen? ⟨b, j, none⟩ = false := by simp [World.frozen?, h]
section
variable {W W' : World} {hb sb : Nat} {vc : Value} {T : Nat → Prop} {H : List (Option Hc)} {u h : Nat}
theorem get_none (g : HLay W hb sb vc T H u h) (w : Nat) (hw : w < 18446744073709551616) (hi : hit H w = none) :
    Calls Try.prog 14 #[.pointer (some ⟨hb, 0, none⟩), .int .u64 w] W fun e w' => e = .returned (.tuple #[.agg #[.int .i64 0, .bool false, .int .i64 0, .string ⟨#[]⟩, .slice none 0 0, .slice none 0 0, .int .u64 0, .int .i64 0, .int .i64 0], .int .i64 41]) ∧ Below W.heap.size W w' := by
  have hB1 : Below W.heap.size W (W.alloc (.cells #[.int .i64 0, .bool false, .int .i64 0, .string ⟨#[]⟩, .slice none 0 0, .slice none 0 0, .int .u64 0, .int .i64 0, .int .i64 0] 26)) := (Below.refl _ W).alloc (Nat.le_refl _) _
  have f1 := World.alloc_heap_new W (.cells #[.int .i64 0, .bool false, .int .i64 0, .string ⟨#[]⟩, .slice none 0 0, .slice none 0 0, .int .u64 0, .int .i64 0, .int .i64 0] 26)
  have cf := find_c (g.below hB1) w hw
  rw [hi] at cf
  simp only [Option.getD_none, Option.isSome_none] at cf
  have eR := fun j => cell_of_row _ W.heap.size j _ _ _ f1
  have zR : ∀ j, (W.alloc (.cells #[.int .i64 0, .bool false, .int .i64 0, .string ⟨#[]⟩, .slice none 0 0, .slice none 0 0, .int .u64 0, .int .i64 0, .int .i64 0] 26)).frozen? ⟨W.heap.size, j, none⟩ = false := fun j => thaw_row f1 j
  have FR := hid f1
  have HB := hid hB1
  clear g f1 hB1
  go_enter Try.func14, Try.ntmps14
  go_upto_region 1 with fail
  generalize W.alloc (.cells #[.int .i64 0, .bool false, .int .i64 0, .string ⟨#[]⟩, .slice none 0 0, .slice none 0 0, .int .u64 0, .int .i64 0, .int .i64 0] 26) = W1 at *
  go_wp2_with (go_at_call 28; (with_reducible refine cf.mono ?_); rintro e w' ⟨rfl, hw⟩; (have hw' := hw.symm); subst hw'; clear hw cf)
  refine bodyPost_ret (cell_ret2 rfl _ _ W.heap.size _ _ _ _ _ _ _ _ _ (0, 0) rfl (nine_set FR.out _ _ _ _ _ _ _ _ _)) rfl ?_
  exact ⟨rfl, nine_below HB.out (Nat.le_refl _) _ _ _ _ _ _ _ _ _⟩
end
/-- along HeapCircles: a heap, the words of its first m cells, the box of the answer -/
structure Ck (w W : World) (hb u : Nat) (H : List (Option Hc)) (m : Nat) (K : Nat → Prop) (vr : Value) (ms : List Nat := []) : Prop where
  q : Hf w W hb H u K
  r : Mine w W K vr ((List.range m).map hw)
  bx : W.heap[w.heap.size]? = some (.cells #[.bool false] 4 (0, 0))
  bk : K w.heap.size
  mks : ∀ k ∈ ms, K k ∧ W.heap[k]? = some (.deferred (some []))
  mge : ∀ k ∈ ms, w.heap.size ≤ k
section
variable {w W W' : World} {hb u m : Nat} {H H' : List (Option Hc)} {K K' : Nat → Prop} {vr : Value} {ms : List Nat}
theorem Ck.below (s : Ck w W hb u H m K vr ms) (hB : Below W.heap.size W W') : Ck w W' hb u H m (fun k => K k ∨ (W.heap.size ≤ k ∧ k < W'.heap.size)) vr ms :=
  ⟨s.q.below hB, (s.r.below hB).sub (fun k e => .inl e), (hB.block _ (lt_get s.bx)).trans s.bx, .inl s.bk, fun k hk => ⟨.inl (s.mks k hk).1, (hB.block _ (lt_get (s.mks k hk).2)).trans (s.mks k hk).2⟩, s.mge⟩
theorem Ck.below' (s : Ck w W hb u H m K vr ms) (hB : Below W.heap.size W W') : Ck w W' hb u H m K vr ms :=
  ⟨s.q.below' hB, s.r.below hB, (hB.block _ (lt_get s.bx)).trans s.bx, s.bk, fun k hk => ⟨(s.mks k hk).1, (hB.block _ (lt_get (s.mks k hk).2)).trans (s.mks k hk).2⟩, s.mge⟩
theorem Ck.heap (s : Ck w W hb u H m K vr ms) (q' : Hf w W' hb H' u K) (hU : Upd (Ch w K) W W') : Ck w W' hb u H' m K vr ms :=
  ⟨q', s.r.upd hU, (hU.block _ (lt_get s.bx) (fun d => d.1 s.bk)).trans s.bx, s.bk, fun k hk => ⟨(s.mks k hk).1, (hU.block _ (lt_get (s.mks k hk).2) (fun d => d.1 (s.mks k hk).1)).trans (s.mks k hk).2⟩, s.mge⟩
theorem Ck.ne (s : Ck w W hb u H m K vr ms) : ∀ k, vr.ownBlock = some k → k ≠ w.heap.size := fun k e h => by
  subst h
  exact own_ne (owns_base s.r.row (b' := 0) (fun _ _ => Nat.zero_le _)) s.bx (by decide) e.symm
theorem own_cells {W : World} {e : TypeId} {size n : Nat} {v : Value} {xs : List Value} {B k : Nat} (h : W.ownsRow B e size v n xs) (hk : v.ownBlock = some k) : ¬ W.heap[k]? = some (.deferred (some [])) := by
  intro hd
  rcases h.2 with ⟨rfl, _⟩ | ⟨g, cap, cur, rfl, _, hg, _⟩
  · cases hk
  · cases hk
    rw [hd] at hg
    cases hg
theorem Ck.me (s : Ck w W hb u H m K vr ms) : ∀ k, vr.ownBlock = some k → k ∉ ms := fun k e h => own_cells s.r.row e (s.mks k h).2
/-- a word is kept -/
theorem Ck.keep (s : Ck w W hb u H m K vr ms) (hm : m ≤ 1000) (ty : TypeId) : ∃ v' w', (Builtin.append_ #[23, 23] ty #[vr, .slice (some ⟨W.heap.size, 0, none⟩) 1 1]).run Try.prog (W.alloc (.cells #[.int .u64 (hw m : Nat)] 24)) = .ok v' w' ∧ ∃ K', Ck w w' hb u H (m + 1) K' v' ms := by
  have hl : ((List.range m).map hw).length = m := by simp
  obtain ⟨v', w', h1, h2, h3, h4⟩ := mine_append s.q ty vr _ s.r (hw m) (hw_lt m (by omega)) (by rw [hl]; omega)
  refine ⟨v', w', h1, _, h2, ?_, (h4.block _ (lt_get s.bx) (fun e => s.ne _ e rfl)).trans s.bx, .inl s.bk, fun k hk => ⟨.inl (s.mks k hk).1, (h4.block _ (lt_get (s.mks k hk).2) (fun e => s.me _ e hk)).trans (s.mks k hk).2⟩, s.mge⟩
  rw [List.range_succ, List.map_append]
  exact h3
/-- the i-th word, where it stands -/
theorem Ck.at (s : Ck w W hb u H m K vr ms) (hm : 0 < m) : ∃ g cap, vr = .slice (some ⟨g, 0, none⟩) m cap ∧ ∀ i, i < m → W.cell? ⟨g, i, none⟩ = some (.int .u64 (hw i : Nat)) := by
  have hl : ((List.range m).map hw).length = m := by simp
  have hr := s.r.row
  obtain ⟨g, cap, e, _⟩ := own_slice (owns_base hr (b' := 0) (fun _ _ => Nat.zero_le _)) (by rw [hl]; exact hm)
  rw [hl] at e hr
  refine ⟨g, cap, e, fun i hi => ?_⟩
  rw [e] at hr
  refine own_at (B0 := w.heap.size) (t := 24) hr i _ ?_
  unfold wds
  rw [List.getElem?_map, List.getElem?_map, List.getElem?_range hi]
  rfl
theorem Ck.cells {g cap : Nat} (s : Ck w W hb u H m K (.slice (some ⟨g, 0, none⟩) m cap) ms) : ∀ y, y < m → W.cell? ⟨g, y, none⟩ = some (.int .u64 (hw y : Nat)) := by
  intro y hy
  obtain ⟨g', cap', hv, hc⟩ := s.at (by omega)
  injection hv with hv1 hv2 hv3
  injection hv1 with hv1
  injection hv1 with hv1
  subst hv1
  exact hc y hy
theorem Ck.drew (s : Ck w W hb u H m K vr ms) : Ck w W.drew hb u H m K vr ms := s.below' ⟨rfl, rfl, rfl, Nat.le_refl _, fun _ _ => rfl⟩
/-- a row of two noughts is put -/
theorem Ck.put (s : Ck w W hb u (cir m 0) m K vr ms) (hu : 3 * m + 3 ≤ u) (hm : m ≤ 1000) (gb : Nat) (hv : WordsAt W (.slice (some ⟨gb, 0, none⟩) 2 2) [9221120237041090560, 9221120237041090560]) (hk : K gb) (v : Value) (hw' : WordsAt W v ((List.range m).map hw)) :
    Calls Try.prog 12 #[.pointer (some ⟨hb, 0, none⟩), .agg #[.int .i64 9, .bool false, .int .i64 0, .string ⟨#[]⟩, .slice none 0 0, .slice (some ⟨gb, 0, none⟩) 2 2, .int .u64 0, .int .i64 0, .int .i64 0], v] W fun e w' => e = .returned (.tuple #[.int .u64 (hw m : Nat), .int .i64 0]) ∧ Ck w w' hb u (cir (m + 1) 0) m K vr ms := by
  have h := hf_row s.q [9221120237041090560, 9221120237041090560] (by decide) (by decide) (fun x hx => by simp at hx; rw [hx]; exact isVal_canon _) (some ⟨gb, 0, none⟩) 2 hv (fun x e => by cases e; exact hk) (by rw [cir_sum, row_need]; simp; omega) v _ hw'
  refine h.mono ?_
  rintro e w' ⟨rfl, h1, h2⟩
  rw [cir_put] at h1
  rw [cir_lid]
  exact ⟨rfl, s.heap h1 h2⟩
/-- the two words of a row are set -/
theorem Ck.set0 {n i : Nat} (s : Ck w W hb u (cir n i) m K vr ms) (hi : i < n) (hn : n ≤ 1000) :
    Calls Try.prog 15 #[.pointer (some ⟨hb, 0, none⟩), .int .u64 (hw i : Nat), .int .i64 0, .int .u64 (hw ((i + 1) % n) : Nat)] W fun e w' => e = .returned (.int .i64 0) ∧ Ck w w' hb u ((cir n i).set i (some (.row (([9221120237041090560, 9221120237041090560] : List Nat).set 0 (hw ((i + 1) % n)))))) m K vr ms := by
  have h1 : (i + 1) % n < n := Nat.mod_lt _ (by omega)
  have hc : (cir n i)[i]? = some (some (.row [9221120237041090560, 9221120237041090560])) := by
    rw [cir_get n i i hi]; unfold cirW; rw [if_neg (by omega)]
  refine (hf_set s.q (hw i) (hw_lt i (by omega)) i (cir_hit n i i (by omega) hi) _ hc 0 (by decide) (hw ((i + 1) % n)) (hw_lt _ (by omega)) (isVal_hw (by omega) (cir_get n i _ h1))).mono ?_
  rintro e w' ⟨rfl, x1, x2⟩
  exact ⟨rfl, s.heap x1 x2⟩
theorem Ck.set1 {n i : Nat} (s : Ck w W hb u ((cir n i).set i (some (.row (([9221120237041090560, 9221120237041090560] : List Nat).set 0 (hw ((i + 1) % n)))))) m K vr ms) (hi : i < n) (hn : n ≤ 1000) :
    Calls Try.prog 15 #[.pointer (some ⟨hb, 0, none⟩), .int .u64 (hw i : Nat), .int .i64 1, .int .u64 (hw i : Nat)] W fun e w' => e = .returned (.int .i64 0) ∧ Ck w w' hb u (cir n (i + 1)) m K vr ms := by
  have hc := cir_half n i hi [hw ((i + 1) % n), 9221120237041090560]
  refine (hf_set s.q (hw i) (hw_lt i (by omega)) i (hit_hw (by omega) hc) _ hc 1 (by simp) (hw i) (hw_lt _ (by omega)) (isVal_hw (by omega) hc)).mono ?_
  rintro e w' ⟨rfl, x1, x2⟩
  have := cir_set n i hi
  rw [this] at x1
  exact ⟨rfl, s.heap x1 x2⟩
theorem Ck.reach {n k : Nat} (s : Ck w W hb u (cir n n) m K vr ms) (hk : k < n) (hn : n ≤ 1000) (v : Value) (hv : WordsAt W v [hw k]) :
    Calls Try.prog 13 #[.pointer (some ⟨hb, 0, none⟩), v] W fun e w' => e = .returned (.int .i64 (3 * n : Nat)) ∧ Below W.heap.size W w' := by
  have := hf_reach s.q v [hw k] hv
  rwa [reach_all (cir_all n k (by omega) hk [hw k] (by simp)), cir_sum] at this
theorem Ck.collect {n k : Nat} (s : Ck w W hb u (cir n n) m K vr ms) (hk : k < n) (hn : n ≤ 1000) (v : Value) (hv : WordsAt W v [hw k]) :
    Calls Try.prog 16 #[.pointer (some ⟨hb, 0, none⟩), v] W fun e w' => e = .returned (.tuple #[]) ∧ Ck w w' hb u (cir n n) m K vr ms := by
  refine (hf_collect s.q v [hw k] hv (cir_all n k (by omega) hk [hw k] (by simp))).mono ?_
  rintro e w' ⟨rfl, x1, x2⟩
  exact ⟨rfl, s.heap x1 x2⟩
theorem Ck.full {n k : Nat} (s : Ck w W hb (3 * n + 5) (cir n n) m K vr ms) (hk : k < n) (hn : n ≤ 1000) (t : ByteArray) (ht : t.size = 40) (v : Value) (hv : WordsAt W v [hw k]) :
    Calls Try.prog 12 #[.pointer (some ⟨hb, 0, none⟩), .agg #[.int .i64 4, .bool false, .int .i64 0, .string t, .slice none 0 0, .slice none 0 0, .int .u64 0, .int .i64 0, .int .i64 0], v] W fun e w' => e = .returned (.tuple #[.int .u64 0, .int .i64 40]) ∧ Ck w w' hb (3 * n + 5) (cir n n) m K vr ms := by
  obtain ⟨h1, S, h2, h3, h4⟩ := s.q
  refine (put_text h2 (fun k e => (h3 k e).2) t (by omega) none none 0 0 v _ hv).mono ?_
  intro e w' hP
  have hnd : (Hc.text (strB t)).need = 6 := by rw [text_need, ht]
  have hrm : roomH (cir n n) (3 * n + 5) (.text (strB t)) [hw k] = cir n n := by
    unfold roomH
    rw [if_neg (by rw [cir_sum, hnd]; omega)]
    exact zip_all (cir_all n k (by omega) hk _ (by simp))
  rw [hrm] at hP
  obtain ⟨rfl, hU, g⟩ := hP.not (by rw [cir_sum, hnd]; omega)
  obtain ⟨x1, x2⟩ := Hf.put h1 h3 h4 hU g
  exact ⟨rfl, s.heap x1 x2⟩
theorem Ck.gone {n : Nat} (s : Ck w W hb u (cir n n) m K vr ms) (v : Value) (hv : WordsAt W v []) :
    Calls Try.prog 16 #[.pointer (some ⟨hb, 0, none⟩), v] W fun e w' => e = .returned (.tuple #[]) ∧ Ck w w' hb u (List.replicate n none) m K vr ms := by
  obtain ⟨h1, S, h2, h3, h4⟩ := s.q
  refine (hcollect_c h2 (fun k e => (h3 k e).2) v [] hv).mono ?_
  rintro e w' ⟨rfl, hU, g⟩
  rw [cir_none n [] rfl] at g
  obtain ⟨x1, x2⟩ := Hf.put h1 h3 h4 hU g
  exact ⟨rfl, s.heap x1 x2⟩
theorem Ck.get {n k : Nat} (s : Ck w W hb u (List.replicate n none) m K vr ms) (hk : k ≤ 1000) :
    Calls Try.prog 14 #[.pointer (some ⟨hb, 0, none⟩), .int .u64 (hw k : Nat)] W fun e w' => e = .returned (.tuple #[.agg #[.int .i64 0, .bool false, .int .i64 0, .string ⟨#[]⟩, .slice none 0 0, .slice none 0 0, .int .u64 0, .int .i64 0, .int .i64 0], .int .i64 41]) ∧ Below W.heap.size W w' := by
  obtain ⟨sb, vc, T, l⟩ := s.q.lay
  exact get_none l (hw k) (hw_lt k (by omega)) (hit_none n _)
theorem Ck.last {n : Nat} (s : Ck w W hb u (List.replicate n none) m K vr ms) (hn : 0 < n) (hu : 6 ≤ u) (t : ByteArray) (ht : t.size = 40) (v : Value) (hv : WordsAt W v []) :
    Calls Try.prog 12 #[.pointer (some ⟨hb, 0, none⟩), .agg #[.int .i64 4, .bool false, .int .i64 0, .string t, .slice none 0 0, .slice none 0 0, .int .u64 0, .int .i64 0, .int .i64 0], v] W fun e w' => e = .returned (.tuple #[.int .u64 (hw 0 : Nat), .int .i64 0]) ∧ ∃ H', Ck w w' hb u H' m K vr ms := by
  refine (hf_text s.q t (by omega) (by rw [sum_none]; unfold tneed; omega) v [] hv).mono ?_
  rintro e w' ⟨rfl, x1, x2⟩
  rw [lid_none n hn]
  exact ⟨rfl, _, s.heap x1 x2⟩
theorem reach_nil (H : List (Option Hc)) : reachN H [] = 0 := by
  unfold reachN
  rw [← zipK_sum, zip_none (fun w hw => by cases hw), sum_none]
theorem Ck.reach0 (s : Ck w W hb u H m K vr ms) (v : Value) (hv : WordsAt W v []) :
    Calls Try.prog 13 #[.pointer (some ⟨hb, 0, none⟩), v] W fun e w' => e = .returned (.int .i64 0) ∧ Below W.heap.size W w' := by
  have := hf_reach s.q v [] hv
  rwa [reach_nil] at this
theorem Ck.upd (s : Ck w W hb u H m K vr ms) {D : Nat → Prop} (hU : Upd D W W') (hD : ∀ k, D k → K k ∧ w.heap.size < k ∧ ¬ vr.ownBlock = some k ∧ k ∉ ms) : Ck w W' hb u H m (fun k => K k ∨ (W.heap.size ≤ k ∧ k < W'.heap.size)) vr ms :=
  ⟨s.q.upd' hU (fun k e => ⟨(hD k e).1, Nat.le_of_lt (hD k e).2.1⟩), ⟨owns_on s.r.row (fun k e => hU.block k (s.r.row.lt k e).2 (fun d => (hD k d).2.2.1 e)), fun k e => .inl (s.r.keep k e), s.r.lt, s.r.len⟩, (hU.block _ (lt_get s.bx) (fun d => Nat.lt_irrefl _ (hD _ d).2.1)).trans s.bx, .inl s.bk, fun k hk => ⟨.inl (s.mks k hk).1, (hU.block _ (lt_get (s.mks k hk).2) (fun d => (hD k d).2.2.2 hk)).trans (s.mks k hk).2⟩, s.mge⟩
theorem Ck.mark (s : Ck w W hb u H m K vr ms) {e : Nat} (h1 : K e) (h3 : w.heap.size ≤ e) (h2 : W.heap[e]? = some (.deferred (some []))) : Ck w W hb u H m K vr (e :: ms) := by
  refine ⟨s.q, s.r, s.bx, s.bk, fun k hk => ?_, fun k hk => ?_⟩
  · rcases List.mem_cons.1 hk with rfl | hk
    · exact ⟨h1, h2⟩
    · exact s.mks k hk
  · rcases List.mem_cons.1 hk with rfl | hk
    · exact h3
    · exact s.mge k hk
/-- what Cells asks, as long as but one block of one's own is written -/
theorem Ck.cellsG (s : Ck w W hb u H m K vr ms) {cb Bc : Nat} (hk : K cb) (hB : W.cell? ⟨Bc, 0, none⟩ = some (.pointer (some ⟨hb, 0, none⟩))) (hne : Bc ≠ cb) : ∃ vc, ∀ W', Upd (fun k => k = cb) W W' → (W'.cell? ⟨Bc, 0, none⟩ = some (.pointer (some ⟨hb, 0, none⟩)) ∧ ∃ sb T u h, HLay W' hb sb vc T H u h) := by
  obtain ⟨h1, S, ⟨sb, vc, T, l, s1, s2, s3, s4⟩, h3, h4⟩ := s.q
  have nS := (h4 cb hk).2
  refine ⟨vc, fun W' hU => ⟨?_, sb, T, u, _, l.kept hU.size (hU.block _ l.hlt (fun e => nS (e ▸ s1))) (fun k e => hU.block _ (l.clt k e) (fun e' => nS (e' ▸ s2 k e))) (fun k e => hU.block _ (l.tlt k e) (fun e' => nS (e' ▸ s3 k e)))⟩⟩
  have hl := World.block_lt_of_cell? W _ hB
  rw [World.cell?_of_block (hU.block Bc hl hne)]
  exact hB
end
def pairAct (p1 p2 : Nat) (a : Act) (x y : Value) : Act := { tmps := (a.tmps.setIfInBounds p1 x).setIfInBounds p2 y, defers := [] }
theorem zip_pair (t : Array Value) (p q : Nat) (v y : Value) : Array.foldl (fun (t : Array Value) (x : Tmp × Value) => match x with | (p, v) => t.setIfInBounds p v) t (#[p, q].zip #[v, y]) = (t.setIfInBounds p v).setIfInBounds q y := by simp
theorem cells_law {g : Operand} {p1 p2 : Nat} {body : Code} {Q : Exit → Act → World → Prop} {a : Act} {W0 : World} {Bc hb : Nat} (vc : Value) (H : List (Option Hc)) (hg : a.eval g = .func (.func 33) #[] #[.pointer (some ⟨Bc, 0, none⟩)])
    (I : Nat → (Nat → Prop) → World → Prop) (Ix : Code → World → Prop) (hL : ∀ i D W, I i D W → (W.cell? ⟨Bc, 0, none⟩ = some (.pointer (some ⟨hb, 0, none⟩)) ∧ ∃ sb T u h, HLay W hb sb vc T H u h) ∧ ∀ k, D k → k < W.heap.size ∧ k ≠ W0.heap.size ∧ k ≠ W0.heap.size + 1)
    (hI : ∀ i D W W', I i D W → Upd (fun k => W0.heap.size + 1 ≤ k ∧ ¬ D k) W W' → I i D W')
    (hIx : ∀ c W W', Ix c W → Upd (fun k => W0.heap.size + 1 ≤ k) W W' → Ix c W') (hLx : ∀ c W, Ix c W → W.cell? ⟨Bc, 0, none⟩ = some (.pointer (some ⟨hb, 0, none⟩)) ∧ ∃ sb T u h, HLay W hb sb vc T H u h) (D0 : Nat → Prop) (h0 : I 0 D0 W0)
    (hskip : ∀ i D W, i < H.length → ((H[i]?).getD none).isSome = false → I i D W → I (i + 1) D W)
    (hbody : ∀ (L : Nat) i (hi : i < H.length) D W, ((H[i]?).getD none).isSome = true → L = W0.heap.size + 1 → I i D W → W0.heap.size + 2 ≤ W.heap.size → (∃ r, W.heap[L]? = some (.loop r)) → body.wpIn (Fence.wide.inRound L) 7 Try.prog (rndWayE L W0.heap.size D W (fun W' => ∃ D', I (i + 1) D' W' ∧ ∀ k, D' k → D k ∨ W.heap.size ≤ k) Ix) (pairAct p1 p2 a (.int .u64 (hw i : Nat)) (.int .i64 (kindH H i))) W)
    (hdone : ∀ D W, I H.length D W → W.heap[W0.heap.size]? = some (.deferred (some [])) → Q .normal { a with defers := { target := .collected W0.heap.size, args := #[] } :: a.defers } W)
    (hstop : ∀ c W, Ix c W → W.heap[W0.heap.size]? = some (.deferred (some [])) → c.wp Try.prog Q { a with defers := { target := .collected W0.heap.size, args := #[] } :: a.defers } W) :
    (Code.rangeFunc g #[p1, p2] Code.skip body).wp Try.prog Q a W0 := by
  refine iterE_law (cells_iter Bc hb vc H) eg_cells hg I Ix hL hI hIx hLx D0 h0 hskip (fun i => pairAct p1 p2 a (.int .u64 (hw i : Nat)) (.int .i64 (kindH H i))) (fun i => rfl) ?_ hbody hdone hstop
  intro L i W K hK
  rw [zip_pair]
  gi_wp2
  exact hK
/-- blocks of W0 but cb are as they were -/
theorem upd_more {S1 S2 : Nat → Prop} {a b c : World} (h1 : Upd S1 a b) (h2 : Upd S2 b c) (h : ∀ k, S2 k → a.heap.size ≤ k) : Upd S1 a c :=
  ⟨h2.os.trans h1.os, h2.tape.trans h1.tape, h2.output.trans h1.output, Nat.le_trans h1.size h2.size, fun k hk hn => (h2.block k (Nat.lt_of_lt_of_le hk h1.size) (fun e => by have := h k e; omega)).trans (h1.block k hk hn)⟩
end Go.Proofs.Ytaebnnkhjlidiaa.W
