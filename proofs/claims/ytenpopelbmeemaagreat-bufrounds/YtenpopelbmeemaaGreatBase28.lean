import Derived.Test.YtenpopelbmeemaaGreatBase27
import Derived.Test.YtenpopelbmeemaaGreatBase23
import Derived.Test.YtenpopelbmeemaaGreatBase25
/- slices.Repeat of one word; package buf: blank, New. -/
namespace Go.Proofs.YtenpopelbmeemaaGreat.W
open Go.ChangeShapes Go.WideShapes Go.RowKit Go.Shelf
set_option linter.unusedVariables false
theorem nine_size (w : World) (gb : Nat) (v0 v1 v2 v3 v4 v5 v6 v7 v8 : Value) : (((((((((w.setCell ⟨gb, 0, none⟩ v0).setCell ⟨gb, 1, none⟩ v1).setCell ⟨gb, 2, none⟩ v2).setCell ⟨gb, 3, none⟩ v3).setCell ⟨gb, 4, none⟩ v4).setCell ⟨gb, 5, none⟩ v5).setCell ⟨gb, 6, none⟩ v6).setCell ⟨gb, 7, none⟩ v7).setCell ⟨gb, 8, none⟩ v8).heap.size = w.heap.size := by
  simp [World.setCell]
/-- a row of n words of which m are x, the others nought -/
def RepRow (w : World) (g m x n : Nat) : Prop := w.heap[g]? = some (.cells (List.replicate m (Value.int .u64 (x : Nat)) ++ List.replicate (n - m) (Value.int .u64 (0 : Nat))).toArray 22 (0, 0))
theorem make_rep (w : World) (x n : Nat) (hn : n ≤ 1048576) : ∃ w', (Instr.makeSlice 27 (.int .i64 (n : Int)) (.int .i64 (n : Int))).run Tryz.prog w = .ok (.slice (some ⟨w.heap.size, 0, none⟩) n n) w' ∧ RepRow w' w.heap.size 0 x n ∧ Below w.heap.size w w' ∧ w.heap.size < w'.heap.size := by
  obtain ⟨i0, hi, hz0, hz1, hz2⟩ := info_parts infoW
  obtain ⟨w', h1, h2, h3⟩ := run_makeSlice_full (P := Tryz.prog) w w.heap.size 27 22 i0 (.int .u64 0) 1 underW hi hz0 hz1 .i64 .i64 n (by omega) (by rw [hz2]; omega) (by simp [maxLen]; omega) (Nat.le_refl _)
  have e : (madeCells (Value.int .u64 0).cells (n * 1)).toList = List.replicate n (Value.int .u64 (0 : Nat)) := by
    rw [Nat.mul_one]; exact made_one _ n
  rw [e] at h2
  have hlt := (h2.lt _ rfl).2
  have hU : Upd (fun _ => False) w w' := (Upd.refl (fun _ => False) w).grown h3 (fun k e => by cases e)
  refine ⟨w', h1, ?_, hU.below (Nat.le_refl _) (fun k e => e.elim), hlt⟩
  rcases h2.2 with ⟨hv, _⟩ | ⟨g, cap, cur, hv, _, hg, _, _, hsz, htk⟩
  · cases hv
  · cases hv
    unfold RepRow
    rw [hg]
    have : cur.toList = List.replicate n (Value.int .u64 (0 : Nat)) := by
      rw [← htk, List.take_of_length_le (by rw [Array.length_toList, hsz]; exact Nat.le_refl _)]
    rw [List.replicate_zero, List.nil_append, Nat.sub_zero, ← this]
theorem rep_splice (m n c : Nat) (a b : Value) (hm : m ≤ n) (hc : c ≤ n - m) : ((List.replicate m a ++ List.replicate (n - m) b).toArray.toList.take m ++ List.replicate c a ++ (List.replicate m a ++ List.replicate (n - m) b).toArray.toList.drop (m + c)) = List.replicate (m + c) a ++ List.replicate (n - (m + c)) b := by
  rw [List.toList_toArray]
  have e1 : (List.replicate m a ++ List.replicate (n - m) b).take m = List.replicate m a := by
    rw [List.take_append_of_le_length (by simp), List.take_of_length_le (by simp)]
  have e2 : (List.replicate m a ++ List.replicate (n - m) b).drop (m + c) = List.replicate (n - (m + c)) b := by
    rw [List.drop_append, List.drop_of_length_le (by simp), List.nil_append, List.length_replicate, Nat.add_sub_cancel_left, List.drop_replicate]
    congr 1
    omega
  rw [e1, e2, List.replicate_append_replicate]
theorem copy_rep (w : World) (g m n x : Nat) (hm : m ≤ n) (hr : RepRow w g m x n) (ty : TypeId) (a : Addr) (sl sc dc c : Nat) (hcc : c = min sl (n - m)) (hsrc : ∀ j, j < c → w.cell? (a.add j) = some (.int .u64 (x : Nat))) :
    ∃ w', (Builtin.copy_ #[27, 27] ty #[.slice (some ⟨g, m, none⟩) (n - m) dc, .slice (some a) sl sc]).run Tryz.prog w = .ok (.int .i64 (c : Int)) w' ∧ RepRow w' g (m + c) x n ∧ Upd (fun k => k = g) w w' := by
  obtain ⟨i0, hi, hz0, hz1, hz2⟩ := info_parts infoW
  have hc1 : c ≤ n - m := by omega
  have hrun := run_copy_row (P := Tryz.prog) w 27 27 ty 22 g m (n - m) dc a sl sc _ 22 (List.replicate c (Value.int .u64 (x : Nat))) underW (by rw [hi]; simp [hz1]) hr (by rw [List.length_replicate]; exact hcc) (by
      intro j v hj
      rw [List.getElem?_replicate] at hj
      split at hj
      · cases hj; exact hsrc j (by assumption)
      · cases hj) (by simp; omega) (by intro v hv; rw [(List.mem_replicate.1 hv).2]; rfl)
  rw [List.length_replicate] at hrun
  refine ⟨_, hrun, ?_, ⟨rfl, rfl, rfl, by rw [size_setRow]; exact Nat.le_refl _, fun k hk hn => setRow_other w g k _ hn⟩⟩
  unfold RepRow
  rw [setRow_heap w g _ _ _ _ hr]
  rw [rep_splice m n c _ _ hm hc1]
set_option maxRecDepth 100000 in
set_option maxHeartbeats 1000000 in
theorem repeat_c (W : World) (gb cap x n : Nat) (hn : n ≤ 1048576) (hc : W.cell? ⟨gb, 0, none⟩ = some (.int .u64 (x : Nat))) :
    Calls Tryz.prog 51 #[.slice (some ⟨gb, 0, none⟩) 1 cap, .int .i64 n] W fun e w' => e = .returned (.slice (some ⟨W.heap.size, 0, none⟩) n n) ∧ Below W.heap.size W w' ∧ RepRow w' W.heap.size n x n := by
  have h1 : ¬ (n : Int) < 0 := by omega
  have h2 : IntKind.u64.wrap (n : Int) = n := by rw [IntKind.wrap_u64]; omega
  have h3 : ¬ (n : Int) > 9223372036854775807 := by omega
  have h4 : IntKind.i64.wrap (n : Int) = n := by rw [IntKind.wrap_i64]; omega
  have cm := mul_one_c n hn W
  obtain ⟨W1, hmk, hr, hB1, hl1⟩ := make_rep W x n hn
  have hgb : gb < W.heap.size := block_lt_of_cell hc
  have hc1 : W1.cell? ⟨gb, 0, none⟩ = some (.int .u64 (x : Nat)) := below_cell hB1 hc
  obtain ⟨W2, hcp, hr2, hU2⟩ := copy_rep W1 W.heap.size 0 n x (Nat.zero_le _) hr 3 ⟨gb, 0, none⟩ 1 cap n (min 1 (n - 0)) rfl (by
    intro j hj
    have : j = 0 := by omega
    subst this
    exact hc1)
  have hB2 : Below W.heap.size W W2 := hB1.trans (hU2.below hB1.size (fun k e => by rw [e]; exact Nat.le_refl _))
  rw [Nat.zero_add] at hr2
  rw [Nat.sub_zero] at hcp
  generalize hm1 : min 1 (n - 0) = m1 at *
  have HM : Hid (m1 = 1 ∨ (m1 = 0 ∧ n = 0)) := hid (by omega)
  have HM2 : Hid (m1 ≤ n) := hid (by have := HM.out; omega)
  generalize hG : W.heap.size = G at *
  clear hm1 hr hU2 hc1 hc hB1
  go_enter Tryz.func51, Tryz.ntmps51
  go_upto_region 7 with (go_at_call 88; (with_reducible refine cm.mono ?_); rintro e w' ⟨rfl, hw⟩; (have hw' := hw.symm); subst hw'; clear hw)
  go_wp2_with (at_builtin; refine Lib.wpList_copy_run _ rfl (.tmp 31) (.tmp 32) 27 27 rfl _ _ (by simp [Act.eval]) (by simp [Act.eval]) hcp ?_)
  clear hcp hmk cm
  go_loopw [8] (fun ii wr => ∃ m : Nat, m ≤ n ∧ (m = 0 → n = 0) ∧ ii = .int .i64 m ∧ Below G W wr ∧ RepRow wr G m x n) (fun ii _ => n - (intOf ii).toNat)
  case atStart => exact ⟨m1, HM2.out, fun e => by have := HM.out; omega, rfl, hB2, hr2⟩
  case round =>
    obtain ⟨m, hm, hm0, rfl, hB, hr⟩ := hrel
    clear hr2 hB2
    by_cases hlt : m < n
    · have j1 : (m : Int) < n := by omega
      go_upto_region 9 with fail
      have hmp : 0 < m := by omega
      obtain ⟨c, hcc⟩ : ∃ c, c = min m (n - m) := ⟨_, rfl⟩
      have hcl : c ≤ n - m := by omega
      have hcp : 0 < c := by omega
      obtain ⟨w', hcp', hr', hU'⟩ := copy_rep wr.drew G m n x hm hr 3 ⟨G, 0, none⟩ m n (n - m) c hcc (by
        intro j hj
        have hjm : j < m := by omega
        have e1 : ((⟨G, 0, none⟩ : Addr).add j) = ⟨G, j, none⟩ := by unfold Addr.add; split <;> simp_all
        rw [e1, cell_of_row wr.drew G j _ _ (0, 0) hr]
        rw [List.getElem?_toArray, List.getElem?_append_left (by simpa using hjm), List.getElem?_replicate, if_pos hjm])
      have hUd : Upd (fun k => k = G) wr w' := ⟨hU'.os, hU'.tape, hU'.output, hU'.size, hU'.block⟩
      have hB' : Below G W w' := hB.trans (hUd.below (by have := hB.size; omega) (fun k e => by omega))
      have g1 : (0 : Int) ≤ m := by omega
      have g2 : (m : Int) ≤ n := by omega
      have g3 : ¬ n = m := by omega
      have g4 : IntKind.i64.wrap ((m : Int) + (c : Int)) = ((m + c : Nat) : Int) := by rw [IntKind.wrap_i64]; omega
      have HR := hid hr'
      have HB := hid hB'
      have HC := hid (And.intro hcl hcp)
      clear hU' hUd hr hr' hB hB' hcc hcl hcp hm0 HM HM2
      refine wp_region_held_drew (S := fun _ => True) (by kernel_rfl) trivial ?_
      intro hS
      (refine wpAnyH_take (i := 0) (v := ?_) rfl (by kernel_rfl) (by kernel_rfl) (by kernel_rfl) (fun _ _ _ h => h) (Or.inl ⟨by rfl, ?_⟩) trivial ?_); rotate_left; (focus (intro w' hSw; go_simp; (try with_reducible rfl))); (try simp only [Act.put, List.getElem_toArray, List.getElem_cons_zero, List.setIfInBounds_toArray, List.set_cons_zero, List.set_cons_succ])
      (refine wpAnyH_take (i := 1) (v := ?_) rfl (by kernel_rfl) (by kernel_rfl) (by kernel_rfl) (fun _ _ _ h => h) (Or.inl ⟨by rfl, ?_⟩) trivial ?_); rotate_left; (focus (intro w' hSw; go_simp; (try with_reducible rfl))); (try simp only [Act.put, List.getElem_toArray, List.getElem_cons_zero, List.getElem_cons_succ, List.setIfInBounds_toArray, List.set_cons_zero, List.set_cons_succ])
      (refine wpAnyH_take (i := 2) (v := ?_) rfl (by kernel_rfl) (by kernel_rfl) (by kernel_rfl) (fun _ _ _ h => h) (Or.inl ⟨by rfl, ?_⟩) trivial ?_); rotate_left; (focus (intro w' hSw; go_simp; (try with_reducible rfl))); (try simp only [Act.put, List.getElem_toArray, List.getElem_cons_zero, List.getElem_cons_succ, List.setIfInBounds_toArray, List.set_cons_zero, List.set_cons_succ])
      (refine wpAnyH_take (i := 4) (v := ?_) rfl (by kernel_rfl) (by kernel_rfl) (by kernel_rfl) (fun _ _ _ h => h) (Or.inl ⟨by rfl, ?_⟩) trivial ?_); rotate_left; (focus (intro w' hSw; go_simp; (try with_reducible rfl))); (try simp only [Act.put, List.getElem_toArray, List.getElem_cons_zero, List.getElem_cons_succ, List.setIfInBounds_toArray, List.set_cons_zero, List.set_cons_succ])
      (refine wpAnyH_take (i := 5) (v := ?_) rfl (by kernel_rfl) (by kernel_rfl) (by kernel_rfl) (fun _ _ _ h => h) (Or.inl ⟨by rfl, ?_⟩) trivial ?_); rotate_left; (focus (intro w' hSw; go_simp; (try with_reducible rfl))); (try simp only [Act.put, List.getElem_toArray, List.getElem_cons_zero, List.getElem_cons_succ, List.setIfInBounds_toArray, List.set_cons_zero, List.set_cons_succ])
      (refine wpAnyH_take (i := 3) (v := ?_) rfl (by kernel_rfl) (by kernel_rfl) (by kernel_rfl) (fun _ _ _ h => h) (Or.inl ⟨by rfl, ?_⟩) trivial ?_); rotate_left; (focus (intro w' hSw; go_simp; (try with_reducible rfl))); (try simp only [Act.put, List.getElem_toArray, List.getElem_cons_zero, List.getElem_cons_succ, List.setIfInBounds_toArray, List.set_cons_zero, List.set_cons_succ])
      (refine wpAnyH_take (i := 6) (v := ?_) rfl (by kernel_rfl) (by kernel_rfl) (by kernel_rfl) (fun _ _ _ h => h) (Or.inl ⟨by rfl, ?_⟩) trivial ?_); rotate_left; (focus (intro w' hSw; go_simp; (try with_reducible rfl))); (try simp only [Act.put, List.getElem_toArray, List.getElem_cons_zero, List.getElem_cons_succ, List.setIfInBounds_toArray, List.set_cons_zero, List.set_cons_succ])
      refine wpAnyH_ready (rs := [7]) (by kernel_rfl) (by simp) ?_
      refine AllReadyH.cons rfl (fun K hK => ?_) AllReadyH.nil
      rw [if_pos (by rfl)]
      refine Lib.wp_copy_run _ (.tmp 41) (.tmp 44) 27 27 rfl (.slice (some ⟨G, m, none⟩) (n - m) (n - m)) (.slice (some ⟨G, 0, none⟩) m n) (by rfl) (by rfl) hcp' ?_
      refine hK.out _ _ trivial (fun _ => ?_)
      clear hK K hcp'
      (try simp only [Act.put, List.getElem_toArray, List.getElem_cons_zero, List.getElem_cons_succ, List.setIfInBounds_toArray, List.set_cons_zero, List.set_cons_succ])
      (refine wpAnyH_take (i := 8) (v := ?_) rfl (by kernel_rfl) (by kernel_rfl) (by kernel_rfl) (fun _ _ _ h => h) (Or.inl ⟨by rfl, ?_⟩) trivial ?_); rotate_left; (focus (intro w' hSw; go_simp; (try with_reducible rfl))); (try simp only [Act.put, List.getElem_toArray, List.getElem_cons_zero, List.getElem_cons_succ, List.setIfInBounds_toArray, List.set_cons_zero, List.set_cons_succ])
      (refine wpAnyH_take (i := 9) (v := ?_) rfl (by kernel_rfl) (by kernel_rfl) (by kernel_rfl) (fun _ _ _ h => h) (Or.inl ⟨by rfl, ?_⟩) trivial ?_); rotate_left; (focus (intro w' hSw; go_simp; (try with_reducible rfl))); (try simp only [Act.put, List.getElem_toArray, List.getElem_cons_zero, List.getElem_cons_succ, List.setIfInBounds_toArray, List.set_cons_zero, List.set_cons_succ])
      refine wpAnyH_done (by kernel_rfl) ?_ _
      go_wp2
      go_roundw
      case rel => exact ⟨m + c, by have := HC.out; omega, fun e => by omega, by go_num, HB.out, HR.out⟩
      case measure => show n - ((m + c : Nat) : Int).toNat < n - (m : Int).toNat; have := HC.out; omega
    · have j1 : ¬ (m : Int) < n := by omega
      have e : m = n := by omega
      subst e
      go_wp2
      go_ret
      exact ⟨rfl, hB, hr⟩
/-- nil, as a word -/
def nilN : Nat := 18444492273895866368
/-- a new buffer of noughts, or row of nils -/
def blankH (k : Int) (n : Nat) : Hc := if k = 9 then .row (List.replicate n nilN) else .buf k (List.replicate (n * elB k) 0)
theorem blank_need {k : Int} (hk : thK k) (n : Nat) : (blankH k n).need = 1 + (n * elT k + 7) / 8 := by
  unfold blankH elT
  by_cases h : k = 9
  · rw [if_pos h, if_pos h, row_need, List.length_replicate]; omega
  · rw [if_neg h, if_neg h, bufn_need, List.length_replicate]
theorem blank_row (W : World) (n : Nat) (hn : n ≤ 1048576) : Calls Tryz.prog 24 #[.int .i64 9, .int .i64 n] W fun e w' => ∃ g, e = .returned (.agg #[.int .i64 9, .bool false, .int .i64 0, .string ⟨#[]⟩, .slice none 0 0, .slice (some ⟨g, 0, none⟩) n n, .int .u64 0, .int .i64 0, .int .i64 0]) ∧ Below W.heap.size W w' ∧ WordsAt w' (.slice (some ⟨g, 0, none⟩) n n) (List.replicate n nilN) ∧ W.heap.size ≤ g ∧ g < w'.heap.size := by
  have hB1 : Below W.heap.size W (W.alloc (.cells #[.int .i64 0, .bool false, .int .i64 0, .string ⟨#[]⟩, .slice none 0 0, .slice none 0 0, .int .u64 0, .int .i64 0, .int .i64 0] 43)) := (Below.refl _ W).alloc (Nat.le_refl _) _
  have hs1 : (W.alloc (.cells #[.int .i64 0, .bool false, .int .i64 0, .string ⟨#[]⟩, .slice none 0 0, .slice none 0 0, .int .u64 0, .int .i64 0, .int .i64 0] 43)).heap.size = W.heap.size + 1 := World.size_alloc ..
  have f1 := World.alloc_heap_new W (.cells #[.int .i64 0, .bool false, .int .i64 0, .string ⟨#[]⟩, .slice none 0 0, .slice none 0 0, .int .u64 0, .int .i64 0, .int .i64 0] 43)
  have cn := fun w => fromNil_c w
  generalize hW1 : W.alloc (.cells #[.int .i64 0, .bool false, .int .i64 0, .string ⟨#[]⟩, .slice none 0 0, .slice none 0 0, .int .u64 0, .int .i64 0, .int .i64 0] 43) = W1 at *
  have hB2 : Below W1.heap.size W1 (W1.alloc (.cells #[.int .u64 18444492273895866368] 22)) := (Below.refl _ W1).alloc (Nat.le_refl _) _
  have hs2 : (W1.alloc (.cells #[.int .u64 18444492273895866368] 22)).heap.size = W.heap.size + 2 := by rw [World.size_alloc, hs1]
  have e2 : (W1.alloc (.cells #[.int .u64 18444492273895866368] 22)).cell? ⟨W1.heap.size, 0, none⟩ = some (.int .u64 (nilN : Nat)) := by rw [World.cell?_alloc_new]; rfl
  have cr := repeat_c (W1.alloc (.cells #[.int .u64 18444492273895866368] 22)) W1.heap.size 1 nilN n hn e2
  have hs3 : (W1.alloc (.cells #[.int .u64 18444492273895866368] 22)).heap.size = W1.heap.size + 1 := World.size_alloc ..
  rw [hs3] at cr
  have kp : Hid (∀ w4, Below (W1.heap.size + 1) (W1.alloc (.cells #[.int .u64 18444492273895866368] 22)) w4 → w4.heap[W.heap.size]? = some (.cells #[.int .i64 0, .bool false, .int .i64 0, .string ⟨#[]⟩, .slice none 0 0, .slice none 0 0, .int .u64 0, .int .i64 0, .int .i64 0] 43) ∧ Below W.heap.size W w4) := by
    show ∀ w4, _
    intro w4 hB4
    have := hB2.size
    exact ⟨(hB4.block _ (by omega)).trans ((hB2.block _ (by omega)).trans f1), (hB1.trans (hB2.mono hB1.size)).trans (hB4.mono (by omega))⟩
  have HS := hid hs1
  clear hB1 hs1 f1 hB2 e2 hs2 hs3
  go_enter Tryz.func24, Tryz.ntmps24
  go_wp2_with (first | (go_at_call 26; (with_reducible refine (cn _).mono ?_); rintro e w' ⟨rfl, hw⟩; (have hw' := hw.symm); subst hw'; clear hw) | (go_at_call 51; (with_reducible refine cr.mono ?_); rintro e w4 ⟨rfl, hB4, hr4⟩; clear cr; (obtain ⟨fR, hBf⟩ := kp.out w4 hB4); (have eR := fun j => cell_of_row w4 W.heap.size j _ _ _ fR); (have zR := (fun j => by simp [World.frozen?, fR] : ∀ j, w4.frozen? ⟨W.heap.size, j, none⟩ = false)); (have FR := hid fR); clear fR))
  refine bodyPost_ret (cell_ret rfl _ _ W.heap.size _ _ _ _ _ _ _ _ _ (0, 0) rfl (nine_set FR.out _ _ _ _ _ _ _ _ _)) rfl ?_
  have hz := HS.out
  have hlt : W1.heap.size + 1 < w4.heap.size := lt_get hr4
  refine ⟨_, rfl, nine_below hBf (Nat.le_refl _) _ _ _ _ _ _ _ _ _, ⟨_, n, by rw [List.length_replicate], by rw [List.length_replicate]; omega, fun x hx => by rw [(List.mem_replicate.1 hx).2]; decide, fun i hi => ⟨_, rfl, ?_⟩⟩, by omega, ?_⟩
  · have e1 : ∀ g : Nat, ((⟨g, 0, none⟩ : Addr).add i) = ⟨g, i, none⟩ := by intro g; unfold Addr.add; split <;> simp_all
    rw [List.length_replicate] at hi
    rw [e1, World.cell?_of_block (nine_far _ _ _ _ _ _ _ _ _ _ _ _ (by show W1.heap.size + 1 ≠ W.heap.size; omega)), cell_of_row w4 _ i _ _ (0, 0) hr4, List.getElem?_toArray, List.getElem?_append_left (by simpa using hi), List.getElem?_replicate, if_pos hi, List.getElem_replicate]
  · refine Nat.lt_of_lt_of_le hlt ?_
    rw [nine_size]
    exact Nat.le_refl _
set_option maxRecDepth 100000 in
theorem blank_buf (W : World) (k : Int) (hk : elB k > 0) (n : Nat) (hn : n * elB k ≤ 8388608) : Calls Tryz.prog 24 #[.int .i64 k, .int .i64 n] W fun e w' => ∃ g, e = .returned (.agg #[.int .i64 k, .bool false, .int .i64 0, .string ⟨#[]⟩, .slice (some ⟨g, 0, none⟩) (n * elB k) (n * elB k), .slice none 0 0, .int .u64 0, .int .i64 0, .int .i64 0]) ∧ Below W.heap.size W w' ∧ ByteRow w' (some ⟨g, 0, none⟩) (List.replicate (n * elB k) 0) ∧ W.heap.size ≤ g ∧ g < w'.heap.size := by
  have h9 : ¬ k = 9 := by rintro rfl; simp [elB] at hk
  have hB1 : Below W.heap.size W (W.alloc (.cells #[.int .i64 0, .bool false, .int .i64 0, .string ⟨#[]⟩, .slice none 0 0, .slice none 0 0, .int .u64 0, .int .i64 0, .int .i64 0] 43)) := (Below.refl _ W).alloc (Nat.le_refl _) _
  have hs1 : (W.alloc (.cells #[.int .i64 0, .bool false, .int .i64 0, .string ⟨#[]⟩, .slice none 0 0, .slice none 0 0, .int .u64 0, .int .i64 0, .int .i64 0] 43)).heap.size = W.heap.size + 1 := World.size_alloc ..
  have f1 := World.alloc_heap_new W (.cells #[.int .i64 0, .bool false, .int .i64 0, .string ⟨#[]⟩, .slice none 0 0, .slice none 0 0, .int .u64 0, .int .i64 0, .int .i64 0] 43)
  have cw := fun w => width_c k w
  generalize hW1 : W.alloc (.cells #[.int .i64 0, .bool false, .int .i64 0, .string ⟨#[]⟩, .slice none 0 0, .slice none 0 0, .int .u64 0, .int .i64 0, .int .i64 0] 43) = W1 at *
  obtain ⟨w4, hmk, hrow, hB4, hl4⟩ := made_bytes W1 (n * elB k) hn
  have hmul : IntKind.i64.wrap ((n : Int) * ((elB k : Nat) : Int)) = ((n * elB k : Nat) : Int) := by
    have h2 : ((n * elB k : Nat) : Int) = (n : Int) * ((elB k : Nat) : Int) := by simp
    rw [IntKind.wrap_i64, ← h2]; omega
  have hmul' : wrap64 ((n : Int) * ((elB k : Nat) : Int)) = ((n * elB k : Nat) : Int) := by
    have h2 : ((n * elB k : Nat) : Int) = (n : Int) * ((elB k : Nat) : Int) := by simp
    unfold wrap64; rw [← h2]; omega
  have fR : w4.heap[W.heap.size]? = some (.cells #[.int .i64 0, .bool false, .int .i64 0, .string ⟨#[]⟩, .slice none 0 0, .slice none 0 0, .int .u64 0, .int .i64 0, .int .i64 0] 43) := (hB4.block _ (by omega)).trans f1
  have hBf : Below W.heap.size W w4 := hB1.trans (hB4.mono hB1.size)
  have eR := fun j => cell_of_row w4 W.heap.size j _ _ _ fR
  have zR : ∀ j, w4.frozen? ⟨W.heap.size, j, none⟩ = false := fun j => by simp [World.frozen?, fR]
  have FR := hid fR
  have HB := hid hBf
  have HW := hid hrow
  have HL := hid (And.intro hs1 hl4)
  clear fR hBf hrow hl4 hs1 f1 hB1 hB4 hn hk
  generalize hN : n * elB k = N at *
  generalize ((elB k : Nat) : Int) = E at *
  go_enter Tryz.func24, Tryz.ntmps24
  go_wp2_with (go_at_call 18; (with_reducible refine (cw _).mono ?_); rintro e w' ⟨rfl, hw⟩; (have hw' := hw.symm); subst hw'; clear hw)
  refine bodyPost_ret (cell_ret rfl _ _ W.heap.size _ _ _ _ _ _ _ _ _ (0, 0) rfl (nine_set FR.out _ _ _ _ _ _ _ _ _)) rfl ?_
  have hz := HL.out
  refine ⟨_, rfl, nine_below HB.out (Nat.le_refl _) _ _ _ _ _ _ _ _ _, ?_, by omega, ?_⟩
  · rcases HW.out with h | ⟨g, p, e, h⟩
    · exact .inl h
    · cases e
      exact .inr ⟨_, _, rfl, fun i hi => by rw [World.cell?_of_block (nine_far _ _ _ _ _ _ _ _ _ _ _ _ (by show W1.heap.size ≠ W.heap.size; omega))]; exact h i hi⟩
  · refine Nat.lt_of_lt_of_le hz.2 ?_
    rw [nine_size]
    exact Nat.le_refl _
end Go.Proofs.YtenpopelbmeemaaGreat.W
/- Package buf: find, count, Len. -/
namespace Go.Proofs.YtenpopelbmeemaaGreat.W
open Go.ChangeShapes Go.WideShapes Go.RowKit Go.Shelf
set_option linter.unusedVariables false
/-- a buffer, a view or a row -/
def isTh : Hc → Prop
  | .buf _ _ => True
  | .view _ _ _ _ => True
  | .row _ => True
  | _ => False
/-- how many elements a thing has -/
def Hc.cnt : Hc → Nat
  | .buf k b => b.length / elB k
  | .view _ _ _ n => n
  | .row ws => ws.length
  | _ => 0
theorem th_kind {c : Hc} (h : isTh c) (hok : c.ok) : thK c.cl.kind := by
  cases c with
  | num i => exact h.elim
  | text b => exact h.elim
  | buf k b => exact .inr hok.1
  | view k b p n => exact .inr hok.1
  | row ws => exact .inl rfl
theorem thingT : (Tryz.prog.underlying 69).map (fun d => match d with | .struct _ | .array _ _ => true | _ => false) = some true := by kernel_rfl
theorem thingSz : (Tryz.prog.info? 69).map (·.size) = some 10 := by kernel_rfl
/-- a thing and a code are answered out of the thing's box -/
theorem thing_ret2 {fn : Func} {p q : Tmp} (h : fn.results = #[.cell p 69, .tmp q]) (tmps : Array Value) (w : World) (gb : Nat) (v0 v1 v2 v3 v4 v5 v6 v7 v8 v9 : Value) (fr : Nat × Nat) (hp : tmps.getD p undef = .pointer (some ⟨gb, 0, none⟩)) (hg : w.heap[gb]? = some (.cells #[v0, v1, v2, v3, v4, v5, v6, v7, v8, v9] 69 fr)) : (results fn tmps).run Tryz.prog w = .ok (.tuple #[.agg #[v0, v1, v2, v3, v4, v5, v6, v7, v8, v9], tmps.getD q undef]) w := by
  have ht := thingT
  rw [results_cell_tmp h, hp]
  cases hu : Tryz.prog.underlying 69 with
  | none => rw [hu] at ht; cases ht
  | some d =>
    rw [hu] at ht
    simp only [Option.map_some, Option.some.injEq] at ht
    have hl := run_loadVar_row (P := Tryz.prog) w gb 69 69 #[v0, v1, v2, v3, v4, v5, v6, v7, v8, v9] fr d hg hu (by cases d <;> first | rfl | exact ht) (by rw [thingSz]; rfl)
    simp [asAddr, hl]
/-- ten cells are written -/
theorem ten_set {w : World} {gb : Nat} {z0 z1 z2 z3 z4 z5 z6 z7 z8 z9 : Value} {t : TypeId} (hg : w.heap[gb]? = some (.cells #[z0, z1, z2, z3, z4, z5, z6, z7, z8, z9] t (0, 0))) (v0 v1 v2 v3 v4 v5 v6 v7 v8 v9 : Value) : ((((((((((w.setCell ⟨gb, 0, none⟩ v0).setCell ⟨gb, 1, none⟩ v1).setCell ⟨gb, 2, none⟩ v2).setCell ⟨gb, 3, none⟩ v3).setCell ⟨gb, 4, none⟩ v4).setCell ⟨gb, 5, none⟩ v5).setCell ⟨gb, 6, none⟩ v6).setCell ⟨gb, 7, none⟩ v7).setCell ⟨gb, 8, none⟩ v8).setCell ⟨gb, 9, none⟩ v9).heap[gb]? = some (.cells #[v0, v1, v2, v3, v4, v5, v6, v7, v8, v9] t (0, 0)) := by
  have h0 : w.heap[gb]? = some (.cells [z0, z1, z2, z3, z4, z5, z6, z7, z8, z9].toArray t (0, 0)) := hg
  have h1 := heap_set h0 0 v0
  have h2 := heap_set h1 1 v1
  have h3 := heap_set h2 2 v2
  have h4 := heap_set h3 3 v3
  have h5 := heap_set h4 4 v4
  have h6 := heap_set h5 5 v5
  have h7 := heap_set h6 6 v6
  have h8 := heap_set h7 7 v7
  have h9 := heap_set h8 8 v8
  exact heap_set h9 9 v9
theorem ten_below {w a : World} {gb B : Nat} (h : Below B a w) (hB : B ≤ gb) (v0 v1 v2 v3 v4 v5 v6 v7 v8 v9 : Value) : Below B a ((((((((((w.setCell ⟨gb, 0, none⟩ v0).setCell ⟨gb, 1, none⟩ v1).setCell ⟨gb, 2, none⟩ v2).setCell ⟨gb, 3, none⟩ v3).setCell ⟨gb, 4, none⟩ v4).setCell ⟨gb, 5, none⟩ v5).setCell ⟨gb, 6, none⟩ v6).setCell ⟨gb, 7, none⟩ v7).setCell ⟨gb, 8, none⟩ v8).setCell ⟨gb, 9, none⟩ v9) :=
  (nine_below h hB v0 v1 v2 v3 v4 v5 v6 v7 v8).setCell (p := ⟨gb, 9, none⟩) hB v9
section
variable {W W' : World} {hb sb : Nat} {vc : Value} {T : Nat → Prop} {H : List (Option Hc)} {u h : Nat}
/-- what find and element answer of a thing -/
def ThP (W : World) (kd : Int) (vw : Bool) (ba fr ln nb : Int) (e : Ending) (w' : World) : Prop := e = .returned (.tuple #[.agg #[.int .i64 kd, .bool vw, .int .i64 0, .string ⟨#[]⟩, .slice none 0 0, .slice none 0 0, .int .u64 ba, .int .i64 fr, .int .i64 ln, .int .i64 nb], .int .i64 0]) ∧ Below W.heap.size W w'
def ThPost (W : World) (c : Hc) (e : Ending) (w' : World) : Prop := ThP W c.cl.kind c.cl.view c.cl.base c.cl.frm c.cl.len (c.bytes.length : Nat) e w'
set_option maxRecDepth 100000 in
set_option maxHeartbeats 1000000 in
theorem thing_core (w : Int) (kd : Int) (hk : thK kd) (vw : Bool) (ba fr ln nb : Int) (hget : ∀ w1, Below W.heap.size W w1 → Calls Tryz.prog 56 #[.pointer (some ⟨hb, 0, none⟩), .int .u64 w] w1 fun e w' => e = .returned (.tuple #[.agg #[.int .i64 kd, .bool vw, .int .i64 0, .string ⟨#[]⟩, .slice none 0 0, .slice none 0 0, .int .u64 ba, .int .i64 fr, .int .i64 ln], .int .i64 nb, .int .i64 0]) ∧ Below w1.heap.size w1 w') :
    Calls Tryz.prog 37 #[.pointer (some ⟨hb, 0, none⟩), .int .u64 w] W (ThP W kd vw ba fr ln nb) := by
  have hB1 : Below W.heap.size W (W.alloc (.cells #[.int .i64 0, .bool false, .int .i64 0, .string ⟨#[]⟩, .slice none 0 0, .slice none 0 0, .int .u64 0, .int .i64 0, .int .i64 0, .int .i64 0] 69)) := (Below.refl _ W).alloc (Nat.le_refl _) _
  have f1 := World.alloc_heap_new W (.cells #[.int .i64 0, .bool false, .int .i64 0, .string ⟨#[]⟩, .slice none 0 0, .slice none 0 0, .int .u64 0, .int .i64 0, .int .i64 0, .int .i64 0] 69)
  have cg := hget _ hB1
  have ci := fun w => isThing_c kd hk w
  clear hget hk
  generalize hW1 : W.alloc (.cells #[.int .i64 0, .bool false, .int .i64 0, .string ⟨#[]⟩, .slice none 0 0, .slice none 0 0, .int .u64 0, .int .i64 0, .int .i64 0, .int .i64 0] 69) = W1 at *
  go_enter Tryz.func37, Tryz.ntmps37
  go_upto_region 1 with fail
  clear hW1
  go_upto_region 2 with (go_at_call 56; (with_reducible refine cg.mono ?_); rintro e w2 ⟨rfl, hB2⟩; clear cg)
  have hB3 : Below w2.heap.size w2 (w2.alloc (.cells #[.int .i64 kd, .bool vw, .int .i64 0, .string ⟨#[]⟩, .slice none 0 0, .slice none 0 0, .int .u64 ba, .int .i64 fr, .int .i64 ln] 43)) := (Below.refl _ w2).alloc (Nat.le_refl _) _
  have e3 := World.cell?_alloc_new w2 #[.int .i64 kd, .bool vw, .int .i64 0, .string ⟨#[]⟩, .slice none 0 0, .slice none 0 0, .int .u64 ba, .int .i64 fr, .int .i64 ln] 43
  have z2 := hB2.size
  have f3 : (w2.alloc (.cells #[.int .i64 kd, .bool vw, .int .i64 0, .string ⟨#[]⟩, .slice none 0 0, .slice none 0 0, .int .u64 ba, .int .i64 fr, .int .i64 ln] 43)).heap[W.heap.size]? = some (.cells #[.int .i64 0, .bool false, .int .i64 0, .string ⟨#[]⟩, .slice none 0 0, .slice none 0 0, .int .u64 0, .int .i64 0, .int .i64 0, .int .i64 0] 69) := (hB3.block W.heap.size (Nat.lt_of_lt_of_le (lt_get f1) z2)).trans ((hB2.block _ (lt_get f1)).trans f1)
  have hbel : Below W.heap.size W (w2.alloc (.cells #[.int .i64 kd, .bool vw, .int .i64 0, .string ⟨#[]⟩, .slice none 0 0, .slice none 0 0, .int .u64 ba, .int .i64 fr, .int .i64 ln] 43)) := (hB1.trans (hB2.mono hB1.size)).trans (hB3.mono (Nat.le_trans hB1.size z2))
  generalize w2.alloc (.cells #[.int .i64 kd, .bool vw, .int .i64 0, .string ⟨#[]⟩, .slice none 0 0, .slice none 0 0, .int .u64 ba, .int .i64 fr, .int .i64 ln] 43) = w3 at *
  have eR := fun j => cell_of_row w3 W.heap.size j _ _ _ f3
  have zR : ∀ j, w3.frozen? ⟨W.heap.size, j, none⟩ = false := fun j => by simp [World.frozen?, f3]
  have FR := hid f3
  have HB := hid hbel
  clear hbel f3 hB2 hB3 hB1 z2 f1
  go_wp2_with (go_at_call 21; (with_reducible refine (ci _).mono ?_); rintro e w' ⟨rfl, hw⟩; (have hw' := hw.symm); subst hw'; clear hw)
  refine bodyPost_ret (thing_ret2 rfl _ _ W.heap.size _ _ _ _ _ _ _ _ _ _ (0, 0) rfl (ten_set FR.out _ _ _ _ _ _ _ _ _ _)) rfl ?_
  exact ⟨rfl, ten_below HB.out (Nat.le_refl _) _ _ _ _ _ _ _ _ _ _⟩
theorem thing_c (g : HLay W hb sb vc T H u h) (w : Nat) (hw : w < 18446744073709551616) (id : Nat) (hi : hit H w = some id) (c : Hc) (hc : H[id]? = some (some c)) (hth : isTh c) :
    Calls Tryz.prog 37 #[.pointer (some ⟨hb, 0, none⟩), .int .u64 w] W (ThPost W c) :=
  thing_core w c.cl.kind (th_kind hth (g.ok id c hc)) c.cl.view c.cl.base c.cl.frm c.cl.len (c.bytes.length : Nat) (fun w1 hB => (look_c (g.below hB) w hw id hi c hc).mono fun _ _ ⟨h1, h2⟩ => ⟨h1, h2⟩)
theorem count_core (kd : Int) (vw : Bool) (ba fr ln : Int) (b : Nat) (W : World) (m : Nat) (hm : (kd = 9 ∧ b = 8 * m ∧ m ≤ 8388608) ∨ (¬ kd = 9 ∧ vw = true ∧ ln = m) ∨ (¬ kd = 9 ∧ vw = false ∧ elB kd > 0 ∧ m = b / elB kd ∧ b ≤ 8388608)) :
    Calls Tryz.prog 42 #[.agg #[.int .i64 kd, .bool vw, .int .i64 0, .string ⟨#[]⟩, .slice none 0 0, .slice none 0 0, .int .u64 ba, .int .i64 fr, .int .i64 ln, .int .i64 b]] W fun e w' => e = .returned (.int .i64 (m : Nat)) ∧ Below W.heap.size W w' := by
  have hB : Below W.heap.size W (W.alloc (.cells #[.int .i64 kd, .bool vw, .int .i64 0, .string ⟨#[]⟩, .slice none 0 0, .slice none 0 0, .int .u64 ba, .int .i64 fr, .int .i64 ln, .int .i64 b] 69)) := (Below.refl _ W).alloc (Nat.le_refl _) _
  have e1 := World.cell?_alloc_new W #[.int .i64 kd, .bool vw, .int .i64 0, .string ⟨#[]⟩, .slice none 0 0, .slice none 0 0, .int .u64 ba, .int .i64 fr, .int .i64 ln, .int .i64 b] 69
  rcases hm with ⟨rfl, hb8, hm8⟩ | ⟨h9, rfl, rfl⟩ | ⟨h9, rfl, hk, hm, hl⟩
  · have hd : Int.tdiv (b : Int) 8 = (m : Nat) := by rw [Int.tdiv_eq_ediv_of_nonneg (by omega), hb8]; omega
    have hw3 : wrap64 ((m : Nat) : Int) = (m : Nat) := by unfold wrap64; omega
    have hw4 : IntKind.i64.wrap ((m : Nat) : Int) = (m : Nat) := by rw [IntKind.wrap_i64]; omega
    clear hb8 hm8
    go_enter Tryz.func42, Tryz.ntmps42
    go_wp2
    go_ret
    first | exact ⟨ret_int hw3, hB⟩ | exact ⟨rfl, hB⟩
  · go_enter Tryz.func42, Tryz.ntmps42
    go_wp2
    go_ret
    exact ⟨rfl, hB⟩
  · have cw := fun w => width_c kd w
    have e0 : ¬ ((elB kd : Nat) : Int) = 0 := by omega
    have hd : Int.tdiv (b : Int) ((elB kd : Nat) : Int) = (m : Nat) := by rw [Int.tdiv_eq_ediv_of_nonneg (by omega), hm]; omega
    have hmb : m ≤ 8388608 := by rw [hm]; have := Nat.div_le_self b (elB kd); omega
    have hw3 : wrap64 ((m : Nat) : Int) = (m : Nat) := by unfold wrap64; omega
    generalize ((elB kd : Nat) : Int) = E at *
    clear hm hk hl hmb
    go_enter Tryz.func42, Tryz.ntmps42
    go_upto_region 5 with fail
    go_quiet ((go_at_call 18; exact Calls.quiet_of_same (cw _)))
    go_wp2
    go_ret
    exact ⟨ret_int hw3, ⟨hB.os, hB.tape, hB.output, hB.size, hB.block⟩⟩
theorem count_c (c : Hc) (hth : isTh c) (hok : c.ok) (W : World) :
    Calls Tryz.prog 42 #[.agg #[.int .i64 c.cl.kind, .bool c.cl.view, .int .i64 0, .string ⟨#[]⟩, .slice none 0 0, .slice none 0 0, .int .u64 c.cl.base, .int .i64 c.cl.frm, .int .i64 c.cl.len, .int .i64 (c.bytes.length : Nat)]] W fun e w' => e = .returned (.int .i64 (c.cnt : Nat)) ∧ Below W.heap.size W w' := by
  refine count_core c.cl.kind c.cl.view c.cl.base c.cl.frm c.cl.len c.bytes.length W c.cnt ?_
  have n9 : ∀ k : Int, elB k > 0 → ¬ k = 9 := by rintro k h rfl; simp [elB] at h
  cases c with
  | num i => exact hth.elim
  | text b => exact hth.elim
  | buf k b => exact .inr (.inr ⟨n9 k hok.1, rfl, hok.1, rfl, hok.2.2⟩)
  | view k b p n => exact .inr (.inl ⟨n9 k hok.1, rfl, rfl⟩)
  | row ws =>
    refine .inl ⟨rfl, row_len ws, ?_⟩
    have := hok
    simp only [Hc.ok] at this
    show ws.length ≤ 8388608
    omega
theorem blen_c (g : HLay W hb sb vc T H u h) (w : Nat) (hw : w < 18446744073709551616) (id : Nat) (hi : hit H w = some id) (c : Hc) (hc : H[id]? = some (some c)) (hth : isTh c) :
    Calls Tryz.prog 17 #[.pointer (some ⟨hb, 0, none⟩), .int .u64 w] W fun e w' => e = .returned (.tuple #[.int .i64 (c.cnt : Nat), .int .i64 0]) ∧ Below W.heap.size W w' := by
  have ct := thing_c g w hw id hi c hc hth
  have cc := count_c c hth (g.ok id c hc)
  unfold ThPost at ct
  generalize ((c.bytes.length : Nat) : Int) = nb at *
  generalize c.cl.kind = kd at *
  generalize c.cl.view = vw at *
  generalize (c.cl.base : Int) = ba at *
  generalize (c.cl.frm : Int) = fr at *
  generalize (c.cl.len : Int) = ln at *
  generalize c.cnt = m at *
  clear g hc hi hth
  go_enter Tryz.func17, Tryz.ntmps17
  go_upto_region 2 with (go_at_call 37; (with_reducible refine ct.mono ?_); rintro e w2 ⟨rfl, hB2⟩; clear ct)
  have hB3 : Below w2.heap.size w2 (w2.alloc (.cells #[.int .i64 kd, .bool vw, .int .i64 0, .string ⟨#[]⟩, .slice none 0 0, .slice none 0 0, .int .u64 ba, .int .i64 fr, .int .i64 ln, .int .i64 nb] 69)) := (Below.refl _ w2).alloc (Nat.le_refl _) _
  have e3 := World.cell?_alloc_new w2 #[.int .i64 kd, .bool vw, .int .i64 0, .string ⟨#[]⟩, .slice none 0 0, .slice none 0 0, .int .u64 ba, .int .i64 fr, .int .i64 ln, .int .i64 nb] 69
  have hbel := hB2.trans (hB3.mono hB2.size)
  generalize w2.alloc (.cells #[.int .i64 kd, .bool vw, .int .i64 0, .string ⟨#[]⟩, .slice none 0 0, .slice none 0 0, .int .u64 ba, .int .i64 fr, .int .i64 ln, .int .i64 nb] 69) = w3 at *
  clear hB2 hB3
  go_wp2_with (go_at_call 42; (with_reducible refine (cc _).mono ?_); rintro e w4 ⟨rfl, hB4⟩; clear cc)
  go_ret2
  exact ⟨rfl, hbel.trans (hB4.mono hbel.size)⟩
end
end Go.Proofs.YtenpopelbmeemaaGreat.W
