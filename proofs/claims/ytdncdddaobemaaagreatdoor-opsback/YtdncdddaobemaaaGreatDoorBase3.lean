import Derived.Test.YtdncdddaobemaaaGreatDoorBase2
/- Package store: Pack. -/
namespace Go.Proofs.YtdncdddaobemaaaGreatDoor.W
open Go.ChangeShapes Go.WideShapes Go.RowKit Go.Shelf
set_option linter.unusedVariables false
attribute [local go_sem] Oper.semAt_some

theorem set_rowed (t : Sto) (r : List Nat) (n : Nat) (b : Blk) : ({ t with row := r } : Sto).set n b = { t.set n b with row := r } := by
  unfold Sto.set
  split <;> rfl
theorem packN_succ {s : Sto} {c : List Nat} {bl : Nat → Blk} {p l en : Nat → Nat} {i n : Nat} (h : c[i]? = some n) : packN s c bl p l en (i + 1) = { ({ packN s c bl p l en i with row := setL (packN s c bl p l en i).row (en i) (seg (packN s c bl p l en i).row (p i) (l i)) } : Sto).set n { bl i with pos := (en i : Nat) } with hand := (n : Int) } := by
  rw [set_rowed, packN, getD_get h]
theorem pack_def {W : World} {D sb o o' : Nat} {v v' : Value} (hD : W.heap[D]? = some (.deferred (some []))) (hne : D ≠ sb) : ((W.setCell ⟨sb, o, none⟩ v).drew.setCell ⟨sb, o', none⟩ v').heap[D]? = some (.deferred (some [])) := by
  rw [Below.heap_setCell _ _ _ _ hne]
  show (W.setCell ⟨sb, o, none⟩ v).heap[D]? = _
  rw [Below.heap_setCell _ _ _ _ hne]
  exact hD
theorem box_of {Wa Wb : World} {B t : Nat} {v : Value} (h : Wb.heap[B]? = Wa.heap[B]?) (g : Boxed Wa B t v) : Boxed Wb B t v := h.trans g
theorem box_set {W : World} {B C o t : Nat} {v u : Value} (h : Boxed W B t v) (hne : B ≠ C) : Boxed (W.setCell ⟨C, o, none⟩ u) B t v := by
  unfold Boxed at *
  rw [Below.heap_setCell _ _ _ _ hne]
  exact h
/-- the two last stores of a round of Pack -/
theorem pack_fin {W W6 W' : World} {sb : Nat} {vr vb vf : Value} {S : Nat → Prop} {t6 : Sto} {e0 : Value} (e n L D : Nat) {t0 : Sto} (h : Lay W sb vr vb vf t0) (hL : Lay W6 sb vr vb vf t6) (hU : Upd S W W6) (hO : S sb) (b1 : Boxed W6 W.heap.size 40 (.pointer (some ⟨sb, 0, none⟩))) (b2 : Boxed W6 (W.heap.size + 1) 3 e0) (b3 : Boxed W6 (W.heap.size + 2) 40 (.pointer (some ⟨sb, 0, none⟩)))
    (hL' : W6.heap[L]? = W'.heap[L]?) (hD' : W6.heap[D]? = W'.heap[D]?) (hN' : W6.heap[W.heap.size + 2 + 1]? = W'.heap[W.heap.size + 2 + 1]?) (nL : W.heap.size + 2 < L) (nD : W.heap.size + 2 < D) (m : Nat) :
    (W6.drewN m).cell? ⟨W.heap.size + 1, 0, none⟩ = some e0 ∧ (W6.drewN m).frozen? ⟨W.heap.size + 1, 0, none⟩ = false ∧ ((W6.drewN m).setCell ⟨W.heap.size + 1, 0, none⟩ (.int .i64 e)).cell? ⟨W.heap.size, 0, none⟩ = some (.pointer (some ⟨sb, 0, none⟩)) ∧ ((W6.drewN m).setCell ⟨W.heap.size + 1, 0, none⟩ (.int .i64 e)).cell? ⟨sb, 9, none⟩ = some (.int .i64 t6.hand) ∧ ((W6.drewN m).setCell ⟨W.heap.size + 1, 0, none⟩ (.int .i64 e)).frozen? ⟨sb, 9, none⟩ = false ∧
    Hid (∀ Wf, Wf = (((W6.drewN m).setCell ⟨W.heap.size + 1, 0, none⟩ (.int .i64 e)).setCell ⟨sb, 9, none⟩ (.int .i64 n)) → (Wf.heap[L]? = W'.heap[L]? ∧ Wf.heap[D]? = W'.heap[D]? ∧ Wf.heap[W.heap.size + 2 + 1]? = W'.heap[W.heap.size + 2 + 1]?) ∧ Upd S W Wf ∧ Lay Wf sb vr vb vf { t6 with hand := n } ∧ Boxed Wf W.heap.size 40 (.pointer (some ⟨sb, 0, none⟩)) ∧ Boxed Wf (W.heap.size + 1) 3 (.int .i64 e) ∧ Boxed Wf (W.heap.size + 2) 40 (.pointer (some ⟨sb, 0, none⟩))) := by
  obtain ⟨l0, l1, l2, l3⟩ := lay_lt h
  have hL7 : Lay ((W6.drewN m).setCell ⟨W.heap.size + 1, 0, none⟩ (.int .i64 e)) sb vr vb vf t6 := by
    refine (hL.drewN m).kept ?_ ?_ ?_ ?_
    · exact Below.heap_setCell _ _ _ _ (by show sb ≠ W.heap.size + 1; omega)
    · intro k e; exact Below.heap_setCell _ _ _ _ (by show k ≠ W.heap.size + 1; have := l1 k e; omega)
    · intro k e; exact Below.heap_setCell _ _ _ _ (by show k ≠ W.heap.size + 1; have := l2 k e; omega)
    · intro k e; exact Below.heap_setCell _ _ _ _ (by show k ≠ W.heap.size + 1; have := l3 k e; omega)
  have b1' : Boxed (W6.drewN m) W.heap.size 40 (.pointer (some ⟨sb, 0, none⟩)) := b1
  have b2' : Boxed (W6.drewN m) (W.heap.size + 1) 3 e0 := b2
  have b3' : Boxed (W6.drewN m) (W.heap.size + 2) 40 (.pointer (some ⟨sb, 0, none⟩)) := b3
  have c1 := box_set (C := W.heap.size + 1) (o := 0) (u := .int .i64 (e : Int)) b1' (by omega)
  have c3 := box_set (C := W.heap.size + 1) (o := 0) (u := .int .i64 (e : Int)) b3' (by omega)
  have c2 := b2'.set (.int .i64 (e : Int))
  have lt2 := b2'.lt
  refine ⟨b2'.cell, b2'.frozen, c1.cell, hL7.cell 9, hL7.thaw 9, ?_⟩
  rintro Wf rfl
  have hx : ∀ x : Nat, x ≠ sb → x ≠ W.heap.size + 1 → (((W6.drewN m).setCell ⟨W.heap.size + 1, 0, none⟩ (.int .i64 e)).setCell ⟨sb, 9, none⟩ (.int .i64 n)).heap[x]? = W6.heap[x]? := fun x h1 h2 => by
    rw [Below.heap_setCell _ _ _ _ h1, Below.heap_setCell _ _ _ _ h2]; rfl
  refine ⟨⟨(hx L (by omega) (by omega)).trans hL', (hx D (by omega) (by omega)).trans hD', (hx _ (by omega) (by omega)).trans hN'⟩, ?_, hL7.store 9 _ rfl rfl rfl rfl, box_set c1 (by omega), box_set c2 (by omega), box_set c3 (by omega)⟩
  refine ((hU.drewN m).setCell (p := ⟨W.heap.size + 1, 0, none⟩) (.inr ⟨by show W.heap.size ≤ W.heap.size + 1; omega, lt2⟩) _).setCell (p := ⟨sb, 9, none⟩) (.inl hO) _
def packedSto (s : Sto) (c : List Nat) (bl : Nat → Blk) (p l en : Nat → Nat) : Sto := { packN s c bl p l en c.length with row := (packN s c bl p l en c.length).row.take (en c.length), sought := false }
set_option maxHeartbeats 4000000 in
theorem pack_c {W : World} {sb : Nat} {vr vb vf : Value} {s : Sto} {c : List Nat} {bl : Nat → Blk} {p l u en : Nat → Nat} (h : Lay W sb vr vb vf s) (f : Fit s) (k : Pk s c bl p l u en) {S : Nat → Prop} (hO : Own S sb vr vb vf) :
    Calls Tryz.prog 287 #[.pointer (some ⟨sb, 0, none⟩)] W fun e w' => e = .returned (.tuple #[]) ∧ Upd S W w' ∧ ∃ vr', Lay w' sb vr' vb vf (packedSto s c bl p l en) ∧ Own S sb vr' vb vf := by
  obtain ⟨lsb, lr, lb, lf⟩ := lay_lt h
  refine (callsIn_wide (n := 9)).1 ?_
  refine callsIn_of_wp_marks Tryz.func287 rfl trivial ?_ rfl
  refine wpIn_wide.2 ?_
  simp only [Tryz.ntmps287, List.size_toArray, List.length_cons, List.length_nil, Nat.reduceAdd, Nat.reduceSub, Array.replicate_succ, Array.replicate_zero, List.push_toArray, List.append_toArray, List.nil_append, List.cons_append]
  go_upto_region 2 with fail
  have hU1 := ((Upd.refl S W).alloc (.cells #[.pointer (some ⟨sb, 0, none⟩)] 40)).alloc (.cells #[.int .i64 0] 3)
  have hL1 := (h.alloc (.cells #[.pointer (some ⟨sb, 0, none⟩)] 40)).alloc (.cells #[.int .i64 0] 3)
  have hB1 : Boxed ((W.alloc (.cells #[.pointer (some ⟨sb, 0, none⟩)] 40)).alloc (.cells #[.int .i64 0] 3)) W.heap.size 40 (.pointer (some ⟨sb, 0, none⟩)) := (Boxed.new W _ _).alloc _
  have hB2 : Boxed ((W.alloc (.cells #[.pointer (some ⟨sb, 0, none⟩)] 40)).alloc (.cells #[.int .i64 0] 3)) (W.heap.size + 1) 3 (.int .i64 0) := by
    have := Boxed.new (W.alloc (.cells #[.pointer (some ⟨sb, 0, none⟩)] 40)) 3 (.int .i64 0)
    rwa [World.size_alloc] at this
  have hz : ((W.alloc (.cells #[.pointer (some ⟨sb, 0, none⟩)] 40)).alloc (.cells #[.int .i64 0] 3)).heap.size = W.heap.size + 2 := by simp
  generalize World.alloc (World.alloc W _) _ = W1 at *
  have cs := hB1.cell
  go_wp2_with (go_at_call 285; (refine (from_c _ sb 0).mono ?_); rintro e w' ⟨rfl, hw⟩; (have hw' := hw.symm); subst hw'; clear hw)
  have hU2 := (hU1.alloc (.cells #[.pointer (some ⟨sb, 0, none⟩)] 40)).alloc (.cells #[.int .i64 0] 3)
  have hL2 := (hL1.alloc (.cells #[.pointer (some ⟨sb, 0, none⟩)] 40)).alloc (.cells #[.int .i64 0] 3)
  have hB4 : Boxed ((W1.alloc (.cells #[.pointer (some ⟨sb, 0, none⟩)] 40)).alloc (.cells #[.int .i64 0] 3)) (W.heap.size + 2 + 1) 3 (.int .i64 0) := by
    have := Boxed.new (W1.alloc (.cells #[.pointer (some ⟨sb, 0, none⟩)] 40)) 3 (.int .i64 0)
    rw [World.size_alloc, hz] at this
    exact this
  have hB3 : Boxed ((W1.alloc (.cells #[.pointer (some ⟨sb, 0, none⟩)] 40)).alloc (.cells #[.int .i64 0] 3)) (W.heap.size + 2) 40 (.pointer (some ⟨sb, 0, none⟩)) := by
    have := (Boxed.new W1 40 (.pointer (some ⟨sb, 0, none⟩))).alloc (.cells #[.int .i64 0] 3)
    rw [hz] at this
    exact this
  have hB1' := (hB1.alloc (.cells #[.pointer (some ⟨sb, 0, none⟩)] 40)).alloc (.cells #[.int .i64 0] 3)
  have hB2' := (hB2.alloc (.cells #[.pointer (some ⟨sb, 0, none⟩)] 40)).alloc (.cells #[.int .i64 0] 3)
  have hz2 : ((W1.alloc (.cells #[.pointer (some ⟨sb, 0, none⟩)] 40)).alloc (.cells #[.int .i64 0] 3)).heap.size = W.heap.size + 4 := by simp [hz]
  clear hU1 hL1 hB1 hB2 cs
  generalize World.alloc (World.alloc W1 _) _ = W2 at *
  clear hz
  have e0 : c[0]'k.ne = 0 := by have := k.zero; rw [List.getElem?_eq_getElem k.ne] at this; exact Option.some.inj this
  refine ring_law (Bn := W.heap.size + 2 + 1) (Bs := W.heap.size + 2) (sb := sb) rfl c k.ne k.nodup ?hz (by rw [e0]; exact hB4)
    (fun i W' => Upd S W W' ∧ Lay W' sb vr vb vf (packN s c bl p l en i) ∧ Boxed W' W.heap.size 40 (.pointer (some ⟨sb, 0, none⟩)) ∧ Boxed W' (W.heap.size + 1) 3 (.int .i64 (en i : Nat)) ∧ Boxed W' (W.heap.size + 2) 40 (.pointer (some ⟨sb, 0, none⟩)))
    (fun _ _ => False)
    ?hI ?hIx ⟨hU2, hL2, hB1', by rw [k.en0]; exact hB2', hB3⟩ ?hread 3 ?assign ?body ?done ?stop
  case hz =>
    intro i hi e
    have := List.pairwise_iff_getElem.1 k.nodup 0 (i + 1) k.ne hi (by omega)
    rw [e0, e] at this
    exact this rfl
  case hI =>
    rintro i Wa Wb ⟨g1, g2, g3, g4, g5⟩ hu
    have hk := lay_far h g2 g1.size hu (by omega)
    exact ⟨upd_far g1 hu (by omega) (by omega), hk, box_far g3 hu (by omega) (by omega), box_far g4 hu (by omega) (by omega), box_far g5 hu (by omega) (by omega)⟩
  case hIx => rintro c Wa Wb hF; exact hF.elim
  case hread =>
    rintro i hi Wa ⟨g1, g2, g3, g4, g5⟩
    have hn : c[i]? = some c[i] := List.getElem?_eq_getElem hi
    have hg : (packN s c bl p l en (i + 1)).get c[i] = some { bl i with pos := (en i : Nat) } := packN_earlier k (i + 1) i _ (by omega) (by omega) hn
    obtain ⟨B, O, pt⟩ := g2.pt hg
    obtain ⟨_, _, _, _, d4⟩ := bcells g2 hg pt
    refine ⟨g5.cell, B, O, block_c Wa sb vr vb vf _ g2 _ _ hg (by rw [packN_blks]; exact f.len) B O pt, ?_⟩
    rw [d4, show ({ bl i with pos := (en i : Nat) } : Blk).next = (bl i).next from rfl, k.next i hi]
  case assign =>
    intro L x W' K hK
    gi_wp2
    exact hK
  case body =>
    rintro L i hi W' hLe ⟨g1, g2, g3, g4, g5⟩ hs ⟨r, hr⟩ b4
    simp only [ringAct, List.setIfInBounds_toArray, List.set_cons_succ, List.set_cons_zero]
    have hn : c[i]? = some c[i] := List.getElem?_eq_getElem hi
    have hg : (packN s c bl p l en i).get c[i] = some (bl i) := by rw [packN_later k.nodup i i _ (Nat.le_refl _) hn]; exact k.get i _ hn
    obtain ⟨B, O, pt⟩ := g2.pt hg
    have cb := block_c W' sb vr vb vf _ g2 _ _ hg (by rw [packN_blks]; exact f.len) B O pt
    obtain ⟨_, d1, d2, _, _⟩ := bcells g2 hg pt
    rw [k.pos i hi] at d1
    rw [k.len i hi] at d2
    have cs := g3.cell
    have ce := g4.cell
    have c0 := g2.cell 0
    simp [Sto.obj] at c0
    have le1 := k.le i hi
    have le2 := k.stop i hi
    have lu := k.lu hi
    have fr := f.row
    have hrl : (packN s c bl p l en i).row.length = s.row.length := packN_row i
    gi_wp2_with ((refine ⟨trivial, ?_⟩); gi_at_call 253; (refine (CallsIn.inRound L (callsIn_wide.2 cb)).mono ?_); rintro e w' ⟨rfl, hw⟩; (have hw' := hw.symm); subst hw'; clear hw)
    by_cases hA : ∃ g cap, vr = .slice (some ⟨g, 0, none⟩) s.row.length cap ∧ s.row.length ≤ cap ∧ en i < cap ∧ p i < cap
    · obtain ⟨g, cap, hvr, hcap, hc1, hc2⟩ := hA
      rw [hvr] at c0
      refine round_held (S := fun w' => w'.cell? ⟨W.heap.size, 0, none⟩ = some (.pointer (some ⟨sb, 0, none⟩)) ∧ w'.cell? ⟨W.heap.size + 1, 0, none⟩ = some (.int .i64 (en i : Nat)) ∧ w'.cell? ⟨sb, 0, none⟩ = some (.slice (some ⟨g, 0, none⟩) s.row.length cap) ∧ w'.cell? ⟨B, O + 1, none⟩ = some (.int .i64 (p i : Nat)) ∧ w'.cell? ⟨B, O + 2, none⟩ = some (.int .i64 (l i : Nat))) (by kernel_rfl) (by kernel_rfl) (by rintro ⟨a, w, hF⟩; exact hF) ?_
      have nw : IntKind.i64.wrap ((p i : Int) + l i) = (p i : Int) + l i := by rw [IntKind.wrap_i64]; omega
      have n1 : (0 : Int) ≤ en i := by omega
      have n2 : (en i : Int) ≤ s.row.length := by omega
      have n3 : ¬ cap = en i := by omega
      have n4 : (0 : Int) ≤ p i := by omega
      have n5 : (p i : Int) + l i ≤ cap := by omega
      have n6 : ¬ cap = p i := by omega
      have n7 : (0 : Int) ≤ (p i : Int) + l i := by omega
      have n8 : (p i : Int) ≤ (p i : Int) + l i := by omega
      have n9 : ((p i : Int) + l i).toNat - p i = l i := by omega
      have hS : W'.drew.cell? ⟨W.heap.size, 0, none⟩ = some (.pointer (some ⟨sb, 0, none⟩)) ∧ W'.drew.cell? ⟨W.heap.size + 1, 0, none⟩ = some (.int .i64 (en i : Nat)) ∧ W'.drew.cell? ⟨sb, 0, none⟩ = some (.slice (some ⟨g, 0, none⟩) s.row.length cap) ∧ W'.drew.cell? ⟨B, O + 1, none⟩ = some (.int .i64 (p i : Nat)) ∧ W'.drew.cell? ⟨B, O + 2, none⟩ = some (.int .i64 (l i : Nat)) := ⟨cs, ce, c0, d1, d2⟩
      (refine wpAnyH_take (i := 0) (v := ?_) rfl (by kernel_rfl) (by kernel_rfl) (by kernel_rfl) (fun _ _ _ h => h) (Or.inl ⟨by rfl, ?_⟩) hS ?_); rotate_left; focus (intro w' hSw; obtain ⟨q1, q2, q3, q4, q5⟩ := hSw; go_simp; (try with_reducible rfl)); (try simp only [Act.put, List.setIfInBounds_toArray, List.set_cons_zero, List.set_cons_succ])
      (refine wpAnyH_take (i := 1) (v := ?_) rfl (by kernel_rfl) (by kernel_rfl) (by kernel_rfl) (fun _ _ _ h => h) (Or.inl ⟨by rfl, ?_⟩) hS ?_); rotate_left; focus (intro w' hSw; obtain ⟨q1, q2, q3, q4, q5⟩ := hSw; go_simp; (try with_reducible rfl)); (try simp only [Act.put, List.setIfInBounds_toArray, List.set_cons_zero, List.set_cons_succ])
      (refine wpAnyH_take (i := 2) (v := ?_) rfl (by kernel_rfl) (by kernel_rfl) (by kernel_rfl) (fun _ _ _ h => h) (Or.inl ⟨by rfl, ?_⟩) hS ?_); rotate_left; focus (intro w' hSw; obtain ⟨q1, q2, q3, q4, q5⟩ := hSw; go_simp; (try with_reducible rfl)); (try simp only [Act.put, List.setIfInBounds_toArray, List.set_cons_zero, List.set_cons_succ])
      (refine wpAnyH_take (i := 3) (v := ?_) rfl (by kernel_rfl) (by kernel_rfl) (by kernel_rfl) (fun _ _ _ h => h) (Or.inl ⟨by rfl, ?_⟩) hS ?_); rotate_left; focus (intro w' hSw; obtain ⟨q1, q2, q3, q4, q5⟩ := hSw; go_simp; (try with_reducible rfl)); (try simp only [Act.put, List.setIfInBounds_toArray, List.set_cons_zero, List.set_cons_succ])
      (refine wpAnyH_take (i := 4) (v := ?_) rfl (by kernel_rfl) (by kernel_rfl) (by kernel_rfl) (fun _ _ _ h => h) (Or.inl ⟨by rfl, ?_⟩) hS ?_); rotate_left; focus (intro w' hSw; obtain ⟨q1, q2, q3, q4, q5⟩ := hSw; go_simp; (try with_reducible rfl)); (try simp only [Act.put, List.setIfInBounds_toArray, List.set_cons_zero, List.set_cons_succ])
      (refine wpAnyH_take (i := 5) (v := ?_) rfl (by kernel_rfl) (by kernel_rfl) (by kernel_rfl) (fun _ _ _ h => h) (Or.inl ⟨by rfl, ?_⟩) hS ?_); rotate_left; focus (intro w' hSw; obtain ⟨q1, q2, q3, q4, q5⟩ := hSw; go_simp; (try with_reducible rfl)); (try simp only [Act.put, List.setIfInBounds_toArray, List.set_cons_zero, List.set_cons_succ])
      (refine wpAnyH_take (i := 6) (v := ?_) rfl (by kernel_rfl) (by kernel_rfl) (by kernel_rfl) (fun _ _ _ h => h) (Or.inl ⟨by rfl, ?_⟩) hS ?_); rotate_left; focus (intro w' hSw; obtain ⟨q1, q2, q3, q4, q5⟩ := hSw; go_simp; (try with_reducible rfl)); (try simp only [Act.put, List.setIfInBounds_toArray, List.set_cons_zero, List.set_cons_succ])
      (refine wpAnyH_take (i := 7) (v := ?_) rfl (by kernel_rfl) (by kernel_rfl) (by kernel_rfl) (fun _ _ _ h => h) (Or.inl ⟨by rfl, ?_⟩) hS ?_); rotate_left; focus (intro w' hSw; obtain ⟨q1, q2, q3, q4, q5⟩ := hSw; go_simp; (try with_reducible rfl)); (try simp only [Act.put, List.setIfInBounds_toArray, List.set_cons_zero, List.set_cons_succ])
      (refine wpAnyH_take (i := 8) (v := ?_) rfl (by kernel_rfl) (by kernel_rfl) (by kernel_rfl) (fun _ _ _ h => h) (Or.inl ⟨by rfl, ?_⟩) hS ?_); rotate_left; focus (intro w' hSw; obtain ⟨q1, q2, q3, q4, q5⟩ := hSw; go_simp; (try with_reducible rfl)); (try simp only [Act.put, List.setIfInBounds_toArray, List.set_cons_zero, List.set_cons_succ])
      (refine wpAnyH_take (i := 9) (v := ?_) rfl (by kernel_rfl) (by kernel_rfl) (by kernel_rfl) (fun _ _ _ h => h) (Or.inl ⟨by rfl, ?_⟩) hS ?_); rotate_left; focus (intro w' hSw; obtain ⟨q1, q2, q3, q4, q5⟩ := hSw; go_simp; (try with_reducible rfl)); (try simp only [Act.put, List.setIfInBounds_toArray, List.set_cons_zero, List.set_cons_succ])
      (refine wpAnyH_take (i := 10) (v := ?_) rfl (by kernel_rfl) (by kernel_rfl) (by kernel_rfl) (fun _ _ _ h => h) (Or.inl ⟨by rfl, ?_⟩) hS ?_); rotate_left; focus (intro w' hSw; obtain ⟨q1, q2, q3, q4, q5⟩ := hSw; go_simp; (try with_reducible rfl)); (try simp only [Act.put, List.setIfInBounds_toArray, List.set_cons_zero, List.set_cons_succ])
      (refine wpAnyH_take (i := 11) (v := ?_) rfl (by kernel_rfl) (by kernel_rfl) (by kernel_rfl) (fun _ _ _ h => h) (Or.inl ⟨by rfl, ?_⟩) hS ?_); rotate_left; focus (intro w' hSw; obtain ⟨q1, q2, q3, q4, q5⟩ := hSw; go_simp; (try with_reducible rfl)); (try simp only [Act.put, List.setIfInBounds_toArray, List.set_cons_zero, List.set_cons_succ])
      (refine wpAnyH_take (i := 12) (v := ?_) rfl (by kernel_rfl) (by kernel_rfl) (by kernel_rfl) (fun _ _ _ h => h) (Or.inl ⟨by rfl, ?_⟩) hS ?_); rotate_left; focus (intro w' hSw; obtain ⟨q1, q2, q3, q4, q5⟩ := hSw; go_simp; (try with_reducible rfl)); (try simp only [Act.put, List.setIfInBounds_toArray, List.set_cons_zero, List.set_cons_succ])
      (refine wpAnyH_take (i := 13) (v := ?_) rfl (by kernel_rfl) (by kernel_rfl) (by kernel_rfl) (fun _ _ _ h => h) (Or.inl ⟨by rfl, ?_⟩) hS ?_); rotate_left; focus (intro w' hSw; obtain ⟨q1, q2, q3, q4, q5⟩ := hSw; go_simp; (try with_reducible rfl)); (try simp only [Act.put, List.setIfInBounds_toArray, List.set_cons_zero, List.set_cons_succ])
      (refine wpAnyH_take (i := 14) (v := ?_) rfl (by kernel_rfl) (by kernel_rfl) (by kernel_rfl) (fun _ _ _ h => h) (Or.inl ⟨by rfl, ?_⟩) hS ?_); rotate_left; focus (intro w' hSw; obtain ⟨q1, q2, q3, q4, q5⟩ := hSw; go_simp; (try with_reducible rfl)); (try simp only [Act.put, List.setIfInBounds_toArray, List.set_cons_zero, List.set_cons_succ])
      (refine wpAnyH_take (i := 15) (v := ?_) rfl (by kernel_rfl) (by kernel_rfl) (by kernel_rfl) (fun _ _ _ h => h) (Or.inl ⟨by rfl, ?_⟩) hS ?_); rotate_left; focus (intro w' hSw; obtain ⟨q1, q2, q3, q4, q5⟩ := hSw; go_simp; (try with_reducible rfl)); (try simp only [Act.put, List.setIfInBounds_toArray, List.set_cons_zero, List.set_cons_succ])
      (refine wpAnyH_take (i := 16) (v := ?_) rfl (by kernel_rfl) (by kernel_rfl) (by kernel_rfl) (fun _ _ _ h => h) (Or.inl ⟨by rfl, ?_⟩) hS ?_); rotate_left; focus (intro w' hSw; obtain ⟨q1, q2, q3, q4, q5⟩ := hSw; go_simp; (try with_reducible rfl)); (try simp only [Act.put, List.setIfInBounds_toArray, List.set_cons_zero, List.set_cons_succ])
      (refine wpAnyH_take (i := 17) (v := ?_) rfl (by kernel_rfl) (by kernel_rfl) (by kernel_rfl) (fun _ _ _ h => h) (Or.inl ⟨by rfl, ?_⟩) hS ?_); rotate_left; focus (intro w' hSw; obtain ⟨q1, q2, q3, q4, q5⟩ := hSw; go_simp; (try with_reducible rfl)); (try simp only [Act.put, List.setIfInBounds_toArray, List.set_cons_zero, List.set_cons_succ])
      (refine wpAnyH_take (i := 18) (v := ?_) rfl (by kernel_rfl) (by kernel_rfl) (by kernel_rfl) (fun _ _ _ h => h) (Or.inl ⟨by rfl, ?_⟩) hS ?_); rotate_left; focus (intro w' hSw; obtain ⟨q1, q2, q3, q4, q5⟩ := hSw; go_simp; (try with_reducible rfl)); (try simp only [Act.put, List.setIfInBounds_toArray, List.set_cons_zero, List.set_cons_succ])
      (refine wpAnyH_take (i := 19) (v := ?_) rfl (by kernel_rfl) (by kernel_rfl) (by kernel_rfl) (fun _ _ _ h => h) (Or.inl ⟨by rfl, ?_⟩) hS ?_); rotate_left; focus (intro w' hSw; obtain ⟨q1, q2, q3, q4, q5⟩ := hSw; go_simp; (try with_reducible rfl)); (try simp only [Act.put, List.setIfInBounds_toArray, List.set_cons_zero, List.set_cons_succ])
      (refine wpAnyH_take (i := 20) (v := ?_) rfl (by kernel_rfl) (by kernel_rfl) (by kernel_rfl) (fun _ _ _ h => h) (Or.inl ⟨by rfl, ?_⟩) hS ?_); rotate_left; focus (intro w' hSw; obtain ⟨q1, q2, q3, q4, q5⟩ := hSw; go_simp; (try with_reducible rfl)); (try simp only [Act.put, List.setIfInBounds_toArray, List.set_cons_zero, List.set_cons_succ])
      (refine wpAnyH_take (i := 21) (v := ?_) rfl (by kernel_rfl) (by kernel_rfl) (by kernel_rfl) (fun _ _ _ h => h) (Or.inl ⟨by rfl, ?_⟩) hS ?_); rotate_left; focus (intro w' hSw; obtain ⟨q1, q2, q3, q4, q5⟩ := hSw; go_simp; (try with_reducible rfl)); (try simp only [Act.put, List.setIfInBounds_toArray, List.set_cons_zero, List.set_cons_succ])
      (refine wpAnyH_take (i := 22) (v := ?_) rfl (by kernel_rfl) (by kernel_rfl) (by kernel_rfl) (fun _ _ _ h => h) (Or.inl ⟨by rfl, ?_⟩) hS ?_); rotate_left; focus (intro w' hSw; obtain ⟨q1, q2, q3, q4, q5⟩ := hSw; go_simp; (try with_reducible rfl)); (try simp only [Act.put, List.setIfInBounds_toArray, List.set_cons_zero, List.set_cons_succ])
      (refine wpAnyH_take (i := 23) (v := ?_) rfl (by kernel_rfl) (by kernel_rfl) (by kernel_rfl) (fun _ _ _ h => h) (Or.inl ⟨by rfl, ?_⟩) hS ?_); rotate_left; focus (intro w' hSw; obtain ⟨q1, q2, q3, q4, q5⟩ := hSw; go_simp; (try with_reducible rfl)); (try simp only [Act.put, List.setIfInBounds_toArray, List.set_cons_zero, List.set_cons_succ])
      have hcl : (((seg (packN s c bl p l en i).row (p i) (l i)).map byteV)).length = l i := by rw [List.length_map, seg_len _ _ _ (by rw [hrl]; omega)]
      have hcopy : ∀ ty, (Builtin.copy_ #[62, 62] ty #[.slice (some ⟨g, en i, none⟩) (s.row.length - en i) (cap - en i), .slice (some ⟨g, p i, none⟩) (l i) (cap - p i)]).run Tryz.prog W'.drew = .ok (goInt (l i)) (W'.drew.setCells g (en i) ((seg (packN s c bl p l en i).row (p i) (l i)).map byteV)) := fun ty => by
        have e := run_copy_cells (P := Tryz.prog) W'.drew 62 62 ty 5 g (en i) (s.row.length - en i) (cap - en i) ⟨g, p i, none⟩ (l i) (cap - p i) ((seg (packN s c bl p l en i).row (p i) (l i)).map byteV) under57 (by kernel_rfl) (by rw [hcl]; exact (Nat.min_eq_left (by omega)).symm) ?_ ?_ ?_ ?_
        · rw [hcl] at e; exact e
        · intro j v hv
          have hj : j < l i := by rw [← hcl]; exact (List.getElem?_eq_some_iff.1 hv).1
          have ea : (⟨g, p i, none⟩ : Addr).add j = ⟨g, p i + j, none⟩ := by unfold Addr.add; split <;> simp_all
          have er := rcell g2 (g := g) (cap := cap) (by rw [hrl]; exact hvr) (p i + j) (by rw [hrl]; omega)
          rw [ea]
          show W'.cell? _ = _
          rw [er, ← hv, List.getElem?_map, seg_get _ _ _ _ hj, List.getElem?_eq_getElem (by rw [hrl]; omega)]
          rfl
        · intro j hj
          rw [hcl] at hj
          have er := rcell g2 (g := g) (cap := cap) (by rw [hrl]; exact hvr) (en i + j) (by rw [hrl]; omega)
          show (W'.cell? _).isSome = true
          rw [er]; rfl
        · intro j hj
          have er := g2.row
          rw [hrl, hvr] at er
          exact er.frozenAt _
        · intro v hv
          obtain ⟨y, _, rfl⟩ := List.mem_map.1 hv
          rfl
      have gne : sb ≠ g := by
        have := own_ne g2.row g2.obj (by decide)
        rw [hvr] at this
        simpa [Value.ownBlock] using this
      have bne : B ≠ g := by
        rcases pt with ⟨_, rfl, _⟩ | ⟨_, e, _⟩
        · exact gne
        · have := own_apart g2.blk g2.row (by decide)
          rw [e, hvr] at this
          simpa [Value.ownBlock] using this
      have glt : g < W.heap.size := lr g (by rw [hvr]; rfl)
      have far : ∀ x : Nat, x ≠ g → (W'.drew.setCells g (en i) ((seg (packN s c bl p l en i).row (p i) (l i)).map byteV)).heap[x]? = W'.heap[x]? := fun x hx => setCells_far W'.drew g (en i) _ x hx
      refine wpAnyH_ready (rs := [24]) (by kernel_rfl) (by simp) ?_
      refine AllReadyH.cons rfl (fun K hK => ?_) AllReadyH.nil
      go_simp
      refine hK.out _ _ ⟨?_, ?_, ?_, ?_, ?_⟩ (fun hS2 => ?_)
      · exact (World.cell?_of_block (w := W') (far _ (by show W.heap.size ≠ g; omega))).trans cs
      · exact (World.cell?_of_block (w := W') (far _ (by show W.heap.size + 1 ≠ g; omega))).trans ce
      · exact (World.cell?_of_block (w := W') (far _ gne)).trans c0
      · exact (World.cell?_of_block (w := W') (far _ bne)).trans d1
      · exact (World.cell?_of_block (w := W') (far _ bne)).trans d2
      clear hK K
      refine wpAnyH_done (by kernel_rfl) ?_ _
      have hL5 := (g2.drew).rstores (g := g) (cap := cap) (by rw [hrl]; exact hvr) (en i) (seg (packN s c bl p l en i).row (p i) (l i))
      have hU5 := (g1.drew).setCells (g := g) (hO.row g (by rw [hvr]; rfl)) (en i) ((seg (packN s c bl p l en i).row (p i) (l i)).map byteV)
      have hg5 : ({ packN s c bl p l en i with row := setL (packN s c bl p l en i).row (en i) (seg (packN s c bl p l en i).row (p i) (l i)) } : Sto).get c[i] = some (bl i) := hg
      have fB1 := box_of (far W.heap.size (by omega)) g3
      have fB2 := box_of (far (W.heap.size + 1) (by omega)) g4
      have fB3 := box_of (far (W.heap.size + 2) (by omega)) g5
      have fL := far L (by omega)
      have fD := far W2.heap.size (by omega)
      have fN := far (W.heap.size + 2 + 1) (by omega)
      have z5 := setCells_size W'.drew g (en i) ((seg (packN s c bl p l en i).row (p i) (l i)).map byteV)
      have zz : W'.drew.heap.size = W'.heap.size := rfl
      rw [zz] at z5
      clear far hcopy hS hcl cs ce c0 hS2 d1 d2
      generalize World.setCells (World.drew W') _ _ _ = W5 at *
      obtain ⟨_, d1, d2, _, _⟩ := bcells hL5 hg5 pt
      have t1 := hL5.bthaw hg5 pt 1
      rw [k.len i hi] at d2
      have ce := fB2.cell
      have hBe : B ≠ W.heap.size + 1 ∧ B ≠ W.heap.size ∧ B ≠ W.heap.size + 2 ∧ B < W.heap.size := by
        rcases pt with ⟨_, rfl, _⟩ | ⟨_, e, _⟩
        · omega
        · have := lb B e; omega
      have hL6 := hL5.bstore (c := { bl i with pos := (en i : Nat) }) hg5 pt 1 (by omega) (.int .i64 (en i : Nat)) rfl
      have hU6 := hU5.setCell (p := ⟨B, O + 1, none⟩) (.inl (hO.pt pt)) (.int .i64 (en i : Nat))
      have e1 : (W5.setCell ⟨B, O + 1, none⟩ (.int .i64 (en i : Nat))).cell? ⟨B, O + 1, none⟩ = some (.int .i64 (en i : Nat)) := World.cell?_setCell_same' _ _ _ (by rw [d1]; rfl)
      have e2 : (W5.setCell ⟨B, O + 1, none⟩ (.int .i64 (en i : Nat))).cell? ⟨B, O + 2, none⟩ = some (.int .i64 (l i : Nat)) := by
        have hg6 := get_set_same hg5 ({ bl i with pos := (en i : Nat) } : Blk)
        obtain ⟨_, _, x2, _, _⟩ := bcells hL6 hg6 pt
        rw [x2]; exact congrArg (fun z => some (Value.int .i64 z)) (k.len i hi)
      have fb := f.blk _ _ (k.get i _ hn)
      rw [k.pos i hi, k.len i hi] at fb
      have cend := end_c (W5.setCell ⟨B, O + 1, none⟩ (.int .i64 (en i : Nat))) B O (en i) (l i) e1 e2 (by omega) (by omega) (by omega) (by omega)
      have hen : (en i : Int) + up8 (l i) = (en (i + 1) : Nat) := by rw [k.up i hi, k.en1 i hi]; omega
      rw [hen] at cend
      have hf6 : ∀ x : Nat, x ≠ B → (W5.setCell ⟨B, O + 1, none⟩ (.int .i64 (en i : Nat))).heap[x]? = W5.heap[x]? := fun x hx => Below.heap_setCell _ _ _ _ hx
      have F := fun m => pack_fin (W' := W') (en (i + 1)) c[i] L W2.heap.size h hL6 hU6 hO.sb (box_set fB1 (by omega)) (box_set fB2 (by omega)) (box_set fB3 (by omega)) ((hf6 L (by omega)).trans fL) ((hf6 _ (by omega)).trans fD) ((hf6 _ (by omega)).trans fN) (by omega) (by omega) m
      gi_wp2_with ((refine ⟨trivial, ?_⟩); gi_at_call 257; (refine (CallsIn.inRound L (callsIn_wide.2 cend)).mono ?_); rintro e W7 ⟨rfl, m7, hw⟩; (have q := F m7); (rw [← hw] at q); (obtain ⟨q1, q2, q3, q4, q5, q6⟩ := q); clear hw F)
      obtain ⟨r1, r2, r3, r4, r5, r6⟩ := q6.out _ rfl
      exact ⟨r1, r2, by rw [packN_succ hn]; exact r3, r4, r5, r6⟩
    · obtain ⟨hi0, ao, hvr, hr0⟩ : i = 0 ∧ ∃ ao, vr = .slice ao 0 0 ∧ s.row.length = 0 := by
        have key : ∀ g cap, vr = .slice (some ⟨g, 0, none⟩) s.row.length cap → s.row.length ≤ cap → i = 0 ∧ cap = 0 := by
          intro g cap e1 e2
          by_cases h0 : i = 0
          · refine ⟨h0, ?_⟩
            false_or_by_contra
            rename_i hc0
            exact hA ⟨g, cap, e1, e2, by rw [h0, k.en0]; omega, by rw [h0, k.first.1]; omega⟩
          · have hl0 := k.rest i (by omega) hi
            exact absurd ⟨g, cap, e1, e2, by omega, by omega⟩ hA
        rcases g2.row.2 with ⟨e, e'⟩ | ⟨g, cap, cur, e, _, _, hc, _⟩
        · rw [hrl] at e'
          refine ⟨?_, none, e, e'⟩
          false_or_by_contra
          rename_i h0
          have hl0 := k.rest i (by omega) hi
          omega
        · rw [hrl] at e hc
          obtain ⟨h0, hc0⟩ := key g cap e hc
          exact ⟨h0, some ⟨g, 0, none⟩, by rw [e, hc0, show s.row.length = 0 by omega], by omega⟩
      have nw0 : IntKind.i64.wrap 0 = 0 := by decide
      have hen0 : en i = 0 := by rw [hi0]; exact k.en0
      have hp0 : p i = 0 := by rw [hi0]; exact k.first.1
      have hl0 : l i = 0 := by rw [hi0]; exact k.first.2
      clear hi0
      have hcopy : ∀ ty, (Builtin.copy_ #[62, 62] ty #[.slice ao 0 0, .slice ao 0 0]).run Tryz.prog W'.drew = .ok (goInt 0) W'.drew := fun ty => run_copy_none (P := Tryz.prog) W'.drew 62 62 ty 5 ao ao 0 0 0 0 under57 (by kernel_rfl) rfl
      have hL5 : Lay W'.drew sb vr vb vf { packN s c bl p l en i with row := setL (packN s c bl p l en i).row (en i) (seg (packN s c bl p l en i).row (p i) (l i)) } := by
        rw [hl0, show seg (packN s c bl p l en i).row (p i) 0 = [] by simp [seg]]
        exact g2.drew
      rw [hvr] at c0
      rw [hen0] at ce
      rw [hp0] at d1
      rw [hl0] at d2
      refine round_held (S := fun w' => w'.cell? ⟨W.heap.size, 0, none⟩ = some (.pointer (some ⟨sb, 0, none⟩)) ∧ w'.cell? ⟨W.heap.size + 1, 0, none⟩ = some (.int .i64 ((0 : Nat) : Int)) ∧ w'.cell? ⟨sb, 0, none⟩ = some (.slice ao 0 0) ∧ w'.cell? ⟨B, O + 1, none⟩ = some (.int .i64 ((0 : Nat) : Int)) ∧ w'.cell? ⟨B, O + 2, none⟩ = some (.int .i64 ((0 : Nat) : Int))) (by kernel_rfl) (by kernel_rfl) (by rintro ⟨a, w, hF⟩; exact hF) ?_
      have hS : W'.drew.cell? ⟨W.heap.size, 0, none⟩ = some (.pointer (some ⟨sb, 0, none⟩)) ∧ W'.drew.cell? ⟨W.heap.size + 1, 0, none⟩ = some (.int .i64 ((0 : Nat) : Int)) ∧ W'.drew.cell? ⟨sb, 0, none⟩ = some (.slice ao 0 0) ∧ W'.drew.cell? ⟨B, O + 1, none⟩ = some (.int .i64 ((0 : Nat) : Int)) ∧ W'.drew.cell? ⟨B, O + 2, none⟩ = some (.int .i64 ((0 : Nat) : Int)) := ⟨cs, ce, c0, d1, d2⟩
      (refine wpAnyH_take (i := 0) (v := ?_) rfl (by kernel_rfl) (by kernel_rfl) (by kernel_rfl) (fun _ _ _ h => h) (Or.inl ⟨by rfl, ?_⟩) hS ?_); rotate_left; focus (intro w' hSw; obtain ⟨q1, q2, q3, q4, q5⟩ := hSw; go_simp; (try with_reducible rfl)); (try simp only [Act.put, List.setIfInBounds_toArray, List.set_cons_zero, List.set_cons_succ])
      (refine wpAnyH_take (i := 1) (v := ?_) rfl (by kernel_rfl) (by kernel_rfl) (by kernel_rfl) (fun _ _ _ h => h) (Or.inl ⟨by rfl, ?_⟩) hS ?_); rotate_left; focus (intro w' hSw; obtain ⟨q1, q2, q3, q4, q5⟩ := hSw; go_simp; (try with_reducible rfl)); (try simp only [Act.put, List.setIfInBounds_toArray, List.set_cons_zero, List.set_cons_succ])
      (refine wpAnyH_take (i := 2) (v := ?_) rfl (by kernel_rfl) (by kernel_rfl) (by kernel_rfl) (fun _ _ _ h => h) (Or.inl ⟨by rfl, ?_⟩) hS ?_); rotate_left; focus (intro w' hSw; obtain ⟨q1, q2, q3, q4, q5⟩ := hSw; go_simp; (try with_reducible rfl)); (try simp only [Act.put, List.setIfInBounds_toArray, List.set_cons_zero, List.set_cons_succ])
      (refine wpAnyH_take (i := 3) (v := ?_) rfl (by kernel_rfl) (by kernel_rfl) (by kernel_rfl) (fun _ _ _ h => h) (Or.inl ⟨by rfl, ?_⟩) hS ?_); rotate_left; focus (intro w' hSw; obtain ⟨q1, q2, q3, q4, q5⟩ := hSw; go_simp; (try with_reducible rfl)); (try simp only [Act.put, List.setIfInBounds_toArray, List.set_cons_zero, List.set_cons_succ])
      (refine wpAnyH_take (i := 4) (v := ?_) rfl (by kernel_rfl) (by kernel_rfl) (by kernel_rfl) (fun _ _ _ h => h) (Or.inl ⟨by rfl, ?_⟩) hS ?_); rotate_left; focus (intro w' hSw; obtain ⟨q1, q2, q3, q4, q5⟩ := hSw; go_simp; (try with_reducible rfl)); (try simp only [Act.put, List.setIfInBounds_toArray, List.set_cons_zero, List.set_cons_succ])
      (refine wpAnyH_take (i := 5) (v := ?_) rfl (by kernel_rfl) (by kernel_rfl) (by kernel_rfl) (fun _ _ _ h => h) (Or.inl ⟨by rfl, ?_⟩) hS ?_); rotate_left; focus (intro w' hSw; obtain ⟨q1, q2, q3, q4, q5⟩ := hSw; go_simp; (try with_reducible rfl)); (try simp only [Act.put, List.setIfInBounds_toArray, List.set_cons_zero, List.set_cons_succ])
      (refine wpAnyH_take (i := 6) (v := ?_) rfl (by kernel_rfl) (by kernel_rfl) (by kernel_rfl) (fun _ _ _ h => h) (Or.inl ⟨by rfl, ?_⟩) hS ?_); rotate_left; focus (intro w' hSw; obtain ⟨q1, q2, q3, q4, q5⟩ := hSw; go_simp; (try with_reducible rfl)); (try simp only [Act.put, List.setIfInBounds_toArray, List.set_cons_zero, List.set_cons_succ])
      (refine wpAnyH_take (i := 7) (v := ?_) rfl (by kernel_rfl) (by kernel_rfl) (by kernel_rfl) (fun _ _ _ h => h) (Or.inl ⟨by rfl, ?_⟩) hS ?_); rotate_left; focus (intro w' hSw; obtain ⟨q1, q2, q3, q4, q5⟩ := hSw; go_simp; (try with_reducible rfl)); (try simp only [Act.put, List.setIfInBounds_toArray, List.set_cons_zero, List.set_cons_succ])
      (refine wpAnyH_take (i := 8) (v := ?_) rfl (by kernel_rfl) (by kernel_rfl) (by kernel_rfl) (fun _ _ _ h => h) (Or.inl ⟨by rfl, ?_⟩) hS ?_); rotate_left; focus (intro w' hSw; obtain ⟨q1, q2, q3, q4, q5⟩ := hSw; go_simp; (try with_reducible rfl)); (try simp only [Act.put, List.setIfInBounds_toArray, List.set_cons_zero, List.set_cons_succ])
      (refine wpAnyH_take (i := 9) (v := ?_) rfl (by kernel_rfl) (by kernel_rfl) (by kernel_rfl) (fun _ _ _ h => h) (Or.inl ⟨by rfl, ?_⟩) hS ?_); rotate_left; focus (intro w' hSw; obtain ⟨q1, q2, q3, q4, q5⟩ := hSw; go_simp; (try with_reducible rfl)); (try simp only [Act.put, List.setIfInBounds_toArray, List.set_cons_zero, List.set_cons_succ])
      (refine wpAnyH_take (i := 10) (v := ?_) rfl (by kernel_rfl) (by kernel_rfl) (by kernel_rfl) (fun _ _ _ h => h) (Or.inl ⟨by rfl, ?_⟩) hS ?_); rotate_left; focus (intro w' hSw; obtain ⟨q1, q2, q3, q4, q5⟩ := hSw; go_simp; (try with_reducible rfl)); (try simp only [Act.put, List.setIfInBounds_toArray, List.set_cons_zero, List.set_cons_succ])
      (refine wpAnyH_take (i := 11) (v := ?_) rfl (by kernel_rfl) (by kernel_rfl) (by kernel_rfl) (fun _ _ _ h => h) (Or.inl ⟨by rfl, ?_⟩) hS ?_); rotate_left; focus (intro w' hSw; obtain ⟨q1, q2, q3, q4, q5⟩ := hSw; go_simp; (try with_reducible rfl)); (try simp only [Act.put, List.setIfInBounds_toArray, List.set_cons_zero, List.set_cons_succ])
      (refine wpAnyH_take (i := 12) (v := ?_) rfl (by kernel_rfl) (by kernel_rfl) (by kernel_rfl) (fun _ _ _ h => h) (Or.inl ⟨by rfl, ?_⟩) hS ?_); rotate_left; focus (intro w' hSw; obtain ⟨q1, q2, q3, q4, q5⟩ := hSw; go_simp; (try with_reducible rfl)); (try simp only [Act.put, List.setIfInBounds_toArray, List.set_cons_zero, List.set_cons_succ])
      (refine wpAnyH_take (i := 13) (v := ?_) rfl (by kernel_rfl) (by kernel_rfl) (by kernel_rfl) (fun _ _ _ h => h) (Or.inl ⟨by rfl, ?_⟩) hS ?_); rotate_left; focus (intro w' hSw; obtain ⟨q1, q2, q3, q4, q5⟩ := hSw; go_simp; (try with_reducible rfl)); (try simp only [Act.put, List.setIfInBounds_toArray, List.set_cons_zero, List.set_cons_succ])
      (refine wpAnyH_take (i := 14) (v := ?_) rfl (by kernel_rfl) (by kernel_rfl) (by kernel_rfl) (fun _ _ _ h => h) (Or.inl ⟨by rfl, ?_⟩) hS ?_); rotate_left; focus (intro w' hSw; obtain ⟨q1, q2, q3, q4, q5⟩ := hSw; go_simp; (try with_reducible rfl)); (try simp only [Act.put, List.setIfInBounds_toArray, List.set_cons_zero, List.set_cons_succ])
      (refine wpAnyH_take (i := 15) (v := ?_) rfl (by kernel_rfl) (by kernel_rfl) (by kernel_rfl) (fun _ _ _ h => h) (Or.inl ⟨by rfl, ?_⟩) hS ?_); rotate_left; focus (intro w' hSw; obtain ⟨q1, q2, q3, q4, q5⟩ := hSw; go_simp; (try with_reducible rfl)); (try simp only [Act.put, List.setIfInBounds_toArray, List.set_cons_zero, List.set_cons_succ])
      (refine wpAnyH_take (i := 16) (v := ?_) rfl (by kernel_rfl) (by kernel_rfl) (by kernel_rfl) (fun _ _ _ h => h) (Or.inl ⟨by rfl, ?_⟩) hS ?_); rotate_left; focus (intro w' hSw; obtain ⟨q1, q2, q3, q4, q5⟩ := hSw; go_simp; (try with_reducible rfl)); (try simp only [Act.put, List.setIfInBounds_toArray, List.set_cons_zero, List.set_cons_succ])
      (refine wpAnyH_take (i := 17) (v := ?_) rfl (by kernel_rfl) (by kernel_rfl) (by kernel_rfl) (fun _ _ _ h => h) (Or.inl ⟨by rfl, ?_⟩) hS ?_); rotate_left; focus (intro w' hSw; obtain ⟨q1, q2, q3, q4, q5⟩ := hSw; go_simp; (try with_reducible rfl)); (try simp only [Act.put, List.setIfInBounds_toArray, List.set_cons_zero, List.set_cons_succ])
      (refine wpAnyH_take (i := 18) (v := ?_) rfl (by kernel_rfl) (by kernel_rfl) (by kernel_rfl) (fun _ _ _ h => h) (Or.inl ⟨by rfl, ?_⟩) hS ?_); rotate_left; focus (intro w' hSw; obtain ⟨q1, q2, q3, q4, q5⟩ := hSw; go_simp; (try with_reducible rfl)); (try simp only [Act.put, List.setIfInBounds_toArray, List.set_cons_zero, List.set_cons_succ])
      (refine wpAnyH_take (i := 19) (v := ?_) rfl (by kernel_rfl) (by kernel_rfl) (by kernel_rfl) (fun _ _ _ h => h) (Or.inl ⟨by rfl, ?_⟩) hS ?_); rotate_left; focus (intro w' hSw; obtain ⟨q1, q2, q3, q4, q5⟩ := hSw; go_simp; (try with_reducible rfl)); (try simp only [Act.put, List.setIfInBounds_toArray, List.set_cons_zero, List.set_cons_succ])
      (refine wpAnyH_take (i := 20) (v := ?_) rfl (by kernel_rfl) (by kernel_rfl) (by kernel_rfl) (fun _ _ _ h => h) (Or.inl ⟨by rfl, ?_⟩) hS ?_); rotate_left; focus (intro w' hSw; obtain ⟨q1, q2, q3, q4, q5⟩ := hSw; go_simp; (try with_reducible rfl)); (try simp only [Act.put, List.setIfInBounds_toArray, List.set_cons_zero, List.set_cons_succ])
      (refine wpAnyH_take (i := 21) (v := ?_) rfl (by kernel_rfl) (by kernel_rfl) (by kernel_rfl) (fun _ _ _ h => h) (Or.inl ⟨by rfl, ?_⟩) hS ?_); rotate_left; focus (intro w' hSw; obtain ⟨q1, q2, q3, q4, q5⟩ := hSw; go_simp; (try with_reducible rfl)); (try simp only [Act.put, List.setIfInBounds_toArray, List.set_cons_zero, List.set_cons_succ])
      (refine wpAnyH_take (i := 22) (v := ?_) rfl (by kernel_rfl) (by kernel_rfl) (by kernel_rfl) (fun _ _ _ h => h) (Or.inl ⟨by rfl, ?_⟩) hS ?_); rotate_left; focus (intro w' hSw; obtain ⟨q1, q2, q3, q4, q5⟩ := hSw; go_simp; (try with_reducible rfl)); (try simp only [Act.put, List.setIfInBounds_toArray, List.set_cons_zero, List.set_cons_succ])
      (refine wpAnyH_take (i := 23) (v := ?_) rfl (by kernel_rfl) (by kernel_rfl) (by kernel_rfl) (fun _ _ _ h => h) (Or.inl ⟨by rfl, ?_⟩) hS ?_); rotate_left; focus (intro w' hSw; obtain ⟨q1, q2, q3, q4, q5⟩ := hSw; go_simp; (try with_reducible rfl)); (try simp only [Act.put, List.setIfInBounds_toArray, List.set_cons_zero, List.set_cons_succ])
      refine wpAnyH_ready (rs := [24]) (by kernel_rfl) (by simp) ?_
      refine AllReadyH.cons rfl (fun K hK => ?_) AllReadyH.nil
      go_simp
      refine hK.out _ _ hS (fun hS2 => ?_)
      clear hK K
      refine wpAnyH_done (by kernel_rfl) ?_ _
      have hU5 := g1.drew
      have hg5 : ({ packN s c bl p l en i with row := setL (packN s c bl p l en i).row (en i) (seg (packN s c bl p l en i).row (p i) (l i)) } : Sto).get c[i] = some (bl i) := hg
      have fB1 : Boxed W'.drew W.heap.size 40 (.pointer (some ⟨sb, 0, none⟩)) := g3
      have fB2 : Boxed W'.drew (W.heap.size + 1) 3 (.int .i64 (en i : Nat)) := g4
      have fB3 : Boxed W'.drew (W.heap.size + 2) 40 (.pointer (some ⟨sb, 0, none⟩)) := g5
      have fL : W'.drew.heap[L]? = W'.heap[L]? := rfl
      have fD : W'.drew.heap[W2.heap.size]? = W'.heap[W2.heap.size]? := rfl
      have fN : W'.drew.heap[W.heap.size + 2 + 1]? = W'.heap[W.heap.size + 2 + 1]? := rfl
      have zz : W'.drew.heap.size = W'.heap.size := rfl
      clear hcopy hS cs ce c0 hS2 d1 d2 hen0 hp0 hl0 hr0 hvr
      have fbl := f.blk
      generalize World.drew W' = W5 at *
      obtain ⟨_, d1, d2, _, _⟩ := bcells hL5 hg5 pt
      have t1 := hL5.bthaw hg5 pt 1
      rw [k.len i hi] at d2
      have ce := fB2.cell
      have hBe : B ≠ W.heap.size + 1 ∧ B ≠ W.heap.size ∧ B ≠ W.heap.size + 2 ∧ B < W.heap.size := by
        rcases pt with ⟨_, rfl, _⟩ | ⟨_, e, _⟩
        · omega
        · have := lb B e; omega
      have hL6 := hL5.bstore (c := { bl i with pos := (en i : Nat) }) hg5 pt 1 (by omega) (.int .i64 (en i : Nat)) rfl
      have hU6 := hU5.setCell (p := ⟨B, O + 1, none⟩) (.inl (hO.pt pt)) (.int .i64 (en i : Nat))
      have e1 : (W5.setCell ⟨B, O + 1, none⟩ (.int .i64 (en i : Nat))).cell? ⟨B, O + 1, none⟩ = some (.int .i64 (en i : Nat)) := World.cell?_setCell_same' _ _ _ (by rw [d1]; rfl)
      have e2 : (W5.setCell ⟨B, O + 1, none⟩ (.int .i64 (en i : Nat))).cell? ⟨B, O + 2, none⟩ = some (.int .i64 (l i : Nat)) := by
        have hg6 := get_set_same hg5 ({ bl i with pos := (en i : Nat) } : Blk)
        obtain ⟨_, _, x2, _, _⟩ := bcells hL6 hg6 pt
        rw [x2]; exact congrArg (fun z => some (Value.int .i64 z)) (k.len i hi)
      have fb := fbl _ _ (k.get i _ hn)
      rw [k.pos i hi, k.len i hi] at fb
      have cend := end_c (W5.setCell ⟨B, O + 1, none⟩ (.int .i64 (en i : Nat))) B O (en i) (l i) e1 e2 (by omega) (by omega) (by omega) (by omega)
      have hen : (en i : Int) + up8 (l i) = (en (i + 1) : Nat) := by rw [k.up i hi, k.en1 i hi]; omega
      rw [hen] at cend
      have hf6 : ∀ x : Nat, x ≠ B → (W5.setCell ⟨B, O + 1, none⟩ (.int .i64 (en i : Nat))).heap[x]? = W5.heap[x]? := fun x hx => Below.heap_setCell _ _ _ _ hx
      have F := fun m => pack_fin (W' := W') (en (i + 1)) c[i] L W2.heap.size h hL6 hU6 hO.sb (box_set fB1 (by omega)) (box_set fB2 (by omega)) (box_set fB3 (by omega)) ((hf6 L (by omega)).trans fL) ((hf6 _ (by omega)).trans fD) ((hf6 _ (by omega)).trans fN) (by omega) (by omega) m
      gi_wp2_with ((refine ⟨trivial, ?_⟩); gi_at_call 257; (refine (CallsIn.inRound L (callsIn_wide.2 cend)).mono ?_); rintro e W7 ⟨rfl, m7, hw⟩; (have q := F m7); (rw [← hw] at q); (obtain ⟨q1, q2, q3, q4, q5, q6⟩ := q); clear hw F)
      obtain ⟨r1, r2, r3, r4, r5, r6⟩ := q6.out _ rfl
      exact ⟨r1, r2, by rw [packN_succ hn]; exact r3, r4, r5, r6⟩
  case done =>
    rintro W' ⟨g1, g2, g3, g4, g5⟩ hD
    dsimp only
    have hrl : (packN s c bl p l en c.length).row.length = s.row.length := packN_row c.length
    have hel := k.end_le
    have fr := f.row
    have cs := g3.cell
    have ce := g4.cell
    have c0 := g2.cell 0
    have th0 := g2.thaw 0
    have ltD := (Array.getElem?_eq_some_iff.1 hD).1
    obtain ⟨ao, cap, hvr, hao⟩ : ∃ ao cap, vr = .slice ao s.row.length cap ∧ ((ao = none ∧ s.row.length = 0 ∧ cap = 0) ∨ (∃ g, ao = some ⟨g, 0, none⟩ ∧ s.row.length ≤ cap)) := by
      rcases g2.row.2 with ⟨e, e'⟩ | ⟨g, cap, cur, e, _, _, hc, _⟩
      · rw [hrl] at e'
        exact ⟨none, 0, by rw [e, e'], .inl ⟨rfl, e', rfl⟩⟩
      · rw [hrl] at e hc
        exact ⟨_, cap, e, .inr ⟨g, rfl, hc⟩⟩
    simp [Sto.obj, hvr] at c0
    obtain ⟨E, hE⟩ : ∃ E, E = en c.length := ⟨_, rfl⟩
    rw [← hE] at ce hel
    have hcut : (if cap = 0 then ao else Option.map (fun x => x.add 0) ao) = ao := by
      rcases hao with ⟨rfl, _, rfl⟩ | ⟨g, rfl, _⟩
      · rfl
      · split
        · rfl
        · simp [Addr.add]
    have hcap : (E : Int) ≤ cap := by
      rcases hao with ⟨_, h1, rfl⟩ | ⟨g, _, h1⟩ <;> omega
    have hE0 : (0 : Int) ≤ E := by omega
    have hown := own_take g2.row (o := ao) (cap := cap) (by rw [hrl]; exact hvr) (m := E) (by rw [hrl]; exact hel)
    have hLf : ∀ Wx, Lay Wx sb vr vb vf (packN s c bl p l en c.length) → Lay ((Wx.setCell ⟨sb, 0, none⟩ (.slice ao E cap)).setCell ⟨sb, 10, none⟩ (.bool false)) sb (.slice ao E cap) vb vf (packedSto s c bl p l en) := by
      intro Wx hx
      have hown := own_take hx.row (o := ao) (cap := cap) (by rw [hrl]; exact hvr) (m := E) (by rw [hrl]; exact hel)
      rw [← List.map_take] at hown
      have hlen : ((packN s c bl p l en c.length).row.take E).length = E := by rw [List.length_take, hrl]; omega
      have h1 : Lay (Wx.setCell ⟨sb, 0, none⟩ (.slice ao E cap)) sb (.slice ao E cap) vb vf { packN s c bl p l en c.length with row := (packN s c bl p l en c.length).row.take E } := by
        refine hx.regrow_row (v2 := .slice ao E cap) ⟨rfl, rfl, rfl, Nat.le_refl _, fun _ _ _ => rfl⟩ ?_
        rw [hlen]; exact hown
      have h2 := h1.store (s' := packedSto s c bl p l en) 10 (.bool false) (by simp [Sto.obj, packedSto]) (by rw [packedSto, ← hE]) rfl rfl
      exact h2
    have HO : Own S sb (.slice ao E cap) vb vf := ⟨hO.sb, fun k e => hO.row k (by rw [hvr]; cases ao <;> exact e), hO.blk, hO.free⟩
    have HLf := (show Hid _ from hLf)
    have HO' := (show Hid _ from HO)
    have k10 : ∀ v, (W'.setCell ⟨sb, 0, none⟩ v).drew.frozen? ⟨sb, 10, none⟩ = false := fun v => by
      show (W'.setCell ⟨sb, 0, none⟩ v).frozen? ⟨sb, 10, none⟩ = false
      rw [World.frozen?_setCell]; exact g2.thaw 10
    have c10 : ∀ v, (W'.setCell ⟨sb, 0, none⟩ v).drew.cell? ⟨sb, 10, none⟩ = some (.bool (packN s c bl p l en c.length).sought) := fun v => by
      show (W'.setCell ⟨sb, 0, none⟩ v).cell? ⟨sb, 10, none⟩ = _
      rw [World.cell?_setCell_other _ _ _ _ (by simp)]; exact g2.cell 10
    have cs' : ∀ v, (W'.setCell ⟨sb, 0, none⟩ v).drew.cell? ⟨W.heap.size, 0, none⟩ = some (.pointer (some ⟨sb, 0, none⟩)) := fun v => by
      show (W'.setCell ⟨sb, 0, none⟩ v).cell? ⟨W.heap.size, 0, none⟩ = _
      rw [World.cell?_setCell_far _ _ _ _ (by show sb ≠ W.heap.size; omega)]; exact cs
    clear hLf HO hE hown
    go_wp2
    refine wp_region_noPanic ?_
    go_region
    refine NoPanic.normal ?_
    go_wp2
    refine ⟨by simp, .inl ⟨_, _, rfl, run_takeDeferred (pack_def hD (by omega)), ?_⟩⟩
    refine ⟨_, results_none rfl _ _ _, rfl, ?_, _, ?_, HO'⟩
    · exact ((((g1.setCell (p := ⟨sb, 0, none⟩) (.inl hO.sb) _).drew).setCell (p := ⟨sb, 10, none⟩) (.inl hO.sb) _)).putObj (.inr ⟨by omega, by simpa [World.setCell, World.drew] using ltD⟩) _
    · have hl := HLf.out W' g2
      have hne : ∀ x : Nat, x < W.heap.size → (((W'.setCell ⟨sb, 0, none⟩ (.slice ao E cap)).drew.setCell ⟨sb, 10, none⟩ (.bool false)).putObj W2.heap.size (.deferred none)).heap[x]? = ((W'.setCell ⟨sb, 0, none⟩ (.slice ao E cap)).setCell ⟨sb, 10, none⟩ (.bool false)).heap[x]? := fun x hx => by
        rw [World.putObj_heap_other (by omega)]; rfl
      refine hl.kept (hne _ lsb) (fun k e => hne _ (lr k (by rw [hvr]; cases ao <;> exact e))) (fun k e => hne _ (lb k e)) (fun k e => hne _ (lf k e))
  case stop => rintro c W' hF; exact hF.elim
end Go.Proofs.YtdncdddaobemaaaGreatDoor.W
/- Package store: one going over the ring by seek. -/
namespace Go.Proofs.YtdncdddaobemaaaGreatDoor.W
open Go.ChangeShapes Go.WideShapes Go.RowKit Go.Shelf
set_option linter.unusedVariables false
attribute [local go_sem] Oper.semAt_some

def cIn : Code → Code
  | .scope c => c
  | .loop c => c
  | .block _ c => c
  | c => c
def cFst : Code → Code
  | .seq x _ => x
  | c => c
def cSnd : Code → Code
  | .seq _ y => y
  | c => c
/-- the room behind a block of a chain -/
def roomAt (s : Sto) (xs : List Nat) (i : Nat) : Int := roomOf s (s.getD (xs.getD i 0)) (xs[i + 1]?.getD 0) (s.getD (xs[i + 1]?.getD 0))
set_option maxHeartbeats 2000000 in
theorem seek_pass {W W1 : World} {sb : Nat} {vr vr0 vb vf : Value} {s s0 : Sto} {S : Nat → Prop} (h0 : Lay W sb vr0 vb vf s0) (f : Fit s) (hU1 : Upd S W W1) (hL1 : Lay W1 sb vr vb vf s) (hO : S sb) (size : Int) (hB1 : Boxed W1 W.heap.size 40 (.pointer (some ⟨sb, 0, none⟩))) (hB2 : Boxed W1 (W.heap.size + 1) 3 (.int .i64 size))
    (xs : List Nat) (hne : 0 < xs.length) (hd : xs.Nodup) (hz : ∀ i (hi : i + 1 < xs.length), xs[i + 1] ≠ 0) (hh : s.hand = (xs[0] : Nat))
    (hch : ∀ i (hi : i < xs.length), ∃ b, s.get xs[i] = some b ∧ b.next = (xs[i + 1]?.getD 0 : Nat)) {Y : Code} (hY : cFst (cIn (cIn (cIn (cFst (cSnd (cIn (cSnd (Tryz.f256.body.getD .skip)))))))) = Y) {Q : Exit → Act → World → Prop} (ds : List Deferred) (u4 u5 u6 u7 u8 u9 u10 u11 u12 u13 u14 u15 u16 u17 u18 u19 u20 u21 u22 u23 u24 u25 u26 u27 u28 u29 u30 u31 u32 u33 u34 u35 u36 u37 : Value)
    (hdone : ∀ W3 D, (∀ i, i < xs.length → roomAt s xs i < size) → Upd S W W3 → Lay W3 sb vr vb vf s → Boxed W3 W.heap.size 40 (.pointer (some ⟨sb, 0, none⟩)) → Boxed W3 (W.heap.size + 1) 3 (.int .i64 size) → W1.heap.size ≤ D → W3.heap[D]? = some (.deferred (some [])) → (∀ d, W.heap.size ≤ d → d < W1.heap.size → W3.heap[d]? = W1.heap[d]?) → Q .normal { tmps := #[.pointer (some ⟨sb, 0, none⟩), .int .i64 size, .pointer (some ⟨W.heap.size, 0, none⟩), .pointer (some ⟨W.heap.size + 1, 0, none⟩), u4, u5, .pointer (some ⟨sb, 0, none⟩), .pointer (some ⟨sb, 0, none⟩), .pointer (some ⟨sb, 0, none⟩), .pointer (some ⟨sb, 9, none⟩), .int .i64 (xs[0] : Nat), .func (.func 296) #[] #[.pointer (some ⟨W1.heap.size + 1, 0, none⟩), .pointer (some ⟨W1.heap.size, 0, none⟩)], u12, u13, u14, u15, u16, u17, u18, u19, u20, u21, u22, u23, u24, u25, u26, u27, u28, u29, u30, u31, u32, u33, u34, u35, u36, u37], defers := { target := .collected D, args := #[] } :: ds } W3)
    (hstop : ∀ W3 D i (hi : i < xs.length), size ≤ roomAt s xs i → Upd S W W3 → Lay W3 sb vr vb vf { s with hand := (xs[i] : Nat) } → Boxed W3 W.heap.size 40 (.pointer (some ⟨sb, 0, none⟩)) → W1.heap.size ≤ D → W3.heap[D]? = some (.deferred (some [])) → (∀ d, W.heap.size ≤ d → d < W1.heap.size → W3.heap[d]? = W1.heap[d]?) → Q (.exit 0) { tmps := #[.pointer (some ⟨sb, 0, none⟩), .int .i64 size, .pointer (some ⟨W.heap.size, 0, none⟩), .pointer (some ⟨W.heap.size + 1, 0, none⟩), u4, u5, .pointer (some ⟨sb, 0, none⟩), .pointer (some ⟨sb, 0, none⟩), .pointer (some ⟨sb, 0, none⟩), .pointer (some ⟨sb, 9, none⟩), .int .i64 (xs[0] : Nat), .func (.func 296) #[] #[.pointer (some ⟨W1.heap.size + 1, 0, none⟩), .pointer (some ⟨W1.heap.size, 0, none⟩)], u12, u13, u14, u15, u16, u17, u18, u19, u20, u21, u22, u23, u24, u25, u26, u27, u28, u29, u30, u31, u32, u33, u34, u35, u36, u37], defers := { target := .collected D, args := #[] } :: ds } W3) :
    Y.wp Tryz.prog Q { tmps := #[.pointer (some ⟨sb, 0, none⟩), .int .i64 size, .pointer (some ⟨W.heap.size, 0, none⟩), .pointer (some ⟨W.heap.size + 1, 0, none⟩), u4, u5, u6, u7, u8, u9, u10, u11, u12, u13, u14, u15, u16, u17, u18, u19, u20, u21, u22, u23, u24, u25, u26, u27, u28, u29, u30, u31, u32, u33, u34, u35, u36, u37], defers := ds } W1 := by
  obtain ⟨lsb, lr, lb, lf⟩ := lay_lt h0
  have s1 := hU1.size
  have c9 := hL1.cell 9
  simp [Sto.obj, hh] at c9
  have cs := hB1.cell
  have lt2 := hB2.lt
  dsimp only [Tryz.f256, cIn, cFst, cSnd, Option.getD_some] at hY
  subst hY
  go_wp2
  go_region_held3 (fun w' => w'.cell? ⟨sb, 9, none⟩ = some (.int .i64 (xs[0] : Nat)) ∧ w'.cell? ⟨W.heap.size, 0, none⟩ = some (.pointer (some ⟨sb, 0, none⟩))) (first | exact ⟨c9, cs⟩ | go_keep) (first | (go_at_call 285; (refine (from_c _ sb xs[0]).mono ?_); rintro e w' ⟨rfl, hw⟩; (have hw' := hw.symm); subst hw'; clear hw))
  go_wp2
  have hU2 := ((hU1.alloc (.cells #[.pointer (some ⟨sb, 0, none⟩)] 40)).alloc (.cells #[.int .i64 (xs[0] : Nat)] 3)).drew
  have hL2 := ((hL1.alloc (.cells #[.pointer (some ⟨sb, 0, none⟩)] 40)).alloc (.cells #[.int .i64 (xs[0] : Nat)] 3)).drew
  have hB4 : Boxed ((W1.alloc (.cells #[.pointer (some ⟨sb, 0, none⟩)] 40)).alloc (.cells #[.int .i64 (xs[0] : Nat)] 3)).drew (W1.heap.size + 1) 3 (.int .i64 (xs[0] : Nat)) := by
    have := Boxed.new (W1.alloc (.cells #[.pointer (some ⟨sb, 0, none⟩)] 40)) 3 (.int .i64 (xs[0] : Nat))
    rw [World.size_alloc] at this
    exact this
  have hB3 : Boxed ((W1.alloc (.cells #[.pointer (some ⟨sb, 0, none⟩)] 40)).alloc (.cells #[.int .i64 (xs[0] : Nat)] 3)).drew W1.heap.size 40 (.pointer (some ⟨sb, 0, none⟩)) := (Boxed.new W1 40 (.pointer (some ⟨sb, 0, none⟩))).alloc (.cells #[.int .i64 (xs[0] : Nat)] 3)
  have hB1' : Boxed ((W1.alloc (.cells #[.pointer (some ⟨sb, 0, none⟩)] 40)).alloc (.cells #[.int .i64 (xs[0] : Nat)] 3)).drew W.heap.size 40 (.pointer (some ⟨sb, 0, none⟩)) := (hB1.alloc _).alloc _
  have hB2' : Boxed ((W1.alloc (.cells #[.pointer (some ⟨sb, 0, none⟩)] 40)).alloc (.cells #[.int .i64 (xs[0] : Nat)] 3)).drew (W.heap.size + 1) 3 (.int .i64 size) := (hB2.alloc _).alloc _
  have hz2 : ((W1.alloc (.cells #[.pointer (some ⟨sb, 0, none⟩)] 40)).alloc (.cells #[.int .i64 (xs[0] : Nat)] 3)).drew.heap.size = W1.heap.size + 2 := by
    show ((W1.alloc (.cells #[.pointer (some ⟨sb, 0, none⟩)] 40)).alloc (.cells #[.int .i64 (xs[0] : Nat)] 3)).heap.size = _
    simp
  have hold : ∀ d, W.heap.size ≤ d → d < W1.heap.size → ((W1.alloc (.cells #[.pointer (some ⟨sb, 0, none⟩)] 40)).alloc (.cells #[.int .i64 (xs[0] : Nat)] 3)).drew.heap[d]? = W1.heap[d]? := fun d _ hd => by
    show ((W1.alloc (.cells #[.pointer (some ⟨sb, 0, none⟩)] 40)).alloc (.cells #[.int .i64 (xs[0] : Nat)] 3)).heap[d]? = _
    rw [Below.heap_alloc _ _ _ (by simp; omega), Below.heap_alloc _ _ _ hd]
  clear c9 cs
  generalize World.drew (World.alloc (World.alloc W1 _) _) = W2 at *
  obtain ⟨l0, l1, l2, l3⟩ := lay_lt hL1
  refine ring_law (Bn := W1.heap.size + 1) (Bs := W1.heap.size) (sb := sb) rfl xs hne hd hz hB4
    (fun i W' => W1.heap.size ≤ W'.heap.size ∧ Upd S W W' ∧ Lay W' sb vr vb vf s ∧ Boxed W' W.heap.size 40 (.pointer (some ⟨sb, 0, none⟩)) ∧ Boxed W' (W.heap.size + 1) 3 (.int .i64 size) ∧ Boxed W' W1.heap.size 40 (.pointer (some ⟨sb, 0, none⟩)) ∧ (∀ j, j < i → roomAt s xs j < size) ∧ (∀ d, W.heap.size ≤ d → d < W1.heap.size → W'.heap[d]? = W1.heap[d]?))
    (fun c W' => c = .exit 0 ∧ ∃ i, ∃ hi : i < xs.length, size ≤ roomAt s xs i ∧ W1.heap.size ≤ W'.heap.size ∧ Upd S W W' ∧ Lay W' sb vr vb vf { s with hand := (xs[i] : Nat) } ∧ Boxed W' W.heap.size 40 (.pointer (some ⟨sb, 0, none⟩)) ∧ (∀ d, W.heap.size ≤ d → d < W1.heap.size → W'.heap[d]? = W1.heap[d]?))
    ?hI ?hIx ⟨by omega, hU2, hL2, hB1', hB2', hB3, fun j hj => absurd hj (by omega), hold⟩ ?hread 5 ?assign ?body ?done ?stop
  case hI =>
    rintro i Wa Wb ⟨g0, g1, g2, g3, g4, g5, g6, g7⟩ hu
    exact ⟨Nat.le_trans g0 hu.size, upd_far g1 hu (by omega) (by omega), lay_far hL1 g2 g0 hu (by omega), box_far g3 hu (by omega) (by omega), box_far g4 hu (by omega) (by omega), box_far g5 hu (by omega) (by omega), g6, fun d h1 h2 => (hu.block d (by omega) (by omega)).trans (g7 d h1 h2)⟩
  case hIx =>
    rintro c Wa Wb ⟨rfl, i, hi, hr, g0, g1, g2, g3, g7⟩ hu
    exact ⟨rfl, i, hi, hr, Nat.le_trans g0 hu.size, upd_far g1 hu (by omega) (by omega), lay_far hL1 g2 g0 hu (by omega), box_far g3 hu (by omega) (by omega), fun d h1 h2 => (hu.block d (by omega) (by omega)).trans (g7 d h1 h2)⟩
  case hread =>
    rintro i hi Wa ⟨g0, g1, g2, g3, g4, g5, g6, g7⟩
    obtain ⟨b, hb, hnx⟩ := hch i hi
    obtain ⟨B, O, pt⟩ := g2.pt hb
    obtain ⟨_, _, _, _, d4⟩ := bcells g2 hb pt
    exact ⟨g5.cell, B, O, block_c Wa sb vr vb vf _ g2 _ _ hb f.len B O pt, by rw [d4, hnx]⟩
  case assign =>
    intro L x W' K hK
    gi_wp2
    exact hK
  case body =>
    rintro L i hi W' hLe ⟨g0, g1, g2, g3, g4, g5, g6, g7⟩ hs ⟨r, hr⟩ b4
    simp only [ringAct, List.setIfInBounds_toArray, List.set_cons_succ, List.set_cons_zero]
    obtain ⟨b, hb, hnx⟩ := hch i hi
    obtain ⟨cc, hcc⟩ : ∃ cc, s.get (xs[i + 1]?.getD 0) = some cc := by
      by_cases hl : i + 1 < xs.length
      · obtain ⟨b', hb', _⟩ := hch (i + 1) hl
        exact ⟨b', by rw [List.getElem?_eq_getElem hl]; exact hb'⟩
      · exact ⟨s.head, by rw [List.getElem?_eq_none (by omega)]; rfl⟩
    have hroom : roomAt s xs i = roomOf s b (xs[i + 1]?.getD 0) cc := by
      unfold roomAt
      rw [getD_get (List.getElem?_eq_getElem hi), getD_of hb, getD_of hcc]
    have cr := fun q => room_c (g2.drewN q) f xs[i] (xs[i + 1]?.getD 0) b cc hb hnx hcc
    rw [← hroom] at cr
    have cs := g3.cell
    have cz := g4.cell
    have th := g2.thaw 9
    have c9 := g2.cell 9
    simp [Sto.obj] at c9
    clear b4
    gi_wp2
    refine round_quiet (by kernel_rfl) (by kernel_rfl) (by rintro ⟨a, w, hF⟩; exact hF) (by kernel_rfl) ?_
    repeat (quiet_step ((go_at_call 286; exact Calls.quiet_of (cr _))))
    refine wpQuiet_nil ?_
    rintro _ ⟨nq, rfl⟩
    have hx9 : ∀ v : Value, ∀ x : Nat, x ≠ sb → ((W'.drewN nq).setCell ⟨sb, 9, none⟩ v).heap[x]? = W'.heap[x]? := fun v x hx => by rw [Below.heap_setCell _ _ _ _ hx]; rfl
    by_cases hroom' : size ≤ roomAt s xs i
    · have HR := (show Hid _ from hroom')
      gi_wp2
      refine ⟨⟨hx9 _ _ (by omega), hx9 _ _ (by omega), hx9 _ _ (by omega)⟩, rfl, i, hi, HR.out, ?_, (g1.drewN _).setCell (p := ⟨sb, 9, none⟩) (.inl hO) _, (g2.drewN _).store 9 _ rfl rfl rfl rfl, boxed_set g3 (by omega) _ _, fun d h1 h2 => (hx9 _ d (by omega)).trans (g7 d h1 h2)⟩
      simpa [World.setCell, World.drewN] using g0
    · have hr2 : roomAt s xs i < size := by omega
      have HR := (show Hid _ from hr2)
      gi_wp2
      exact ⟨⟨rfl, rfl, rfl⟩, g0, g1.drewN _, g2.drewN _, g3, g4, g5, fun j hj => by
        by_cases e : j = i
        · rw [e]; exact HR.out
        · exact g6 j (by omega), g7⟩
  case done =>
    rintro W' ⟨g0, g1, g2, g3, g4, g5, g6, g7⟩ hD
    exact hdone W' _ g6 g1 g2 g3 g4 (by omega) hD g7
  case stop =>
    rintro c W' ⟨rfl, i, hi, hr, g0, g1, g2, g3, g7⟩ hD
    refine wp_exit ?_
    exact hstop W' _ i hi hr g1 g2 g3 (by omega) hD g7
end Go.Proofs.YtdncdddaobemaaaGreatDoor.W
/- Package store: seek, whatever the gaps are. -/
namespace Go.Proofs.YtdncdddaobemaaaGreatDoor.W
open Go.ChangeShapes Go.WideShapes Go.RowKit Go.Shelf
set_option linter.unusedVariables false
attribute [local go_sem] Oper.semAt_some

theorem Lay.putDef {W : World} {sb : Nat} {vr vb vf : Value} {s : Sto} (h : Lay W sb vr vb vf s) {D : Nat} {x : Option (List Deferred)} (hD : W.heap[D]? = some (.deferred x)) (o : Obj) : Lay (W.putObj D o) sb vr vb vf s := by
  have key : ∀ {e : TypeId} {size : Nat} {v : Value} {n : Nat} {xs : List Value}, W.ownsRow 0 e size v n xs → ∀ k, v.ownBlock = some k → (W.putObj D o).heap[k]? = W.heap[k]? := by
    intro e size v n xs ho k hk
    rcases ho.2 with ⟨rfl, _⟩ | ⟨g, cap, cur, rfl, _, hg, _⟩
    · simp [Value.ownBlock] at hk
    · simp [Value.ownBlock] at hk
      subst hk
      exact World.putObj_heap_other (by rintro rfl; rw [hg] at hD; cases hD)
  exact h.kept (World.putObj_heap_other (by rintro rfl; have := h.obj; rw [this] at hD; cases hD)) (key h.row) (key h.blk) (key h.free)
theorem seekpost_put {S : Nat → Prop} {W w' : World} {sb : Nat} {vb vf : Value} {n : Nat} {bn : Blk} {G : Sto → Nat → Nat → Nat → Prop} {e : Ending} (h : SeekPost S W sb vb vf n bn G e w') {D : Nat} {x : Option (List Deferred)} (hD : w'.heap[D]? = some (.deferred x)) (hW : W.heap.size ≤ D) (o : Obj) : SeekPost S W sb vb vf n bn G e (w'.putObj D o) := by
  obtain ⟨s1, vr1, bk, nx, p, bb, bx, h1, h2, h3, h4, rest⟩ := h
  have lt := (Array.getElem?_eq_some_iff.1 hD).1
  exact ⟨s1, vr1, bk, nx, p, bb, bx, h1, h2.putObj (.inr ⟨hW, lt⟩) o, h3.putDef hD o, h4.on (by simp), rest⟩
theorem Pk.congr {s s' : Sto} {c : List Nat} {bl : Nat → Blk} {p l u en : Nat → Nat} (k : Pk s c bl p l u en) (hg : ∀ n, s'.get n = s.get n) (hr : s'.row = s.row) : Pk s' c bl p l u en :=
  ⟨k.ne, k.zero, k.nodup, fun i n e => by rw [hg]; exact k.get i n e, k.next, k.pos, k.len, k.up, k.en0, k.en1, k.le, fun i hi => by rw [hr]; exact k.stop i hi, k.first, k.rest⟩
/-- what is left as it was but for the hand, and whether gaps have been sought -/
def Sto.turn (s : Sto) (h : Int) (b : Bool) : Sto := { s with hand := h, sought := b }
theorem fit_turn {s : Sto} (f : Fit s) (h : Int) (b : Bool) : Fit (s.turn h b) := ⟨f.len, f.row, f.byte, f.used0, f.used1, f.blk⟩
theorem packN_other {s : Sto} {c : List Nat} {bl : Nat → Blk} {p l en : Nat → Nat} (i n : Nat) (hi : i ≤ c.length) (hn : n ∉ c) : (packN s c bl p l en i).get n = s.get n := by
  induction i with
  | zero => rfl
  | succ i ih =>
    have e : c[i]? = some c[i] := List.getElem?_eq_getElem (by omega)
    have hne : n ≠ c.getD i 0 := by
      rw [getD_get e]
      rintro rfl
      exact hn (List.getElem_mem _)
    have this : (packN s c bl p l en (i + 1)).get n = ((packN s c bl p l en i).set (c.getD i 0) { bl i with pos := en i }).get n := rfl
    rw [this, get_set_ne _ hne]
    exact ih (by omega)
theorem mem_setL (row : List Nat) (o : Nat) (vs : List Nat) (x : Nat) (h : x ∈ setL row o vs) : x ∈ row ∨ x ∈ vs := by
  induction vs generalizing row o with
  | nil => exact .inl h
  | cons v r ih =>
    rcases ih _ _ h with g | g
    · rcases List.mem_or_eq_of_mem_set g with g | g
      · exact .inl g
      · exact .inr (by rw [g]; simp)
    · exact .inr (by simp [g])
theorem packN_byte {s : Sto} {c : List Nat} {bl : Nat → Blk} {p l en : Nat → Nat} (i : Nat) (h : ∀ x ∈ s.row, x < 256) : ∀ x ∈ (packN s c bl p l en i).row, x < 256 := by
  induction i with
  | zero => exact h
  | succ i ih =>
    intro x hx
    rcases mem_setL _ _ _ _ hx with g | g
    · exact ih x g
    · exact ih x (List.mem_of_mem_drop (List.mem_of_mem_take g))
theorem fit_packed {s : Sto} {c : List Nat} {bl : Nat → Blk} {p l u en : Nat → Nat} (f : Fit s) (k : Pk s c bl p l u en) : Fit (packedSto s c bl p l en) := by
  have hr := packN_rest (s := s) (c := c) (bl := bl) (p := p) (l := l) (en := en) c.length
  refine ⟨?_, ?_, ?_, ?_, ?_, ?_⟩
  · show (packN s c bl p l en c.length).blks.length ≤ _
    rw [packN_blks]; exact f.len
  · show ((packN s c bl p l en c.length).row.take (en c.length)).length ≤ _
    have := packN_row (s := s) (c := c) (bl := bl) (p := p) (l := l) (en := en) c.length
    have := f.row
    rw [List.length_take]; omega
  · intro x hx
    exact packN_byte c.length f.byte x (List.mem_of_mem_take hx)
  · show 0 ≤ (packN s c bl p l en c.length).used
    rw [hr.2.1]; exact f.used0
  · show (packN s c bl p l en c.length).used ≤ _
    rw [hr.2.1]; exact f.used1
  · intro n b hb
    have hb' : (packN s c bl p l en c.length).get n = some b := hb
    by_cases hn : n ∈ c
    · obtain ⟨j, hj, e⟩ := List.mem_iff_getElem.1 hn
      have hc : c[j]? = some n := by rw [List.getElem?_eq_getElem hj, e]
      rw [packN_earlier k c.length j n hj (Nat.le_refl _) hc] at hb'
      cases hb'
      have fb := f.blk n (bl j) (k.get j n hc)
      have := k.le j hj
      rw [k.pos j hj] at fb
      exact ⟨by show (0 : Int) ≤ (en j : Nat); omega, by show ((en j : Nat) : Int) ≤ _; omega, fb.2.2.1, fb.2.2.2⟩
    · rw [packN_other c.length n (Nat.le_refl _) hn] at hb'
      exact f.blk n b hb'
theorem packN_hand {s : Sto} {c : List Nat} {bl : Nat → Blk} {p l en : Nat → Nat} {n : Nat} (h : c[c.length - 1]? = some n) : (packN s c bl p l en c.length).hand = (n : Nat) := by
  have hlt := (List.getElem?_eq_some_iff.1 h).1
  obtain ⟨m, hm⟩ : ∃ m, c.length = m + 1 := ⟨c.length - 1, by omega⟩
  rw [hm, Nat.add_sub_cancel] at h
  have e : packN s c bl p l en c.length = packN s c bl p l en (m + 1) := by rw [hm]
  rw [e]
  show ((c.getD m 0 : Nat) : Int) = _
  rw [getD_get h]
/-- how seek leaves a store: behind bk there is room -/
def SeekG (s : Sto) (c : List Nat) (bl : Nat → Blk) (p l u en : Nat → Nat) (size : Int) (s1 : Sto) (bk nx q : Nat) : Prop :=
  (∃ j b, c[j]? = some bk ∧ s1 = s.turn bk b ∧ nx = c[j + 1]?.getD 0 ∧ q = p j + u j ∧ size ≤ roomAt s c j) ∨
  (∃ h b, s1 = packedSto (s.turn h b) c bl p l en ∧ c[c.length - 1]? = some bk ∧ nx = 0 ∧ q = en c.length)
section
variable {W : World} {sb : Nat} {vr vb vf : Value} {s : Sto} {c : List Nat} {bl : Nat → Blk} {p l u en : Nat → Nat}
theorem Pk.stopOf (k : Pk s c bl p l u en) {i : Nat} (hi : i < c.length) : (bl i).stop = (p i + u i : Nat) := by
  unfold Blk.stop
  rw [k.pos i hi, k.len i hi, k.up i hi]; omega
theorem Pk.nextGet (k : Pk s c bl p l u en) (i : Nat) : ∃ b, s.get (c[i + 1]?.getD 0) = some b := by
  cases e : c[i + 1]? with
  | none => exact ⟨s.head, rfl⟩
  | some n => exact ⟨_, k.get _ n e⟩
/-- a gap is found where the store lies as it lay -/
theorem seek_hit {W3 : World} (k : Pk s c bl p l u en) (f : Fit s) {n : Nat} {bn : Blk} (hn : s.get n = some bn) (hnc : n ∉ c) {S : Nat → Prop} (hO : Own (Nx S W W3) sb vr vb vf) (hU : Upd S W W3) (size : Int) (j : Nat) (hj : j < c.length) (b : Bool) (hL : Lay W3 sb vr vb vf (s.turn (c[j] : Nat) b)) (hr : size ≤ roomAt s c j) :
    SeekPost S W sb vb vf n bn (SeekG s c bl p l u en size) (.returned (.int .i64 (c[j] : Nat))) W3 := by
  have hc : c[j]? = some c[j] := List.getElem?_eq_getElem hj
  obtain ⟨bx, hbx⟩ := k.nextGet j
  have h0 : (0 : Nat) ∈ c := List.mem_of_getElem? k.zero
  refine ⟨s.turn (c[j] : Nat) b, vr, c[j], c[j + 1]?.getD 0, p j + u j, bl j, bx, rfl, hU, hL, hO, fit_turn f _ _, hn, k.get j _ hc, k.next j hj, hbx, ?_, ?_, k.stopOf hj, .inl ⟨j, b, hc, rfl, rfl, rfl, hr⟩⟩
  · rintro rfl; exact hnc (List.getElem_mem _)
  · rintro e
    cases e2 : c[j + 1]? with
    | none => rw [e2] at e; exact hnc (by rw [← e]; exact h0)
    | some m => rw [e2] at e; exact hnc (by rw [← e]; exact List.mem_of_getElem? e2)
/-- a gap is found behind the last block, blocks having been moved together -/
theorem seek_hit_packed {W3 : World} {h : Int} {b : Bool} (k : Pk s c bl p l u en) (f : Fit s) {n : Nat} {bn : Blk} (hn : s.get n = some bn) (hnc : n ∉ c) {S : Nat → Prop} (hO : Own (Nx S W W3) sb vr vb vf) (hU : Upd S W W3) (size : Int) (z : Nat) (hz : c[c.length - 1]? = some z) (hL : Lay W3 sb vr vb vf (packedSto (s.turn h b) c bl p l en)) :
    SeekPost S W sb vb vf n bn (SeekG s c bl p l u en size) (.returned (.int .i64 (z : Nat))) W3 := by
  have hlt := (List.getElem?_eq_some_iff.1 hz).1
  have k' : Pk (s.turn h b) c bl p l u en := k.congr (fun _ => rfl) rfl
  have h0 : (0 : Nat) ∈ c := List.mem_of_getElem? k.zero
  have hg : (packedSto (s.turn h b) c bl p l en).get z = some { bl (c.length - 1) with pos := en (c.length - 1) } := packN_earlier k' c.length (c.length - 1) z hlt (Nat.le_refl _) hz
  have hnx : (bl (c.length - 1)).next = ((0 : Nat) : Int) := by rw [k.next _ hlt, List.getElem?_eq_none (by omega)]; rfl
  have hst : ({ bl (c.length - 1) with pos := (en (c.length - 1) : Int) } : Blk).stop = (en c.length : Nat) := by
    show (en (c.length - 1) : Int) + up8 (bl (c.length - 1)).len = _
    have e := k.en1 (c.length - 1) hlt
    rw [show c.length - 1 + 1 = c.length by omega] at e
    rw [k.len _ hlt, k.up _ hlt, e]; omega
  have hgn : (packedSto (s.turn h b) c bl p l en).get n = some bn := (packN_other c.length n (Nat.le_refl _) hnc).trans hn
  refine ⟨_, vr, z, 0, en c.length, _, (packedSto (s.turn h b) c bl p l en).head, rfl, hU, hL, hO, fit_packed (fit_turn f h b) k', hgn, hg, hnx, rfl, ?_, ?_, hst, .inr ⟨h, b, rfl, hz, rfl, rfl⟩⟩
  · rintro rfl; exact hnc (List.mem_of_getElem? hz)
  · rintro rfl; exact hnc h0
end
end Go.Proofs.YtdncdddaobemaaaGreatDoor.W
/- Package store: seek's contract. -/
namespace Go.Proofs.YtdncdddaobemaaaGreatDoor.W
open Go.ChangeShapes Go.WideShapes Go.RowKit Go.Shelf
set_option linter.unusedVariables false
attribute [local go_sem] Oper.semAt_some

/-- a store's own blocks, and no others -/
def fpS (sb : Nat) (vr vb vf : Value) : Nat → Prop := fun k => k = sb ∨ vr.ownBlock = some k ∨ vb.ownBlock = some k ∨ vf.ownBlock = some k
theorem own_fp (sb : Nat) (vr vb vf : Value) : Own (fpS sb vr vb vf) sb vr vb vf := ⟨.inl rfl, fun _ e => .inr (.inl e), fun _ e => .inr (.inr (.inl e)), fun _ e => .inr (.inr (.inr e))⟩
theorem fp_own {S : Nat → Prop} {sb : Nat} {vr vb vf : Value} (h : Own S sb vr vb vf) : ∀ k, fpS sb vr vb vf k → S k := by
  rintro k (rfl | e | e | e)
  · exact h.sb
  · exact h.row k e
  · exact h.blk k e
  · exact h.free k e
theorem fp_lt {W : World} {sb : Nat} {vr vb vf : Value} {s : Sto} (h : Lay W sb vr vb vf s) : ∀ k, fpS sb vr vb vf k → k < W.heap.size := by
  obtain ⟨l0, l1, l2, l3⟩ := lay_lt h
  rintro k (rfl | e | e | e)
  · exact l0
  · exact l1 k e
  · exact l2 k e
  · exact l3 k e
section
variable {W : World} {sb : Nat} {vr vb vf : Value} {s : Sto} {c : List Nat} {bl : Nat → Blk} {p l u en : Nat → Nat}
theorem chain_drop (k : Pk s c bl p l u en) (h : Nat) : ∀ i (hi : i < (c.drop h).length), ∃ b, s.get (c.drop h)[i] = some b ∧ b.next = ((c.drop h)[i + 1]?.getD 0 : Nat) := by
  intro i hi
  rw [List.length_drop] at hi
  have e : c[h + i]? = some (c.drop h)[i] := by rw [List.getElem_drop, List.getElem?_eq_getElem]
  refine ⟨bl (h + i), k.get _ _ e, ?_⟩
  rw [k.next _ (by omega), List.getElem?_drop]
  rfl
theorem drop_nz (k : Pk s c bl p l u en) (h : Nat) : ∀ i (hi : i + 1 < (c.drop h).length), (c.drop h)[i + 1] ≠ 0 := by
  intro i hi e
  rw [List.length_drop] at hi
  rw [List.getElem_drop] at e
  have := List.pairwise_iff_getElem.1 k.nodup 0 (h + (i + 1)) k.ne (by omega) (by omega)
  have e0 : c[0]'k.ne = 0 := by have := k.zero; rw [List.getElem?_eq_getElem k.ne] at this; exact Option.some.inj this
  rw [e0, e] at this
  exact this rfl
theorem room_drop (h i : Nat) : roomAt s (c.drop h) i = roomAt s c (h + i) := by
  unfold roomAt
  simp only [List.getD, List.getElem?_drop]
  rfl
set_option maxHeartbeats 4000000 in
theorem seek_c (h : Lay W sb vr vb vf s) (f : Fit s) (k : Pk s c bl p l u en) (hd : Nat) (hdl : hd < c.length) (hh : s.hand = (c[hd] : Nat)) (size : Int) (hus : (en c.length : Int) + size ≤ s.used) {n : Nat} {bn : Blk} (hn : s.get n = some bn) (hnc : n ∉ c) {S : Nat → Prop} (hO : Own S sb vr vb vf) :
    Calls Tryz.prog 256 #[.pointer (some ⟨sb, 0, none⟩), .int .i64 size] W (SeekPost S W sb vb vf n bn (SeekG s c bl p l u en size)) := by
  obtain ⟨lsb, lr, lb, lf⟩ := lay_lt h
  refine (callsIn_wide (n := 9)).1 ?_
  refine callsIn_of_wp_marks Tryz.func256 rfl trivial ?_ rfl
  refine wpIn_wide.2 ?_
  simp only [Tryz.ntmps256, List.size_toArray, List.length_cons, List.length_nil, Nat.reduceAdd, Nat.reduceSub, Array.replicate_succ, Array.replicate_zero, List.push_toArray, List.append_toArray, List.nil_append, List.cons_append]
  go_wp2
  go_step3
  go_wp2
  go_step3
  go_wp2
  have hU1 := ((Upd.refl S W).alloc (.cells #[.pointer (some ⟨sb, 0, none⟩)] 40)).alloc (.cells #[.int .i64 size] 3)
  have hL1 := (h.alloc (.cells #[.pointer (some ⟨sb, 0, none⟩)] 40)).alloc (.cells #[.int .i64 size] 3)
  have hB1 : Boxed ((W.alloc (.cells #[.pointer (some ⟨sb, 0, none⟩)] 40)).alloc (.cells #[.int .i64 size] 3)) W.heap.size 40 (.pointer (some ⟨sb, 0, none⟩)) := (Boxed.new W _ _).alloc _
  have hB2 : Boxed ((W.alloc (.cells #[.pointer (some ⟨sb, 0, none⟩)] 40)).alloc (.cells #[.int .i64 size] 3)) (W.heap.size + 1) 3 (.int .i64 size) := by
    have := Boxed.new (W.alloc (.cells #[.pointer (some ⟨sb, 0, none⟩)] 40)) 3 (.int .i64 size)
    rwa [World.size_alloc] at this
  have hz : ((W.alloc (.cells #[.pointer (some ⟨sb, 0, none⟩)] 40)).alloc (.cells #[.int .i64 size] 3)).heap.size = W.heap.size + 2 := by simp
  generalize World.alloc (World.alloc W _) _ = W1 at *
  refine wp_loop_rounds 3 ?_
  rw [rounds_succ]
  refine wp_block (wp_seq (seek_pass h f hU1 hL1 hO.sb size hB1 hB2 (c.drop hd) (by rw [List.length_drop]; omega) (k.nodup.sublist (List.drop_sublist _ _)) (drop_nz k hd) (by rw [hh, List.getElem_drop]; rfl) (chain_drop k hd) rfl [] _ _ _ _ _ _ _ _ _ _ _ _ _ _ _ _ _ _ _ _ _ _ _ _ _ _ _ _ _ _ _ _ _ _ ?done ?stop))
  case stop =>
    rintro W3 D i hi hr hU3 hL3 b1 hD1 hD2 hold
    dsimp only
    have hil : hd + i < c.length := by rw [List.length_drop] at hi; omega
    rw [room_drop] at hr
    rw [List.getElem_drop] at hL3
    have cs := b1.cell
    have c9 := hL3.cell 9
    simp [Sto.obj] at c9
    have HP := (show Hid _ from seek_hit k f hn hnc (hO.mono (fun _ g => .inl g)) hU3 size (hd + i) hil s.sought hL3 hr)
    clear hL3 hU3 hold
    go_wp2
    rw [Exit.noGoto_ret]
    refine ⟨by simp, .inl ⟨_, _, rfl, run_takeDeferred hD2, ?_⟩⟩
    refine ⟨_, results_tmp rfl _ _ _, ?_⟩
    exact seekpost_put HP.out hD2 (by omega) _
  case done =>
    rintro W3 D hr hU3 hL3 b1 b2 hD1 hD2 hold
    dsimp only
    have c10 := hL3.cell 10
    simp [Sto.obj] at c10
    have cs := b1.cell
    have ltD := (Array.getElem?_eq_some_iff.1 hD2).1
    cases hso : s.sought with
    | true =>
      rw [hso] at c10
      have cp := pack_c hL3 f k (own_fp sb vr vb vf)
      go_wp2_with (go_at_call 287; (with_reducible refine cp.mono ?_); rintro e W4 ⟨rfl, hU4, vr4, hL4, hO4⟩; clear cp)
      have keep : ∀ x : Nat, W.heap.size ≤ x → x < W3.heap.size → W4.heap[x]? = W3.heap[x]? := fun x h1 h2 => hU4.block x h2 (fun g => by have := fp_lt h x g; omega)
      have s4 := hU4.size
      have hU4S : Upd S W W4 := hU3.trans (hU4.mono (fun k g => .inl (fp_own hO k g)))
      have hO4S : Own S sb vr4 vb vf := hO4.mono (fp_own hO)
      have d1 := box_of (keep W.heap.size (by omega) b1.lt) b1
      have d2 := box_of (keep (W.heap.size + 1) (by omega) b2.lt) b2
      have mD := (keep D (by omega) (Array.getElem?_eq_some_iff.1 hD2).1).trans hD2
      have hz0 : 0 < c.length := k.ne
      obtain ⟨z, hzc⟩ : ∃ z, c[c.length - 1]? = some z := ⟨_, List.getElem?_eq_getElem (by omega)⟩
      have hlt : c.length - 1 < c.length := by omega
      have hg : (packedSto (s) c bl p l en).get z = some { bl (c.length - 1) with pos := en (c.length - 1) } := packN_earlier k c.length (c.length - 1) z hlt (Nat.le_refl _) hzc
      have hnx : (bl (c.length - 1)).next = ((0 : Nat) : Int) := by rw [k.next _ hlt, List.getElem?_eq_none (by omega)]; rfl
      have hhand : (packedSto (s) c bl p l en).hand = (z : Nat) := packN_hand hzc
      have hroom : size ≤ roomAt (packedSto (s) c bl p l en) [z] 0 := by
        have e1 := k.en1 (c.length - 1) hlt
        rw [show c.length - 1 + 1 = c.length by omega] at e1
        have hst : ({ bl (c.length - 1) with pos := (en (c.length - 1) : Int) } : Blk).stop = (en c.length : Nat) := by
          show (en (c.length - 1) : Int) + up8 (bl (c.length - 1)).len = _
          rw [k.len _ hlt, k.up _ hlt, e1]; omega
        have hus' : (packedSto (s) c bl p l en).used = s.used := (packN_rest c.length).2.1
        show size ≤ roomOf _ ((packedSto (s) c bl p l en).getD z) 0 _
        rw [getD_of hg, roomOf, if_pos rfl, hst, hus']
        have := f.used0
        omega
      rw [rounds_succ]
      refine wp_block (wp_seq (seek_pass h (fit_packed f k) hU4S hL4 hO.sb size d1 d2 [z] (by simp) (by simp) (by simp) hhand (by intro i hi; have e : i = 0 := (by rw [List.length_singleton] at hi; omega); subst e; exact ⟨_, hg, hnx⟩) rfl _ _ _ _ _ _ _ _ _ _ _ _ _ _ _ _ _ _ _ _ _ _ _ _ _ _ _ _ _ _ _ _ _ _ _ ?d2 ?s2))
      case d2 =>
        rintro W5 D5 hr5 _ _ _ _ _ _ _
        exact absurd hroom (by have := hr5 0 (by simp); omega)
      case s2 =>
        rintro W5 D5 i hi hr5 hU5 hL5 b5 hD5 hD6 hold5
        dsimp only
        have ei : i = 0 := by rw [List.length_singleton] at hi; omega
        subst ei
        have hL5' : Lay W5 sb vr4 vb vf (packedSto (s) c bl p l en) := by
          have e : ({ packedSto (s) c bl p l en with hand := (([z][0]'hi : Nat) : Int) } : Sto) = packedSto (s) c bl p l en := by rw [show ([z][0]'hi) = z from rfl, ← hhand]
          rw [← e]; exact hL5
        have cs5 := b5.cell
        have c9 := hL5'.cell 9
        simp [Sto.obj, hhand] at c9
        have HP := (show Hid _ from seek_hit_packed (W := W) (S := S) (h := s.hand) (b := s.sought) k f hn hnc (hO4S.mono (fun _ g => .inl g)) hU5 size z hzc hL5')
        have nD := (hold5 D (by omega) (Array.getElem?_eq_some_iff.1 mD).1).trans mD
        have qD := (Array.getElem?_eq_some_iff.1 mD).1
        clear hL5 hL5' hU5 hold5
        go_wp2
        (try rw [Exit.noGoto_ret])
        refine ⟨by simp, .inl ⟨_, _, rfl, run_takeDeferred hD6, ?_⟩⟩
        have rD : (W5.putObj D5 (.deferred none)).heap[D]? = some (.deferred (some [])) := ((World.putObj_heap_other (by omega)).trans (nD))
        refine ⟨by simp, .inl ⟨_, _, rfl, run_takeDeferred rD, ?_⟩⟩
        refine ⟨_, results_tmp rfl _ _ _, ?_⟩
        exact seekpost_put (seekpost_put HP.out hD6 (by omega) _) rD (by omega) _
    | false =>
      rw [hso] at c10
      have th9 := hL3.thaw 9
      have th10 := hL3.thaw 10
      have c9 := hL3.cell 9
      simp [Sto.obj] at c9
      go_wp2
      refine wp_region_noPanic ?_
      go_region
      refine NoPanic.normal ?_
      go_wp2
      have k7 : Pk (s.turn 0 true) c bl p l u en := k.congr (fun _ => rfl) rfl
      have hL6 : Lay ((W3.setCell ⟨sb, 9, none⟩ (.int .i64 0)).setCell ⟨sb, 10, none⟩ (.bool true)).drew sb vr vb vf (s.turn 0 true) := by
        have x1 := hL3.store (s' := { s with hand := 0 }) 9 (.int .i64 0) rfl rfl rfl rfl
        exact (x1.store (s' := s.turn 0 true) 10 (.bool true) rfl rfl rfl rfl).drew
      have hU6 := ((hU3.setCell (p := ⟨sb, 9, none⟩) (.inl hO.sb) (.int .i64 0)).setCell (p := ⟨sb, 10, none⟩) (.inl hO.sb) (.bool true)).drew
      have keep6 : ∀ x : Nat, x ≠ sb → ((W3.setCell ⟨sb, 9, none⟩ (.int .i64 0)).setCell ⟨sb, 10, none⟩ (.bool true)).drew.heap[x]? = W3.heap[x]? := fun x hx => by
        show ((W3.setCell ⟨sb, 9, none⟩ (.int .i64 0)).setCell ⟨sb, 10, none⟩ (.bool true)).heap[x]? = _
        rw [Below.heap_setCell _ _ _ _ hx, Below.heap_setCell _ _ _ _ hx]
      have b61 := box_of (keep6 W.heap.size (by omega)) b1
      have b62 := box_of (keep6 (W.heap.size + 1) (by omega)) b2
      have hD6' := (keep6 D (by omega)).trans hD2
      have z6 : ((W3.setCell ⟨sb, 9, none⟩ (.int .i64 0)).setCell ⟨sb, 10, none⟩ (.bool true)).drew.heap.size = W3.heap.size := by
        show ((W3.setCell ⟨sb, 9, none⟩ (.int .i64 0)).setCell ⟨sb, 10, none⟩ (.bool true)).heap.size = _
        simp [World.setCell]
      clear c9 th9 th10 c10 cs keep6
      generalize World.drew (World.setCell (World.setCell W3 _ _) _ _) = W6 at *
      have e0 : c[0]'k.ne = 0 := by have := k.zero; rw [List.getElem?_eq_getElem k.ne] at this; exact Option.some.inj this
      rw [rounds_succ]
      refine wp_block (wp_seq (seek_pass h (fit_turn f 0 true) hU6 hL6 hO.sb size b61 b62 c k.ne k.nodup (by have := drop_nz k 0; simpa using this) (by rw [e0]; rfl) (by have := chain_drop k7 0; simpa using this) rfl _ _ _ _ _ _ _ _ _ _ _ _ _ _ _ _ _ _ _ _ _ _ _ _ _ _ _ _ _ _ _ _ _ _ _ ?d2 ?s2))
      case s2 =>
        rintro W7 D7 i hi hr7 hU7 hL7 b71 hD71 hD72 hold7
        dsimp only
        have hr7' : size ≤ roomAt s c i := hr7
        have cs7 := b71.cell
        have c9 := hL7.cell 9
        simp [Sto.obj] at c9
        have HP := (show Hid _ from seek_hit k f hn hnc (hO.mono (fun _ g => .inl g)) hU7 size i hi true hL7 hr7')
        have nD := (hold7 D (by omega) (by omega)).trans hD6'
        clear hL7 hU7 hold7
        go_wp2
        (try rw [Exit.noGoto_ret])
        refine ⟨by simp, .inl ⟨_, _, rfl, run_takeDeferred hD72, ?_⟩⟩
        have rD : (W7.putObj D7 (.deferred none)).heap[D]? = some (.deferred (some [])) := (World.putObj_heap_other (by omega)).trans nD
        refine ⟨by simp, .inl ⟨_, _, rfl, run_takeDeferred rD, ?_⟩⟩
        refine ⟨_, results_tmp rfl _ _ _, ?_⟩
        exact seekpost_put (seekpost_put HP.out hD72 (by omega) _) rD (by omega) _
      case d2 =>
        rintro W7 D7 hr7 hU7 hL7 b71 b72 hD71 hD72 hold7
        dsimp only
        have c10 := hL7.cell 10
        simp [Sto.obj, Sto.turn] at c10
        have cs := b71.cell
        have hDD := (hold7 D (by omega) (by omega)).trans hD6'
        have ltD7 := (Array.getElem?_eq_some_iff.1 hD72).1
        have cp := pack_c hL7 (fit_turn f 0 true) k7 (own_fp sb vr vb vf)
        go_wp2_with (go_at_call 287; (with_reducible refine cp.mono ?_); rintro e W4 ⟨rfl, hU4, vr4, hL4, hO4⟩; clear cp)
        have keep : ∀ x : Nat, W.heap.size ≤ x → x < W7.heap.size → W4.heap[x]? = W7.heap[x]? := fun x h1 h2 => hU4.block x h2 (fun g => by have := fp_lt h x g; omega)
        have s4 := hU4.size
        have hU4S : Upd S W W4 := hU7.trans (hU4.mono (fun k g => .inl (fp_own hO k g)))
        have hO4S : Own S sb vr4 vb vf := hO4.mono (fp_own hO)
        have d1 := box_of (keep W.heap.size (by omega) b71.lt) b71
        have d2 := box_of (keep (W.heap.size + 1) (by omega) b72.lt) b72
        have mD7 := (keep D7 (by omega) (Array.getElem?_eq_some_iff.1 hD72).1).trans hD72
        have mD := (keep D (by omega) (Array.getElem?_eq_some_iff.1 hDD).1).trans hDD
        have hz0 : 0 < c.length := k.ne
        obtain ⟨z, hzc⟩ : ∃ z, c[c.length - 1]? = some z := ⟨_, List.getElem?_eq_getElem (by omega)⟩
        have hlt : c.length - 1 < c.length := by omega
        have hg : (packedSto (s.turn 0 true) c bl p l en).get z = some { bl (c.length - 1) with pos := en (c.length - 1) } := packN_earlier k7 c.length (c.length - 1) z hlt (Nat.le_refl _) hzc
        have hnx : (bl (c.length - 1)).next = ((0 : Nat) : Int) := by rw [k.next _ hlt, List.getElem?_eq_none (by omega)]; rfl
        have hhand : (packedSto (s.turn 0 true) c bl p l en).hand = (z : Nat) := packN_hand hzc
        have hroom : size ≤ roomAt (packedSto (s.turn 0 true) c bl p l en) [z] 0 := by
          have e1 := k.en1 (c.length - 1) hlt
          rw [show c.length - 1 + 1 = c.length by omega] at e1
          have hst : ({ bl (c.length - 1) with pos := (en (c.length - 1) : Int) } : Blk).stop = (en c.length : Nat) := by
            show (en (c.length - 1) : Int) + up8 (bl (c.length - 1)).len = _
            rw [k.len _ hlt, k.up _ hlt, e1]; omega
          have hus' : (packedSto (s.turn 0 true) c bl p l en).used = s.used := (packN_rest c.length).2.1
          show size ≤ roomOf _ ((packedSto (s.turn 0 true) c bl p l en).getD z) 0 _
          rw [getD_of hg, roomOf, if_pos rfl, hst, hus']
          have := f.used0
          omega
        rw [rounds_succ]
        refine wp_block (wp_seq (seek_pass h (fit_packed (fit_turn f 0 true) k7) hU4S hL4 hO.sb size d1 d2 [z] (by simp) (by simp) (by simp) hhand (by intro i hi; have e : i = 0 := (by rw [List.length_singleton] at hi; omega); subst e; exact ⟨_, hg, hnx⟩) rfl _ _ _ _ _ _ _ _ _ _ _ _ _ _ _ _ _ _ _ _ _ _ _ _ _ _ _ _ _ _ _ _ _ _ _ ?d3 ?s3))
        case d3 =>
          rintro W5 D5 hr5 _ _ _ _ _ _ _
          exact absurd hroom (by have := hr5 0 (by simp); omega)
        case s3 =>
          rintro W5 D5 i hi hr5 hU5 hL5 b5 hD5 hD6 hold5
          dsimp only
          have ei : i = 0 := by rw [List.length_singleton] at hi; omega
          subst ei
          have hL5' : Lay W5 sb vr4 vb vf (packedSto (s.turn 0 true) c bl p l en) := by
            have e : ({ packedSto (s.turn 0 true) c bl p l en with hand := (([z][0]'hi : Nat) : Int) } : Sto) = packedSto (s.turn 0 true) c bl p l en := by rw [show ([z][0]'hi) = z from rfl, ← hhand]
            rw [← e]; exact hL5
          have cs5 := b5.cell
          have c9 := hL5'.cell 9
          simp [Sto.obj, hhand] at c9
          have HP := (show Hid _ from seek_hit_packed (W := W) (S := S) (h := 0) (b := true) k f hn hnc (hO4S.mono (fun _ g => .inl g)) hU5 size z hzc hL5')
          have nD7 := (hold5 D7 (by omega) (Array.getElem?_eq_some_iff.1 mD7).1).trans mD7
          have qD7 := (Array.getElem?_eq_some_iff.1 mD7).1
          have nD := (hold5 D (by omega) (Array.getElem?_eq_some_iff.1 mD).1).trans mD
          have qD := (Array.getElem?_eq_some_iff.1 mD).1
          clear hL5 hL5' hU5 hold5
          go_wp2
          (try rw [Exit.noGoto_ret])
          refine ⟨by simp, .inl ⟨_, _, rfl, run_takeDeferred hD6, ?_⟩⟩
          have rD7 : (W5.putObj D5 (.deferred none)).heap[D7]? = some (.deferred (some [])) := ((World.putObj_heap_other (by omega)).trans (nD7))
          refine ⟨by simp, .inl ⟨_, _, rfl, run_takeDeferred rD7, ?_⟩⟩
          have rD : ((W5.putObj D5 (.deferred none)).putObj D7 (.deferred none)).heap[D]? = some (.deferred (some [])) := ((World.putObj_heap_other (by omega)).trans ((World.putObj_heap_other (by omega)).trans nD))
          refine ⟨by simp, .inl ⟨_, _, rfl, run_takeDeferred rD, ?_⟩⟩
          refine ⟨_, results_tmp rfl _ _ _, ?_⟩
          exact seekpost_put (seekpost_put (seekpost_put HP.out hD6 (by omega) _) rD7 (by omega) _) rD (by omega) _
end
end Go.Proofs.YtdncdddaobemaaaGreatDoor.W
/- Package store: New; leastId where no Id has been given back; Used, Span, Len. -/
namespace Go.Proofs.YtdncdddaobemaaaGreatDoor.W
open Go.ChangeShapes Go.WideShapes Go.RowKit Go.Shelf
set_option linter.unusedVariables false

def noBlk : Blk := ⟨false, 0, 0, 0, 0⟩
def emptySto : Sto := ⟨[], noBlk, [], [], 0, 0, false⟩
theorem new_c (W : World) : Calls Tryz.prog 10 #[] W fun e w' => e = .returned (.pointer (some ⟨W.heap.size, 0, none⟩)) ∧ Lay w' W.heap.size (.slice none 0 0) (.slice none 0 0) (.slice none 0 0) emptySto ∧ Below W.heap.size W w' ∧ w'.heap.size = W.heap.size + 1 := by
  go_enter Tryz.func10, Tryz.ntmps10
  go_wp2
  go_ret
  refine ⟨rfl, ⟨heap_alloc_new W _, World.ownsRow_nil _ _ _ _, World.ownsRow_nil _ _ _ _, World.ownsRow_nil _ _ _ _⟩, (Below.refl _ _).alloc (Nat.le_refl _) _, by simp⟩
theorem info59 : (Tryz.prog.info? 64).map (fun i => (i.zero, i.size, i.bytes)) = some (some (.agg #[.bool false, .int .i64 0, .int .i64 0, .int .i64 0, .int .i64 0]), 5, 40) := by kernel_rfl
theorem under60 : Tryz.prog.underlying 65 = some (.slice 64) := by kernel_rfl
section
variable {W : World} {sb : Nat} {vr vb vf : Value} {s : Sto}
theorem slice_of {e : TypeId} {size : Nat} {v : Value} {n : Nat} {xs : List Value} (h : W.ownsRow 0 e size v n xs) : ∃ o cap, v = .slice o n cap := by
  rcases h.2 with ⟨rfl, rfl⟩ | ⟨g, cap, cur, rfl, _⟩
  · exact ⟨_, _, rfl⟩
  · exact ⟨_, _, rfl⟩
theorem len_some (h : Lay W sb vr vb vf s) (hlen : s.blks.length ≤ 1000000000) (id : Int) (b : Blk) (hx : s.ext id = some b) :
    Calls Tryz.prog 209 #[.pointer (some ⟨sb, 0, none⟩), .int .i64 id] W fun e w' => e = .returned (.tuple #[.int .i64 b.len, .int .i64 0]) ∧ w' = W := by
  have ch := has_c h hlen id
  simp only [hx, Option.isSome_some] at ch
  obtain ⟨k, rfl, hb, hl⟩ := ext_some hx
  have h1 := (List.getElem?_eq_some_iff.1 hb).1
  have hg : s.get (k + 1) = some b := by unfold Sto.get; rw [if_neg (by omega)]; exact hb
  obtain ⟨g, cap, rfl, _⟩ := own_slice h.blk (Nat.lt_of_le_of_lt (Nat.zero_le _) h1)
  obtain ⟨_, _, b2, _, _⟩ := bcells h hg (.inr ⟨by omega, rfl, rfl⟩)
  simp only [Nat.add_sub_cancel] at b2
  have c6 := h.cell 6
  simp [Sto.obj] at c6
  have h0' : (0 : Int) ≤ k := by omega
  have h1' : (k : Int) < s.blks.length := by omega
  clear hg hb hx
  go_enter Tryz.func209, Tryz.ntmps209
  go_wp2_with (go_at_call 204; (with_reducible refine ch.mono ?_); rintro e w' ⟨rfl, hw⟩; (have hw' := hw.symm); subst hw'; clear hw)
  go_ret2
  exact ⟨rfl, rfl⟩
set_option maxHeartbeats 1000000 in
theorem leastId_new (h : Lay W sb vr vb vf s) (hf : s.free = []) (hlen : s.blks.length ≤ 1000000000) {S : Nat → Prop} (hO : Own S sb vr vb vf) :
    Calls Tryz.prog 211 #[.pointer (some ⟨sb, 0, none⟩)] W fun e w' => e = .returned (.int .i64 s.blks.length) ∧ Upd S W w' ∧ ∃ vb', Lay w' sb vr vb' vf { s with blks := s.blks ++ [noBlk] } ∧ Own (Nx S W w') sb vr vb' vf := by
  have hfr := h.free
  rw [hf] at hfr
  obtain ⟨o, cap, hvf⟩ := slice_of hfr
  simp only [List.length_nil] at hvf
  have c7 := h.cell 7
  have c6 := h.cell 6
  simp [Sto.obj, hvf] at c7 c6
  obtain ⟨i0, hi, hz0, hz1, hz2⟩ := info_parts info59
  have hnews : ∀ j u, noBlk.cells[j]? = some u → (W.alloc (.cells #[.bool false, .int .i64 0, .int .i64 0, .int .i64 0, .int .i64 0] 64)).cell? ((⟨W.heap.size, 0, none⟩ : Addr).add j) = some u := by
    intro j u hj
    have e : (⟨W.heap.size, 0, none⟩ : Addr).add j = ⟨W.heap.size, j, none⟩ := by unfold Addr.add; split <;> simp_all
    rw [e, World.cell?_alloc_new]
    simpa [Blk.cells, noBlk] using hj
  have ho1 : ∀ u ∈ noBlk.cells, u.oneCell' = true := by intro u hu; simp [Blk.cells, noBlk] at hu; rcases hu with rfl | rfl <;> rfl
  obtain ⟨vb', W4, hrun, hown, hgr, hnew⟩ := append_at (P := Tryz.prog) (W.alloc (.cells #[.bool false, .int .i64 0, .int .i64 0, .int .i64 0, .int .i64 0] 64)) 65 65 64 i0 _ 5 40 under60 hi hz0 hz1 hz2 rfl (by decide) vb s.blks.length (flat s.blks) (h.blk.alloc _) ⟨W.heap.size, 0, none⟩ 1 1 noBlk.cells rfl hnews ho1 (by decide) (by decide) (by omega)
  obtain ⟨g4, cap4, rfl, hcap4⟩ := own_slice hown (by omega)
  have hLa := h.alloc (.cells #[.bool false, .int .i64 0, .int .i64 0, .int .i64 0, .int .i64 0] 64)
  have hL5 : Lay (W4.setCell ⟨sb, 6, none⟩ (.slice (some ⟨g4, 0, none⟩) (s.blks.length + 1) cap4)) sb vr (.slice (some ⟨g4, 0, none⟩) (s.blks.length + 1) cap4) vf { s with blks := s.blks ++ [noBlk] } := by
    refine hLa.regrow_blk hgr ?_
    rw [flat_append, List.length_append]
    exact hown
  have hUa := (Upd.refl S W).alloc (.cells #[.bool false, .int .i64 0, .int .i64 0, .int .i64 0, .int .i64 0] 64)
  have hU4 := hUa.grown hgr (fun k e => .inl (hO.blk k e))
  have hU5 := hU4.setCell (p := ⟨sb, 6, none⟩) (.inl hO.sb) (.slice (some ⟨g4, 0, none⟩) (s.blks.length + 1) cap4)
  have hO5 : Own (Nx S W (W4.setCell ⟨sb, 6, none⟩ (.slice (some ⟨g4, 0, none⟩) (s.blks.length + 1) cap4))) sb vr (.slice (some ⟨g4, 0, none⟩) (s.blks.length + 1) cap4) vf := by
    refine ⟨.inl hO.sb, fun k e => .inl (hO.row k e), fun k e => ?_, fun k e => .inl (hO.free k e)⟩
    rcases hnew k e with g | ⟨g1, g2⟩
    · exact .inl (hO.blk k g)
    · exact .inr ⟨by simp at g1; omega, by simpa [World.setCell] using g2⟩
  have hob4 : W4.heap[sb]? = (W.alloc (.cells #[.bool false, .int .i64 0, .int .i64 0, .int .i64 0, .int .i64 0] 64)).heap[sb]? := hgr.block sb (lay_lt hLa).1 (own_ne hLa.blk hLa.obj (by decide))
  have th4 : W4.frozen? ⟨sb, 6, none⟩ = false := by rw [World.frozen?_of_block hob4]; exact hLa.thaw 6
  have c4 : W4.cell? ⟨sb, 6, none⟩ = some vb := by rw [World.cell?_of_block hob4, hLa.cell 6]; rfl
  have c6' := hL5.cell 6
  simp [Sto.obj] at c6'
  have HL := hid hL5
  have HU := hid hU5
  have HO := hid hO5
  clear hL5 hU5 hO5 hU4 hUa hgr hnew hown hob4 hLa hfr
  go_enter Tryz.func211, Tryz.ntmps211
  go_wp2_with (at_builtin; refine Lib.wpList_append_run _ rfl _ _ _ _ rfl _ _ rfl rfl _ _ hrun ?_)
  go_ret
  exact ⟨rfl, HU, _, HL, HO⟩
end
end Go.Proofs.YtdncdddaobemaaaGreatDoor.W
