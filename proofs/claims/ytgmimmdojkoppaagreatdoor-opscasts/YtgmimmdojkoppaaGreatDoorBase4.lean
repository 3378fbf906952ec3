import Derived.Test.YtgmimmdojkoppaaGreatDoorBase3
import Derived.Test.YtgmimmdojkoppaaGreatDoorBase2
/- Package store: Pack. -/
namespace Go.Proofs.YtgmimmdojkoppaaGreatDoor.W
open Go.ChangeShapes Go.WideShapes Go.RowKit Go.Shelf
set_option linter.unusedVariables false
attribute [local go_sem] Oper.semAt_some

theorem set_rowed (t : Sto) (r : List Nat) (n : Nat) (b : Blk) : ({ t with row := r } : Sto).set n b = { t.set n b with row := r } := by
  unfold Sto.set
  split <;> rfl
theorem packN_succ {s : Sto} {c : List Nat} {bl : Nat → Blk} {p l en : Nat → Nat} {i n : Nat} (h : c[i]? = some n) : packN s c bl p l en (i + 1) = { ({ packN s c bl p l en i with row := setL (packN s c bl p l en i).row (en i) (seg (packN s c bl p l en i).row (p i) (l i)) } : Sto).set n { bl i with pos := (en i : Nat) } with hand := (n : Int) } := by
  rw [set_rowed, packN, getD_get h]
theorem pack_def {W : World} {D sb o o' : Nat} {v v' : Value} (hD : W.heap[D]? = some (.deferred (some []))) (hne : D ≠ sb) : ((W.setCell ⟨sb, o, none⟩ v).drew.setCell ⟨sb, o', none⟩ v').heap[D]? = some (.deferred (some [])) := by
  rw [Below.heap_setCell _ _ _ _ hne]
  show (W.setCell ⟨sb, o, none⟩ v).heap[D]? = _
  rw [Below.heap_setCell _ _ _ _ hne]
  exact hD
theorem box_of {Wa Wb : World} {B t : Nat} {v : Value} (h : Wb.heap[B]? = Wa.heap[B]?) (g : Boxed Wa B t v) : Boxed Wb B t v := h.trans g
theorem box_set {W : World} {B C o t : Nat} {v u : Value} (h : Boxed W B t v) (hne : B ≠ C) : Boxed (W.setCell ⟨C, o, none⟩ u) B t v := by
  unfold Boxed at *
  rw [Below.heap_setCell _ _ _ _ hne]
  exact h
/-- the two last stores of a round of Pack -/
theorem pack_fin {W W6 W' : World} {sb : Nat} {vr vb vf : Value} {S : Nat → Prop} {t6 : Sto} {e0 : Value} (e n L D : Nat) {t0 : Sto} (h : Lay W sb vr vb vf t0) (hL : Lay W6 sb vr vb vf t6) (hU : Upd S W W6) (hO : S sb) (b1 : Boxed W6 W.heap.size 41 (.pointer (some ⟨sb, 0, none⟩))) (b2 : Boxed W6 (W.heap.size + 1) 3 e0) (b3 : Boxed W6 (W.heap.size + 2) 41 (.pointer (some ⟨sb, 0, none⟩)))
    (hL' : W6.heap[L]? = W'.heap[L]?) (hD' : W6.heap[D]? = W'.heap[D]?) (hN' : W6.heap[W.heap.size + 2 + 1]? = W'.heap[W.heap.size + 2 + 1]?) (nL : W.heap.size + 2 < L) (nD : W.heap.size + 2 < D) (m : Nat) :
    (W6.drewN m).cell? ⟨W.heap.size + 1, 0, none⟩ = some e0 ∧ (W6.drewN m).frozen? ⟨W.heap.size + 1, 0, none⟩ = false ∧ ((W6.drewN m).setCell ⟨W.heap.size + 1, 0, none⟩ (.int .i64 e)).cell? ⟨W.heap.size, 0, none⟩ = some (.pointer (some ⟨sb, 0, none⟩)) ∧ ((W6.drewN m).setCell ⟨W.heap.size + 1, 0, none⟩ (.int .i64 e)).cell? ⟨sb, 9, none⟩ = some (.int .i64 t6.hand) ∧ ((W6.drewN m).setCell ⟨W.heap.size + 1, 0, none⟩ (.int .i64 e)).frozen? ⟨sb, 9, none⟩ = false ∧
    Hid (∀ Wf, Wf = (((W6.drewN m).setCell ⟨W.heap.size + 1, 0, none⟩ (.int .i64 e)).setCell ⟨sb, 9, none⟩ (.int .i64 n)) → (Wf.heap[L]? = W'.heap[L]? ∧ Wf.heap[D]? = W'.heap[D]? ∧ Wf.heap[W.heap.size + 2 + 1]? = W'.heap[W.heap.size + 2 + 1]?) ∧ Upd S W Wf ∧ Lay Wf sb vr vb vf { t6 with hand := n } ∧ Boxed Wf W.heap.size 41 (.pointer (some ⟨sb, 0, none⟩)) ∧ Boxed Wf (W.heap.size + 1) 3 (.int .i64 e) ∧ Boxed Wf (W.heap.size + 2) 41 (.pointer (some ⟨sb, 0, none⟩))) := by
  obtain ⟨l0, l1, l2, l3⟩ := lay_lt h
  have hL7 : Lay ((W6.drewN m).setCell ⟨W.heap.size + 1, 0, none⟩ (.int .i64 e)) sb vr vb vf t6 := by
    refine (hL.drewN m).kept ?_ ?_ ?_ ?_
    · exact Below.heap_setCell _ _ _ _ (by show sb ≠ W.heap.size + 1; omega)
    · intro k e; exact Below.heap_setCell _ _ _ _ (by show k ≠ W.heap.size + 1; have := l1 k e; omega)
    · intro k e; exact Below.heap_setCell _ _ _ _ (by show k ≠ W.heap.size + 1; have := l2 k e; omega)
    · intro k e; exact Below.heap_setCell _ _ _ _ (by show k ≠ W.heap.size + 1; have := l3 k e; omega)
  have b1' : Boxed (W6.drewN m) W.heap.size 41 (.pointer (some ⟨sb, 0, none⟩)) := b1
  have b2' : Boxed (W6.drewN m) (W.heap.size + 1) 3 e0 := b2
  have b3' : Boxed (W6.drewN m) (W.heap.size + 2) 41 (.pointer (some ⟨sb, 0, none⟩)) := b3
  have c1 := box_set (C := W.heap.size + 1) (o := 0) (u := .int .i64 (e : Int)) b1' (by omega)
  have c3 := box_set (C := W.heap.size + 1) (o := 0) (u := .int .i64 (e : Int)) b3' (by omega)
  have c2 := b2'.set (.int .i64 (e : Int))
  have lt2 := b2'.lt
  refine ⟨b2'.cell, b2'.frozen, c1.cell, hL7.cell 9, hL7.thaw 9, ?_⟩
  rintro Wf rfl
  have hx : ∀ x : Nat, x ≠ sb → x ≠ W.heap.size + 1 → (((W6.drewN m).setCell ⟨W.heap.size + 1, 0, none⟩ (.int .i64 e)).setCell ⟨sb, 9, none⟩ (.int .i64 n)).heap[x]? = W6.heap[x]? := fun x h1 h2 => by
    rw [Below.heap_setCell _ _ _ _ h1, Below.heap_setCell _ _ _ _ h2]; rfl
  refine ⟨⟨(hx L (by omega) (by omega)).trans hL', (hx D (by omega) (by omega)).trans hD', (hx _ (by omega) (by omega)).trans hN'⟩, ?_, hL7.store 9 _ rfl rfl rfl rfl, box_set c1 (by omega), box_set c2 (by omega), box_set c3 (by omega)⟩
  refine ((hU.drewN m).setCell (p := ⟨W.heap.size + 1, 0, none⟩) (.inr ⟨by show W.heap.size ≤ W.heap.size + 1; omega, lt2⟩) _).setCell (p := ⟨sb, 9, none⟩) (.inl hO) _
def packedSto (s : Sto) (c : List Nat) (bl : Nat → Blk) (p l en : Nat → Nat) : Sto := { packN s c bl p l en c.length with row := (packN s c bl p l en c.length).row.take (en c.length), sought := false }
set_option maxHeartbeats 4000000 in
theorem pack_c {W : World} {sb : Nat} {vr vb vf : Value} {s : Sto} {c : List Nat} {bl : Nat → Blk} {p l u en : Nat → Nat} (h : Lay W sb vr vb vf s) (f : Fit s) (k : Pk s c bl p l u en) {S : Nat → Prop} (hO : Own S sb vr vb vf) :
    Calls Tryz.prog 296 #[.pointer (some ⟨sb, 0, none⟩)] W fun e w' => e = .returned (.tuple #[]) ∧ Upd S W w' ∧ ∃ vr', Lay w' sb vr' vb vf (packedSto s c bl p l en) ∧ Own S sb vr' vb vf := by
  obtain ⟨lsb, lr, lb, lf⟩ := lay_lt h
  refine (callsIn_wide (n := 9)).1 ?_
  refine callsIn_of_wp_marks Tryz.func296 rfl trivial ?_ rfl
  refine wpIn_wide.2 ?_
  simp only [Tryz.ntmps296, List.size_toArray, List.length_cons, List.length_nil, Nat.reduceAdd, Nat.reduceSub, Array.replicate_succ, Array.replicate_zero, List.push_toArray, List.append_toArray, List.nil_append, List.cons_append]
  go_upto_region 2 with fail
  have hU1 := ((Upd.refl S W).alloc (.cells #[.pointer (some ⟨sb, 0, none⟩)] 41)).alloc (.cells #[.int .i64 0] 3)
  have hL1 := (h.alloc (.cells #[.pointer (some ⟨sb, 0, none⟩)] 41)).alloc (.cells #[.int .i64 0] 3)
  have hB1 : Boxed ((W.alloc (.cells #[.pointer (some ⟨sb, 0, none⟩)] 41)).alloc (.cells #[.int .i64 0] 3)) W.heap.size 41 (.pointer (some ⟨sb, 0, none⟩)) := (Boxed.new W _ _).alloc _
  have hB2 : Boxed ((W.alloc (.cells #[.pointer (some ⟨sb, 0, none⟩)] 41)).alloc (.cells #[.int .i64 0] 3)) (W.heap.size + 1) 3 (.int .i64 0) := by
    have := Boxed.new (W.alloc (.cells #[.pointer (some ⟨sb, 0, none⟩)] 41)) 3 (.int .i64 0)
    rwa [World.size_alloc] at this
  have hz : ((W.alloc (.cells #[.pointer (some ⟨sb, 0, none⟩)] 41)).alloc (.cells #[.int .i64 0] 3)).heap.size = W.heap.size + 2 := by simp
  generalize World.alloc (World.alloc W _) _ = W1 at *
  have cs := hB1.cell
  go_wp2_with (go_at_call 294; (refine (from_c _ sb 0).mono ?_); rintro e w' ⟨rfl, hw⟩; (have hw' := hw.symm); subst hw'; clear hw)
  have hU2 := (hU1.alloc (.cells #[.pointer (some ⟨sb, 0, none⟩)] 41)).alloc (.cells #[.int .i64 0] 3)
  have hL2 := (hL1.alloc (.cells #[.pointer (some ⟨sb, 0, none⟩)] 41)).alloc (.cells #[.int .i64 0] 3)
  have hB4 : Boxed ((W1.alloc (.cells #[.pointer (some ⟨sb, 0, none⟩)] 41)).alloc (.cells #[.int .i64 0] 3)) (W.heap.size + 2 + 1) 3 (.int .i64 0) := by
    have := Boxed.new (W1.alloc (.cells #[.pointer (some ⟨sb, 0, none⟩)] 41)) 3 (.int .i64 0)
    rw [World.size_alloc, hz] at this
    exact this
  have hB3 : Boxed ((W1.alloc (.cells #[.pointer (some ⟨sb, 0, none⟩)] 41)).alloc (.cells #[.int .i64 0] 3)) (W.heap.size + 2) 41 (.pointer (some ⟨sb, 0, none⟩)) := by
    have := (Boxed.new W1 41 (.pointer (some ⟨sb, 0, none⟩))).alloc (.cells #[.int .i64 0] 3)
    rw [hz] at this
    exact this
  have hB1' := (hB1.alloc (.cells #[.pointer (some ⟨sb, 0, none⟩)] 41)).alloc (.cells #[.int .i64 0] 3)
  have hB2' := (hB2.alloc (.cells #[.pointer (some ⟨sb, 0, none⟩)] 41)).alloc (.cells #[.int .i64 0] 3)
  have hz2 : ((W1.alloc (.cells #[.pointer (some ⟨sb, 0, none⟩)] 41)).alloc (.cells #[.int .i64 0] 3)).heap.size = W.heap.size + 4 := by simp [hz]
  clear hU1 hL1 hB1 hB2 cs
  generalize World.alloc (World.alloc W1 _) _ = W2 at *
  clear hz
  have e0 : c[0]'k.ne = 0 := by have := k.zero; rw [List.getElem?_eq_getElem k.ne] at this; exact Option.some.inj this
  refine ring_law (Bn := W.heap.size + 2 + 1) (Bs := W.heap.size + 2) (sb := sb) rfl c k.ne k.nodup ?hz (by rw [e0]; exact hB4)
    (fun i W' => Upd S W W' ∧ Lay W' sb vr vb vf (packN s c bl p l en i) ∧ Boxed W' W.heap.size 41 (.pointer (some ⟨sb, 0, none⟩)) ∧ Boxed W' (W.heap.size + 1) 3 (.int .i64 (en i : Nat)) ∧ Boxed W' (W.heap.size + 2) 41 (.pointer (some ⟨sb, 0, none⟩)))
    (fun _ _ => False)
    ?hI ?hIx ⟨hU2, hL2, hB1', by rw [k.en0]; exact hB2', hB3⟩ ?hread 3 ?assign ?body ?done ?stop
  case hz =>
    intro i hi e
    have := List.pairwise_iff_getElem.1 k.nodup 0 (i + 1) k.ne hi (by omega)
    rw [e0, e] at this
    exact this rfl
  case hI =>
    rintro i Wa Wb ⟨g1, g2, g3, g4, g5⟩ hu
    have hk := lay_far h g2 g1.size hu (by omega)
    exact ⟨upd_far g1 hu (by omega) (by omega), hk, box_far g3 hu (by omega) (by omega), box_far g4 hu (by omega) (by omega), box_far g5 hu (by omega) (by omega)⟩
  case hIx => rintro c Wa Wb hF; exact hF.elim
  case hread =>
    rintro i hi Wa ⟨g1, g2, g3, g4, g5⟩
    have hn : c[i]? = some c[i] := List.getElem?_eq_getElem hi
    have hg : (packN s c bl p l en (i + 1)).get c[i] = some { bl i with pos := (en i : Nat) } := packN_earlier k (i + 1) i _ (by omega) (by omega) hn
    obtain ⟨B, O, pt⟩ := g2.pt hg
    obtain ⟨_, _, _, _, d4⟩ := bcells g2 hg pt
    refine ⟨g5.cell, B, O, block_c Wa sb vr vb vf _ g2 _ _ hg (by rw [packN_blks]; exact f.len) B O pt, ?_⟩
    rw [d4, show ({ bl i with pos := (en i : Nat) } : Blk).next = (bl i).next from rfl, k.next i hi]
  case assign =>
    intro L x W' K hK
    gi_wp2
    exact hK
  case body =>
    rintro L i hi W' hLe ⟨g1, g2, g3, g4, g5⟩ hs ⟨r, hr⟩ b4
    simp only [ringAct, List.setIfInBounds_toArray, List.set_cons_succ, List.set_cons_zero]
    have hn : c[i]? = some c[i] := List.getElem?_eq_getElem hi
    have hg : (packN s c bl p l en i).get c[i] = some (bl i) := by rw [packN_later k.nodup i i _ (Nat.le_refl _) hn]; exact k.get i _ hn
    obtain ⟨B, O, pt⟩ := g2.pt hg
    have cb := block_c W' sb vr vb vf _ g2 _ _ hg (by rw [packN_blks]; exact f.len) B O pt
    obtain ⟨_, d1, d2, _, _⟩ := bcells g2 hg pt
    rw [k.pos i hi] at d1
    rw [k.len i hi] at d2
    have cs := g3.cell
    have ce := g4.cell
    have c0 := g2.cell 0
    simp [Sto.obj] at c0
    have le1 := k.le i hi
    have le2 := k.stop i hi
    have lu := k.lu hi
    have fr := f.row
    have hrl : (packN s c bl p l en i).row.length = s.row.length := packN_row i
    gi_wp2_with ((refine ⟨trivial, ?_⟩); gi_at_call 263; (refine (CallsIn.inRound L (callsIn_wide.2 cb)).mono ?_); rintro e w' ⟨rfl, hw⟩; (have hw' := hw.symm); subst hw'; clear hw)
    by_cases hA : ∃ g cap, vr = .slice (some ⟨g, 0, none⟩) s.row.length cap ∧ s.row.length ≤ cap ∧ en i < cap ∧ p i < cap
    · obtain ⟨g, cap, hvr, hcap, hc1, hc2⟩ := hA
      rw [hvr] at c0
      refine round_held (S := fun w' => w'.cell? ⟨W.heap.size, 0, none⟩ = some (.pointer (some ⟨sb, 0, none⟩)) ∧ w'.cell? ⟨W.heap.size + 1, 0, none⟩ = some (.int .i64 (en i : Nat)) ∧ w'.cell? ⟨sb, 0, none⟩ = some (.slice (some ⟨g, 0, none⟩) s.row.length cap) ∧ w'.cell? ⟨B, O + 1, none⟩ = some (.int .i64 (p i : Nat)) ∧ w'.cell? ⟨B, O + 2, none⟩ = some (.int .i64 (l i : Nat))) (by kernel_rfl) (by kernel_rfl) (by rintro ⟨a, w, hF⟩; exact hF) ?_
      have nw : IntKind.i64.wrap ((p i : Int) + l i) = (p i : Int) + l i := by rw [IntKind.wrap_i64]; omega
      have n1 : (0 : Int) ≤ en i := by omega
      have n2 : (en i : Int) ≤ s.row.length := by omega
      have n3 : ¬ cap = en i := by omega
      have n4 : (0 : Int) ≤ p i := by omega
      have n5 : (p i : Int) + l i ≤ cap := by omega
      have n6 : ¬ cap = p i := by omega
      have n7 : (0 : Int) ≤ (p i : Int) + l i := by omega
      have n8 : (p i : Int) ≤ (p i : Int) + l i := by omega
      have n9 : ((p i : Int) + l i).toNat - p i = l i := by omega
      have hS : W'.drew.cell? ⟨W.heap.size, 0, none⟩ = some (.pointer (some ⟨sb, 0, none⟩)) ∧ W'.drew.cell? ⟨W.heap.size + 1, 0, none⟩ = some (.int .i64 (en i : Nat)) ∧ W'.drew.cell? ⟨sb, 0, none⟩ = some (.slice (some ⟨g, 0, none⟩) s.row.length cap) ∧ W'.drew.cell? ⟨B, O + 1, none⟩ = some (.int .i64 (p i : Nat)) ∧ W'.drew.cell? ⟨B, O + 2, none⟩ = some (.int .i64 (l i : Nat)) := ⟨cs, ce, c0, d1, d2⟩
      (refine wpAnyH_take (i := 0) (v := ?_) rfl (by kernel_rfl) (by kernel_rfl) (by kernel_rfl) (fun _ _ _ h => h) (Or.inl ⟨by rfl, ?_⟩) hS ?_); rotate_left; focus (intro w' hSw; obtain ⟨q1, q2, q3, q4, q5⟩ := hSw; go_simp; (try with_reducible rfl)); (try simp only [Act.put, List.setIfInBounds_toArray, List.set_cons_zero, List.set_cons_succ])
      (refine wpAnyH_take (i := 1) (v := ?_) rfl (by kernel_rfl) (by kernel_rfl) (by kernel_rfl) (fun _ _ _ h => h) (Or.inl ⟨by rfl, ?_⟩) hS ?_); rotate_left; focus (intro w' hSw; obtain ⟨q1, q2, q3, q4, q5⟩ := hSw; go_simp; (try with_reducible rfl)); (try simp only [Act.put, List.setIfInBounds_toArray, List.set_cons_zero, List.set_cons_succ])
      (refine wpAnyH_take (i := 2) (v := ?_) rfl (by kernel_rfl) (by kernel_rfl) (by kernel_rfl) (fun _ _ _ h => h) (Or.inl ⟨by rfl, ?_⟩) hS ?_); rotate_left; focus (intro w' hSw; obtain ⟨q1, q2, q3, q4, q5⟩ := hSw; go_simp; (try with_reducible rfl)); (try simp only [Act.put, List.setIfInBounds_toArray, List.set_cons_zero, List.set_cons_succ])
      (refine wpAnyH_take (i := 3) (v := ?_) rfl (by kernel_rfl) (by kernel_rfl) (by kernel_rfl) (fun _ _ _ h => h) (Or.inl ⟨by rfl, ?_⟩) hS ?_); rotate_left; focus (intro w' hSw; obtain ⟨q1, q2, q3, q4, q5⟩ := hSw; go_simp; (try with_reducible rfl)); (try simp only [Act.put, List.setIfInBounds_toArray, List.set_cons_zero, List.set_cons_succ])
      (refine wpAnyH_take (i := 4) (v := ?_) rfl (by kernel_rfl) (by kernel_rfl) (by kernel_rfl) (fun _ _ _ h => h) (Or.inl ⟨by rfl, ?_⟩) hS ?_); rotate_left; focus (intro w' hSw; obtain ⟨q1, q2, q3, q4, q5⟩ := hSw; go_simp; (try with_reducible rfl)); (try simp only [Act.put, List.setIfInBounds_toArray, List.set_cons_zero, List.set_cons_succ])
      (refine wpAnyH_take (i := 5) (v := ?_) rfl (by kernel_rfl) (by kernel_rfl) (by kernel_rfl) (fun _ _ _ h => h) (Or.inl ⟨by rfl, ?_⟩) hS ?_); rotate_left; focus (intro w' hSw; obtain ⟨q1, q2, q3, q4, q5⟩ := hSw; go_simp; (try with_reducible rfl)); (try simp only [Act.put, List.setIfInBounds_toArray, List.set_cons_zero, List.set_cons_succ])
      (refine wpAnyH_take (i := 6) (v := ?_) rfl (by kernel_rfl) (by kernel_rfl) (by kernel_rfl) (fun _ _ _ h => h) (Or.inl ⟨by rfl, ?_⟩) hS ?_); rotate_left; focus (intro w' hSw; obtain ⟨q1, q2, q3, q4, q5⟩ := hSw; go_simp; (try with_reducible rfl)); (try simp only [Act.put, List.setIfInBounds_toArray, List.set_cons_zero, List.set_cons_succ])
      (refine wpAnyH_take (i := 7) (v := ?_) rfl (by kernel_rfl) (by kernel_rfl) (by kernel_rfl) (fun _ _ _ h => h) (Or.inl ⟨by rfl, ?_⟩) hS ?_); rotate_left; focus (intro w' hSw; obtain ⟨q1, q2, q3, q4, q5⟩ := hSw; go_simp; (try with_reducible rfl)); (try simp only [Act.put, List.setIfInBounds_toArray, List.set_cons_zero, List.set_cons_succ])
      (refine wpAnyH_take (i := 8) (v := ?_) rfl (by kernel_rfl) (by kernel_rfl) (by kernel_rfl) (fun _ _ _ h => h) (Or.inl ⟨by rfl, ?_⟩) hS ?_); rotate_left; focus (intro w' hSw; obtain ⟨q1, q2, q3, q4, q5⟩ := hSw; go_simp; (try with_reducible rfl)); (try simp only [Act.put, List.setIfInBounds_toArray, List.set_cons_zero, List.set_cons_succ])
      (refine wpAnyH_take (i := 9) (v := ?_) rfl (by kernel_rfl) (by kernel_rfl) (by kernel_rfl) (fun _ _ _ h => h) (Or.inl ⟨by rfl, ?_⟩) hS ?_); rotate_left; focus (intro w' hSw; obtain ⟨q1, q2, q3, q4, q5⟩ := hSw; go_simp; (try with_reducible rfl)); (try simp only [Act.put, List.setIfInBounds_toArray, List.set_cons_zero, List.set_cons_succ])
      (refine wpAnyH_take (i := 10) (v := ?_) rfl (by kernel_rfl) (by kernel_rfl) (by kernel_rfl) (fun _ _ _ h => h) (Or.inl ⟨by rfl, ?_⟩) hS ?_); rotate_left; focus (intro w' hSw; obtain ⟨q1, q2, q3, q4, q5⟩ := hSw; go_simp; (try with_reducible rfl)); (try simp only [Act.put, List.setIfInBounds_toArray, List.set_cons_zero, List.set_cons_succ])
      (refine wpAnyH_take (i := 11) (v := ?_) rfl (by kernel_rfl) (by kernel_rfl) (by kernel_rfl) (fun _ _ _ h => h) (Or.inl ⟨by rfl, ?_⟩) hS ?_); rotate_left; focus (intro w' hSw; obtain ⟨q1, q2, q3, q4, q5⟩ := hSw; go_simp; (try with_reducible rfl)); (try simp only [Act.put, List.setIfInBounds_toArray, List.set_cons_zero, List.set_cons_succ])
      (refine wpAnyH_take (i := 12) (v := ?_) rfl (by kernel_rfl) (by kernel_rfl) (by kernel_rfl) (fun _ _ _ h => h) (Or.inl ⟨by rfl, ?_⟩) hS ?_); rotate_left; focus (intro w' hSw; obtain ⟨q1, q2, q3, q4, q5⟩ := hSw; go_simp; (try with_reducible rfl)); (try simp only [Act.put, List.setIfInBounds_toArray, List.set_cons_zero, List.set_cons_succ])
      (refine wpAnyH_take (i := 13) (v := ?_) rfl (by kernel_rfl) (by kernel_rfl) (by kernel_rfl) (fun _ _ _ h => h) (Or.inl ⟨by rfl, ?_⟩) hS ?_); rotate_left; focus (intro w' hSw; obtain ⟨q1, q2, q3, q4, q5⟩ := hSw; go_simp; (try with_reducible rfl)); (try simp only [Act.put, List.setIfInBounds_toArray, List.set_cons_zero, List.set_cons_succ])
      (refine wpAnyH_take (i := 14) (v := ?_) rfl (by kernel_rfl) (by kernel_rfl) (by kernel_rfl) (fun _ _ _ h => h) (Or.inl ⟨by rfl, ?_⟩) hS ?_); rotate_left; focus (intro w' hSw; obtain ⟨q1, q2, q3, q4, q5⟩ := hSw; go_simp; (try with_reducible rfl)); (try simp only [Act.put, List.setIfInBounds_toArray, List.set_cons_zero, List.set_cons_succ])
      (refine wpAnyH_take (i := 15) (v := ?_) rfl (by kernel_rfl) (by kernel_rfl) (by kernel_rfl) (fun _ _ _ h => h) (Or.inl ⟨by rfl, ?_⟩) hS ?_); rotate_left; focus (intro w' hSw; obtain ⟨q1, q2, q3, q4, q5⟩ := hSw; go_simp; (try with_reducible rfl)); (try simp only [Act.put, List.setIfInBounds_toArray, List.set_cons_zero, List.set_cons_succ])
      (refine wpAnyH_take (i := 16) (v := ?_) rfl (by kernel_rfl) (by kernel_rfl) (by kernel_rfl) (fun _ _ _ h => h) (Or.inl ⟨by rfl, ?_⟩) hS ?_); rotate_left; focus (intro w' hSw; obtain ⟨q1, q2, q3, q4, q5⟩ := hSw; go_simp; (try with_reducible rfl)); (try simp only [Act.put, List.setIfInBounds_toArray, List.set_cons_zero, List.set_cons_succ])
      (refine wpAnyH_take (i := 17) (v := ?_) rfl (by kernel_rfl) (by kernel_rfl) (by kernel_rfl) (fun _ _ _ h => h) (Or.inl ⟨by rfl, ?_⟩) hS ?_); rotate_left; focus (intro w' hSw; obtain ⟨q1, q2, q3, q4, q5⟩ := hSw; go_simp; (try with_reducible rfl)); (try simp only [Act.put, List.setIfInBounds_toArray, List.set_cons_zero, List.set_cons_succ])
      (refine wpAnyH_take (i := 18) (v := ?_) rfl (by kernel_rfl) (by kernel_rfl) (by kernel_rfl) (fun _ _ _ h => h) (Or.inl ⟨by rfl, ?_⟩) hS ?_); rotate_left; focus (intro w' hSw; obtain ⟨q1, q2, q3, q4, q5⟩ := hSw; go_simp; (try with_reducible rfl)); (try simp only [Act.put, List.setIfInBounds_toArray, List.set_cons_zero, List.set_cons_succ])
      (refine wpAnyH_take (i := 19) (v := ?_) rfl (by kernel_rfl) (by kernel_rfl) (by kernel_rfl) (fun _ _ _ h => h) (Or.inl ⟨by rfl, ?_⟩) hS ?_); rotate_left; focus (intro w' hSw; obtain ⟨q1, q2, q3, q4, q5⟩ := hSw; go_simp; (try with_reducible rfl)); (try simp only [Act.put, List.setIfInBounds_toArray, List.set_cons_zero, List.set_cons_succ])
      (refine wpAnyH_take (i := 20) (v := ?_) rfl (by kernel_rfl) (by kernel_rfl) (by kernel_rfl) (fun _ _ _ h => h) (Or.inl ⟨by rfl, ?_⟩) hS ?_); rotate_left; focus (intro w' hSw; obtain ⟨q1, q2, q3, q4, q5⟩ := hSw; go_simp; (try with_reducible rfl)); (try simp only [Act.put, List.setIfInBounds_toArray, List.set_cons_zero, List.set_cons_succ])
      (refine wpAnyH_take (i := 21) (v := ?_) rfl (by kernel_rfl) (by kernel_rfl) (by kernel_rfl) (fun _ _ _ h => h) (Or.inl ⟨by rfl, ?_⟩) hS ?_); rotate_left; focus (intro w' hSw; obtain ⟨q1, q2, q3, q4, q5⟩ := hSw; go_simp; (try with_reducible rfl)); (try simp only [Act.put, List.setIfInBounds_toArray, List.set_cons_zero, List.set_cons_succ])
      (refine wpAnyH_take (i := 22) (v := ?_) rfl (by kernel_rfl) (by kernel_rfl) (by kernel_rfl) (fun _ _ _ h => h) (Or.inl ⟨by rfl, ?_⟩) hS ?_); rotate_left; focus (intro w' hSw; obtain ⟨q1, q2, q3, q4, q5⟩ := hSw; go_simp; (try with_reducible rfl)); (try simp only [Act.put, List.setIfInBounds_toArray, List.set_cons_zero, List.set_cons_succ])
      (refine wpAnyH_take (i := 23) (v := ?_) rfl (by kernel_rfl) (by kernel_rfl) (by kernel_rfl) (fun _ _ _ h => h) (Or.inl ⟨by rfl, ?_⟩) hS ?_); rotate_left; focus (intro w' hSw; obtain ⟨q1, q2, q3, q4, q5⟩ := hSw; go_simp; (try with_reducible rfl)); (try simp only [Act.put, List.setIfInBounds_toArray, List.set_cons_zero, List.set_cons_succ])
      have hcl : (((seg (packN s c bl p l en i).row (p i) (l i)).map byteV)).length = l i := by rw [List.length_map, seg_len _ _ _ (by rw [hrl]; omega)]
      have hcopy : ∀ ty, (Builtin.copy_ #[66, 66] ty #[.slice (some ⟨g, en i, none⟩) (s.row.length - en i) (cap - en i), .slice (some ⟨g, p i, none⟩) (l i) (cap - p i)]).run Tryz.prog W'.drew = .ok (goInt (l i)) (W'.drew.setCells g (en i) ((seg (packN s c bl p l en i).row (p i) (l i)).map byteV)) := fun ty => by
        have e := run_copy_cells (P := Tryz.prog) W'.drew 66 66 ty 5 g (en i) (s.row.length - en i) (cap - en i) ⟨g, p i, none⟩ (l i) (cap - p i) ((seg (packN s c bl p l en i).row (p i) (l i)).map byteV) under57 (by kernel_rfl) (by rw [hcl]; exact (Nat.min_eq_left (by omega)).symm) ?_ ?_ ?_ ?_
        · rw [hcl] at e; exact e
        · intro j v hv
          have hj : j < l i := by rw [← hcl]; exact (List.getElem?_eq_some_iff.1 hv).1
          have ea : (⟨g, p i, none⟩ : Addr).add j = ⟨g, p i + j, none⟩ := by unfold Addr.add; split <;> simp_all
          have er := rcell g2 (g := g) (cap := cap) (by rw [hrl]; exact hvr) (p i + j) (by rw [hrl]; omega)
          rw [ea]
          show W'.cell? _ = _
          rw [er, ← hv, List.getElem?_map, seg_get _ _ _ _ hj, List.getElem?_eq_getElem (by rw [hrl]; omega)]
          rfl
        · intro j hj
          rw [hcl] at hj
          have er := rcell g2 (g := g) (cap := cap) (by rw [hrl]; exact hvr) (en i + j) (by rw [hrl]; omega)
          show (W'.cell? _).isSome = true
          rw [er]; rfl
        · intro j hj
          have er := g2.row
          rw [hrl, hvr] at er
          exact er.frozenAt _
        · intro v hv
          obtain ⟨y, _, rfl⟩ := List.mem_map.1 hv
          rfl
      have gne : sb ≠ g := by
        have := own_ne g2.row g2.obj (by decide)
        rw [hvr] at this
        simpa [Value.ownBlock] using this
      have bne : B ≠ g := by
        rcases pt with ⟨_, rfl, _⟩ | ⟨_, e, _⟩
        · exact gne
        · have := own_apart g2.blk g2.row (by decide)
          rw [e, hvr] at this
          simpa [Value.ownBlock] using this
      have glt : g < W.heap.size := lr g (by rw [hvr]; rfl)
      have far : ∀ x : Nat, x ≠ g → (W'.drew.setCells g (en i) ((seg (packN s c bl p l en i).row (p i) (l i)).map byteV)).heap[x]? = W'.heap[x]? := fun x hx => setCells_far W'.drew g (en i) _ x hx
      refine wpAnyH_ready (rs := [24]) (by kernel_rfl) (by simp) ?_
      refine AllReadyH.cons rfl (fun K hK => ?_) AllReadyH.nil
      go_simp
      refine hK.out _ _ ⟨?_, ?_, ?_, ?_, ?_⟩ (fun hS2 => ?_)
      · exact (World.cell?_of_block (w := W') (far _ (by show W.heap.size ≠ g; omega))).trans cs
      · exact (World.cell?_of_block (w := W') (far _ (by show W.heap.size + 1 ≠ g; omega))).trans ce
      · exact (World.cell?_of_block (w := W') (far _ gne)).trans c0
      · exact (World.cell?_of_block (w := W') (far _ bne)).trans d1
      · exact (World.cell?_of_block (w := W') (far _ bne)).trans d2
      clear hK K
      refine wpAnyH_done (by kernel_rfl) ?_ _
      have hL5 := (g2.drew).rstores (g := g) (cap := cap) (by rw [hrl]; exact hvr) (en i) (seg (packN s c bl p l en i).row (p i) (l i))
      have hU5 := (g1.drew).setCells (g := g) (hO.row g (by rw [hvr]; rfl)) (en i) ((seg (packN s c bl p l en i).row (p i) (l i)).map byteV)
      have hg5 : ({ packN s c bl p l en i with row := setL (packN s c bl p l en i).row (en i) (seg (packN s c bl p l en i).row (p i) (l i)) } : Sto).get c[i] = some (bl i) := hg
      have fB1 := box_of (far W.heap.size (by omega)) g3
      have fB2 := box_of (far (W.heap.size + 1) (by omega)) g4
      have fB3 := box_of (far (W.heap.size + 2) (by omega)) g5
      have fL := far L (by omega)
      have fD := far W2.heap.size (by omega)
      have fN := far (W.heap.size + 2 + 1) (by omega)
      have z5 := setCells_size W'.drew g (en i) ((seg (packN s c bl p l en i).row (p i) (l i)).map byteV)
      have zz : W'.drew.heap.size = W'.heap.size := rfl
      rw [zz] at z5
      clear far hcopy hS hcl cs ce c0 hS2 d1 d2
      generalize World.setCells (World.drew W') _ _ _ = W5 at *
      obtain ⟨_, d1, d2, _, _⟩ := bcells hL5 hg5 pt
      have t1 := hL5.bthaw hg5 pt 1
      rw [k.len i hi] at d2
      have ce := fB2.cell
      have hBe : B ≠ W.heap.size + 1 ∧ B ≠ W.heap.size ∧ B ≠ W.heap.size + 2 ∧ B < W.heap.size := by
        rcases pt with ⟨_, rfl, _⟩ | ⟨_, e, _⟩
        · omega
        · have := lb B e; omega
      have hL6 := hL5.bstore (c := { bl i with pos := (en i : Nat) }) hg5 pt 1 (by omega) (.int .i64 (en i : Nat)) rfl
      have hU6 := hU5.setCell (p := ⟨B, O + 1, none⟩) (.inl (hO.pt pt)) (.int .i64 (en i : Nat))
      have e1 : (W5.setCell ⟨B, O + 1, none⟩ (.int .i64 (en i : Nat))).cell? ⟨B, O + 1, none⟩ = some (.int .i64 (en i : Nat)) := World.cell?_setCell_same' _ _ _ (by rw [d1]; rfl)
      have e2 : (W5.setCell ⟨B, O + 1, none⟩ (.int .i64 (en i : Nat))).cell? ⟨B, O + 2, none⟩ = some (.int .i64 (l i : Nat)) := by
        have hg6 := get_set_same hg5 ({ bl i with pos := (en i : Nat) } : Blk)
        obtain ⟨_, _, x2, _, _⟩ := bcells hL6 hg6 pt
        rw [x2]; exact congrArg (fun z => some (Value.int .i64 z)) (k.len i hi)
      have fb := f.blk _ _ (k.get i _ hn)
      rw [k.pos i hi, k.len i hi] at fb
      have cend := end_c (W5.setCell ⟨B, O + 1, none⟩ (.int .i64 (en i : Nat))) B O (en i) (l i) e1 e2 (by omega) (by omega) (by omega) (by omega)
      have hen : (en i : Int) + up8 (l i) = (en (i + 1) : Nat) := by rw [k.up i hi, k.en1 i hi]; omega
      rw [hen] at cend
      have hf6 : ∀ x : Nat, x ≠ B → (W5.setCell ⟨B, O + 1, none⟩ (.int .i64 (en i : Nat))).heap[x]? = W5.heap[x]? := fun x hx => Below.heap_setCell _ _ _ _ hx
      have F := fun m => pack_fin (W' := W') (en (i + 1)) c[i] L W2.heap.size h hL6 hU6 hO.sb (box_set fB1 (by omega)) (box_set fB2 (by omega)) (box_set fB3 (by omega)) ((hf6 L (by omega)).trans fL) ((hf6 _ (by omega)).trans fD) ((hf6 _ (by omega)).trans fN) (by omega) (by omega) m
      gi_wp2_with ((refine ⟨trivial, ?_⟩); gi_at_call 267; (refine (CallsIn.inRound L (callsIn_wide.2 cend)).mono ?_); rintro e W7 ⟨rfl, m7, hw⟩; (have q := F m7); (rw [← hw] at q); (obtain ⟨q1, q2, q3, q4, q5, q6⟩ := q); clear hw F)
      obtain ⟨r1, r2, r3, r4, r5, r6⟩ := q6.out _ rfl
      exact ⟨r1, r2, by rw [packN_succ hn]; exact r3, r4, r5, r6⟩
    · obtain ⟨hi0, ao, hvr, hr0⟩ : i = 0 ∧ ∃ ao, vr = .slice ao 0 0 ∧ s.row.length = 0 := by
        have key : ∀ g cap, vr = .slice (some ⟨g, 0, none⟩) s.row.length cap → s.row.length ≤ cap → i = 0 ∧ cap = 0 := by
          intro g cap e1 e2
          by_cases h0 : i = 0
          · refine ⟨h0, ?_⟩
            false_or_by_contra
            rename_i hc0
            exact hA ⟨g, cap, e1, e2, by rw [h0, k.en0]; omega, by rw [h0, k.first.1]; omega⟩
          · have hl0 := k.rest i (by omega) hi
            exact absurd ⟨g, cap, e1, e2, by omega, by omega⟩ hA
        rcases g2.row.2 with ⟨e, e'⟩ | ⟨g, cap, cur, e, _, _, hc, _⟩
        · rw [hrl] at e'
          refine ⟨?_, none, e, e'⟩
          false_or_by_contra
          rename_i h0
          have hl0 := k.rest i (by omega) hi
          omega
        · rw [hrl] at e hc
          obtain ⟨h0, hc0⟩ := key g cap e hc
          exact ⟨h0, some ⟨g, 0, none⟩, by rw [e, hc0, show s.row.length = 0 by omega], by omega⟩
      have nw0 : IntKind.i64.wrap 0 = 0 := by decide
      have hen0 : en i = 0 := by rw [hi0]; exact k.en0
      have hp0 : p i = 0 := by rw [hi0]; exact k.first.1
      have hl0 : l i = 0 := by rw [hi0]; exact k.first.2
      clear hi0
      have hcopy : ∀ ty, (Builtin.copy_ #[66, 66] ty #[.slice ao 0 0, .slice ao 0 0]).run Tryz.prog W'.drew = .ok (goInt 0) W'.drew := fun ty => run_copy_none (P := Tryz.prog) W'.drew 66 66 ty 5 ao ao 0 0 0 0 under57 (by kernel_rfl) rfl
      have hL5 : Lay W'.drew sb vr vb vf { packN s c bl p l en i with row := setL (packN s c bl p l en i).row (en i) (seg (packN s c bl p l en i).row (p i) (l i)) } := by
        rw [hl0, show seg (packN s c bl p l en i).row (p i) 0 = [] by simp [seg]]
        exact g2.drew
      rw [hvr] at c0
      rw [hen0] at ce
      rw [hp0] at d1
      rw [hl0] at d2
      refine round_held (S := fun w' => w'.cell? ⟨W.heap.size, 0, none⟩ = some (.pointer (some ⟨sb, 0, none⟩)) ∧ w'.cell? ⟨W.heap.size + 1, 0, none⟩ = some (.int .i64 ((0 : Nat) : Int)) ∧ w'.cell? ⟨sb, 0, none⟩ = some (.slice ao 0 0) ∧ w'.cell? ⟨B, O + 1, none⟩ = some (.int .i64 ((0 : Nat) : Int)) ∧ w'.cell? ⟨B, O + 2, none⟩ = some (.int .i64 ((0 : Nat) : Int))) (by kernel_rfl) (by kernel_rfl) (by rintro ⟨a, w, hF⟩; exact hF) ?_
      have hS : W'.drew.cell? ⟨W.heap.size, 0, none⟩ = some (.pointer (some ⟨sb, 0, none⟩)) ∧ W'.drew.cell? ⟨W.heap.size + 1, 0, none⟩ = some (.int .i64 ((0 : Nat) : Int)) ∧ W'.drew.cell? ⟨sb, 0, none⟩ = some (.slice ao 0 0) ∧ W'.drew.cell? ⟨B, O + 1, none⟩ = some (.int .i64 ((0 : Nat) : Int)) ∧ W'.drew.cell? ⟨B, O + 2, none⟩ = some (.int .i64 ((0 : Nat) : Int)) := ⟨cs, ce, c0, d1, d2⟩
      (refine wpAnyH_take (i := 0) (v := ?_) rfl (by kernel_rfl) (by kernel_rfl) (by kernel_rfl) (fun _ _ _ h => h) (Or.inl ⟨by rfl, ?_⟩) hS ?_); rotate_left; focus (intro w' hSw; obtain ⟨q1, q2, q3, q4, q5⟩ := hSw; go_simp; (try with_reducible rfl)); (try simp only [Act.put, List.setIfInBounds_toArray, List.set_cons_zero, List.set_cons_succ])
      (refine wpAnyH_take (i := 1) (v := ?_) rfl (by kernel_rfl) (by kernel_rfl) (by kernel_rfl) (fun _ _ _ h => h) (Or.inl ⟨by rfl, ?_⟩) hS ?_); rotate_left; focus (intro w' hSw; obtain ⟨q1, q2, q3, q4, q5⟩ := hSw; go_simp; (try with_reducible rfl)); (try simp only [Act.put, List.setIfInBounds_toArray, List.set_cons_zero, List.set_cons_succ])
      (refine wpAnyH_take (i := 2) (v := ?_) rfl (by kernel_rfl) (by kernel_rfl) (by kernel_rfl) (fun _ _ _ h => h) (Or.inl ⟨by rfl, ?_⟩) hS ?_); rotate_left; focus (intro w' hSw; obtain ⟨q1, q2, q3, q4, q5⟩ := hSw; go_simp; (try with_reducible rfl)); (try simp only [Act.put, List.setIfInBounds_toArray, List.set_cons_zero, List.set_cons_succ])
      (refine wpAnyH_take (i := 3) (v := ?_) rfl (by kernel_rfl) (by kernel_rfl) (by kernel_rfl) (fun _ _ _ h => h) (Or.inl ⟨by rfl, ?_⟩) hS ?_); rotate_left; focus (intro w' hSw; obtain ⟨q1, q2, q3, q4, q5⟩ := hSw; go_simp; (try with_reducible rfl)); (try simp only [Act.put, List.setIfInBounds_toArray, List.set_cons_zero, List.set_cons_succ])
      (refine wpAnyH_take (i := 4) (v := ?_) rfl (by kernel_rfl) (by kernel_rfl) (by kernel_rfl) (fun _ _ _ h => h) (Or.inl ⟨by rfl, ?_⟩) hS ?_); rotate_left; focus (intro w' hSw; obtain ⟨q1, q2, q3, q4, q5⟩ := hSw; go_simp; (try with_reducible rfl)); (try simp only [Act.put, List.setIfInBounds_toArray, List.set_cons_zero, List.set_cons_succ])
      (refine wpAnyH_take (i := 5) (v := ?_) rfl (by kernel_rfl) (by kernel_rfl) (by kernel_rfl) (fun _ _ _ h => h) (Or.inl ⟨by rfl, ?_⟩) hS ?_); rotate_left; focus (intro w' hSw; obtain ⟨q1, q2, q3, q4, q5⟩ := hSw; go_simp; (try with_reducible rfl)); (try simp only [Act.put, List.setIfInBounds_toArray, List.set_cons_zero, List.set_cons_succ])
      (refine wpAnyH_take (i := 6) (v := ?_) rfl (by kernel_rfl) (by kernel_rfl) (by kernel_rfl) (fun _ _ _ h => h) (Or.inl ⟨by rfl, ?_⟩) hS ?_); rotate_left; focus (intro w' hSw; obtain ⟨q1, q2, q3, q4, q5⟩ := hSw; go_simp; (try with_reducible rfl)); (try simp only [Act.put, List.setIfInBounds_toArray, List.set_cons_zero, List.set_cons_succ])
      (refine wpAnyH_take (i := 7) (v := ?_) rfl (by kernel_rfl) (by kernel_rfl) (by kernel_rfl) (fun _ _ _ h => h) (Or.inl ⟨by rfl, ?_⟩) hS ?_); rotate_left; focus (intro w' hSw; obtain ⟨q1, q2, q3, q4, q5⟩ := hSw; go_simp; (try with_reducible rfl)); (try simp only [Act.put, List.setIfInBounds_toArray, List.set_cons_zero, List.set_cons_succ])
      (refine wpAnyH_take (i := 8) (v := ?_) rfl (by kernel_rfl) (by kernel_rfl) (by kernel_rfl) (fun _ _ _ h => h) (Or.inl ⟨by rfl, ?_⟩) hS ?_); rotate_left; focus (intro w' hSw; obtain ⟨q1, q2, q3, q4, q5⟩ := hSw; go_simp; (try with_reducible rfl)); (try simp only [Act.put, List.setIfInBounds_toArray, List.set_cons_zero, List.set_cons_succ])
      (refine wpAnyH_take (i := 9) (v := ?_) rfl (by kernel_rfl) (by kernel_rfl) (by kernel_rfl) (fun _ _ _ h => h) (Or.inl ⟨by rfl, ?_⟩) hS ?_); rotate_left; focus (intro w' hSw; obtain ⟨q1, q2, q3, q4, q5⟩ := hSw; go_simp; (try with_reducible rfl)); (try simp only [Act.put, List.setIfInBounds_toArray, List.set_cons_zero, List.set_cons_succ])
      (refine wpAnyH_take (i := 10) (v := ?_) rfl (by kernel_rfl) (by kernel_rfl) (by kernel_rfl) (fun _ _ _ h => h) (Or.inl ⟨by rfl, ?_⟩) hS ?_); rotate_left; focus (intro w' hSw; obtain ⟨q1, q2, q3, q4, q5⟩ := hSw; go_simp; (try with_reducible rfl)); (try simp only [Act.put, List.setIfInBounds_toArray, List.set_cons_zero, List.set_cons_succ])
      (refine wpAnyH_take (i := 11) (v := ?_) rfl (by kernel_rfl) (by kernel_rfl) (by kernel_rfl) (fun _ _ _ h => h) (Or.inl ⟨by rfl, ?_⟩) hS ?_); rotate_left; focus (intro w' hSw; obtain ⟨q1, q2, q3, q4, q5⟩ := hSw; go_simp; (try with_reducible rfl)); (try simp only [Act.put, List.setIfInBounds_toArray, List.set_cons_zero, List.set_cons_succ])
      (refine wpAnyH_take (i := 12) (v := ?_) rfl (by kernel_rfl) (by kernel_rfl) (by kernel_rfl) (fun _ _ _ h => h) (Or.inl ⟨by rfl, ?_⟩) hS ?_); rotate_left; focus (intro w' hSw; obtain ⟨q1, q2, q3, q4, q5⟩ := hSw; go_simp; (try with_reducible rfl)); (try simp only [Act.put, List.setIfInBounds_toArray, List.set_cons_zero, List.set_cons_succ])
      (refine wpAnyH_take (i := 13) (v := ?_) rfl (by kernel_rfl) (by kernel_rfl) (by kernel_rfl) (fun _ _ _ h => h) (Or.inl ⟨by rfl, ?_⟩) hS ?_); rotate_left; focus (intro w' hSw; obtain ⟨q1, q2, q3, q4, q5⟩ := hSw; go_simp; (try with_reducible rfl)); (try simp only [Act.put, List.setIfInBounds_toArray, List.set_cons_zero, List.set_cons_succ])
      (refine wpAnyH_take (i := 14) (v := ?_) rfl (by kernel_rfl) (by kernel_rfl) (by kernel_rfl) (fun _ _ _ h => h) (Or.inl ⟨by rfl, ?_⟩) hS ?_); rotate_left; focus (intro w' hSw; obtain ⟨q1, q2, q3, q4, q5⟩ := hSw; go_simp; (try with_reducible rfl)); (try simp only [Act.put, List.setIfInBounds_toArray, List.set_cons_zero, List.set_cons_succ])
      (refine wpAnyH_take (i := 15) (v := ?_) rfl (by kernel_rfl) (by kernel_rfl) (by kernel_rfl) (fun _ _ _ h => h) (Or.inl ⟨by rfl, ?_⟩) hS ?_); rotate_left; focus (intro w' hSw; obtain ⟨q1, q2, q3, q4, q5⟩ := hSw; go_simp; (try with_reducible rfl)); (try simp only [Act.put, List.setIfInBounds_toArray, List.set_cons_zero, List.set_cons_succ])
      (refine wpAnyH_take (i := 16) (v := ?_) rfl (by kernel_rfl) (by kernel_rfl) (by kernel_rfl) (fun _ _ _ h => h) (Or.inl ⟨by rfl, ?_⟩) hS ?_); rotate_left; focus (intro w' hSw; obtain ⟨q1, q2, q3, q4, q5⟩ := hSw; go_simp; (try with_reducible rfl)); (try simp only [Act.put, List.setIfInBounds_toArray, List.set_cons_zero, List.set_cons_succ])
      (refine wpAnyH_take (i := 17) (v := ?_) rfl (by kernel_rfl) (by kernel_rfl) (by kernel_rfl) (fun _ _ _ h => h) (Or.inl ⟨by rfl, ?_⟩) hS ?_); rotate_left; focus (intro w' hSw; obtain ⟨q1, q2, q3, q4, q5⟩ := hSw; go_simp; (try with_reducible rfl)); (try simp only [Act.put, List.setIfInBounds_toArray, List.set_cons_zero, List.set_cons_succ])
      (refine wpAnyH_take (i := 18) (v := ?_) rfl (by kernel_rfl) (by kernel_rfl) (by kernel_rfl) (fun _ _ _ h => h) (Or.inl ⟨by rfl, ?_⟩) hS ?_); rotate_left; focus (intro w' hSw; obtain ⟨q1, q2, q3, q4, q5⟩ := hSw; go_simp; (try with_reducible rfl)); (try simp only [Act.put, List.setIfInBounds_toArray, List.set_cons_zero, List.set_cons_succ])
      (refine wpAnyH_take (i := 19) (v := ?_) rfl (by kernel_rfl) (by kernel_rfl) (by kernel_rfl) (fun _ _ _ h => h) (Or.inl ⟨by rfl, ?_⟩) hS ?_); rotate_left; focus (intro w' hSw; obtain ⟨q1, q2, q3, q4, q5⟩ := hSw; go_simp; (try with_reducible rfl)); (try simp only [Act.put, List.setIfInBounds_toArray, List.set_cons_zero, List.set_cons_succ])
      (refine wpAnyH_take (i := 20) (v := ?_) rfl (by kernel_rfl) (by kernel_rfl) (by kernel_rfl) (fun _ _ _ h => h) (Or.inl ⟨by rfl, ?_⟩) hS ?_); rotate_left; focus (intro w' hSw; obtain ⟨q1, q2, q3, q4, q5⟩ := hSw; go_simp; (try with_reducible rfl)); (try simp only [Act.put, List.setIfInBounds_toArray, List.set_cons_zero, List.set_cons_succ])
      (refine wpAnyH_take (i := 21) (v := ?_) rfl (by kernel_rfl) (by kernel_rfl) (by kernel_rfl) (fun _ _ _ h => h) (Or.inl ⟨by rfl, ?_⟩) hS ?_); rotate_left; focus (intro w' hSw; obtain ⟨q1, q2, q3, q4, q5⟩ := hSw; go_simp; (try with_reducible rfl)); (try simp only [Act.put, List.setIfInBounds_toArray, List.set_cons_zero, List.set_cons_succ])
      (refine wpAnyH_take (i := 22) (v := ?_) rfl (by kernel_rfl) (by kernel_rfl) (by kernel_rfl) (fun _ _ _ h => h) (Or.inl ⟨by rfl, ?_⟩) hS ?_); rotate_left; focus (intro w' hSw; obtain ⟨q1, q2, q3, q4, q5⟩ := hSw; go_simp; (try with_reducible rfl)); (try simp only [Act.put, List.setIfInBounds_toArray, List.set_cons_zero, List.set_cons_succ])
      (refine wpAnyH_take (i := 23) (v := ?_) rfl (by kernel_rfl) (by kernel_rfl) (by kernel_rfl) (fun _ _ _ h => h) (Or.inl ⟨by rfl, ?_⟩) hS ?_); rotate_left; focus (intro w' hSw; obtain ⟨q1, q2, q3, q4, q5⟩ := hSw; go_simp; (try with_reducible rfl)); (try simp only [Act.put, List.setIfInBounds_toArray, List.set_cons_zero, List.set_cons_succ])
      refine wpAnyH_ready (rs := [24]) (by kernel_rfl) (by simp) ?_
      refine AllReadyH.cons rfl (fun K hK => ?_) AllReadyH.nil
      go_simp
      refine hK.out _ _ hS (fun hS2 => ?_)
      clear hK K
      refine wpAnyH_done (by kernel_rfl) ?_ _
      have hU5 := g1.drew
      have hg5 : ({ packN s c bl p l en i with row := setL (packN s c bl p l en i).row (en i) (seg (packN s c bl p l en i).row (p i) (l i)) } : Sto).get c[i] = some (bl i) := hg
      have fB1 : Boxed W'.drew W.heap.size 41 (.pointer (some ⟨sb, 0, none⟩)) := g3
      have fB2 : Boxed W'.drew (W.heap.size + 1) 3 (.int .i64 (en i : Nat)) := g4
      have fB3 : Boxed W'.drew (W.heap.size + 2) 41 (.pointer (some ⟨sb, 0, none⟩)) := g5
      have fL : W'.drew.heap[L]? = W'.heap[L]? := rfl
      have fD : W'.drew.heap[W2.heap.size]? = W'.heap[W2.heap.size]? := rfl
      have fN : W'.drew.heap[W.heap.size + 2 + 1]? = W'.heap[W.heap.size + 2 + 1]? := rfl
      have zz : W'.drew.heap.size = W'.heap.size := rfl
      clear hcopy hS cs ce c0 hS2 d1 d2 hen0 hp0 hl0 hr0 hvr
      have fbl := f.blk
      generalize World.drew W' = W5 at *
      obtain ⟨_, d1, d2, _, _⟩ := bcells hL5 hg5 pt
      have t1 := hL5.bthaw hg5 pt 1
      rw [k.len i hi] at d2
      have ce := fB2.cell
      have hBe : B ≠ W.heap.size + 1 ∧ B ≠ W.heap.size ∧ B ≠ W.heap.size + 2 ∧ B < W.heap.size := by
        rcases pt with ⟨_, rfl, _⟩ | ⟨_, e, _⟩
        · omega
        · have := lb B e; omega
      have hL6 := hL5.bstore (c := { bl i with pos := (en i : Nat) }) hg5 pt 1 (by omega) (.int .i64 (en i : Nat)) rfl
      have hU6 := hU5.setCell (p := ⟨B, O + 1, none⟩) (.inl (hO.pt pt)) (.int .i64 (en i : Nat))
      have e1 : (W5.setCell ⟨B, O + 1, none⟩ (.int .i64 (en i : Nat))).cell? ⟨B, O + 1, none⟩ = some (.int .i64 (en i : Nat)) := World.cell?_setCell_same' _ _ _ (by rw [d1]; rfl)
      have e2 : (W5.setCell ⟨B, O + 1, none⟩ (.int .i64 (en i : Nat))).cell? ⟨B, O + 2, none⟩ = some (.int .i64 (l i : Nat)) := by
        have hg6 := get_set_same hg5 ({ bl i with pos := (en i : Nat) } : Blk)
        obtain ⟨_, _, x2, _, _⟩ := bcells hL6 hg6 pt
        rw [x2]; exact congrArg (fun z => some (Value.int .i64 z)) (k.len i hi)
      have fb := fbl _ _ (k.get i _ hn)
      rw [k.pos i hi, k.len i hi] at fb
      have cend := end_c (W5.setCell ⟨B, O + 1, none⟩ (.int .i64 (en i : Nat))) B O (en i) (l i) e1 e2 (by omega) (by omega) (by omega) (by omega)
      have hen : (en i : Int) + up8 (l i) = (en (i + 1) : Nat) := by rw [k.up i hi, k.en1 i hi]; omega
      rw [hen] at cend
      have hf6 : ∀ x : Nat, x ≠ B → (W5.setCell ⟨B, O + 1, none⟩ (.int .i64 (en i : Nat))).heap[x]? = W5.heap[x]? := fun x hx => Below.heap_setCell _ _ _ _ hx
      have F := fun m => pack_fin (W' := W') (en (i + 1)) c[i] L W2.heap.size h hL6 hU6 hO.sb (box_set fB1 (by omega)) (box_set fB2 (by omega)) (box_set fB3 (by omega)) ((hf6 L (by omega)).trans fL) ((hf6 _ (by omega)).trans fD) ((hf6 _ (by omega)).trans fN) (by omega) (by omega) m
      gi_wp2_with ((refine ⟨trivial, ?_⟩); gi_at_call 267; (refine (CallsIn.inRound L (callsIn_wide.2 cend)).mono ?_); rintro e W7 ⟨rfl, m7, hw⟩; (have q := F m7); (rw [← hw] at q); (obtain ⟨q1, q2, q3, q4, q5, q6⟩ := q); clear hw F)
      obtain ⟨r1, r2, r3, r4, r5, r6⟩ := q6.out _ rfl
      exact ⟨r1, r2, by rw [packN_succ hn]; exact r3, r4, r5, r6⟩
  case done =>
    rintro W' ⟨g1, g2, g3, g4, g5⟩ hD
    dsimp only
    have hrl : (packN s c bl p l en c.length).row.length = s.row.length := packN_row c.length
    have hel := k.end_le
    have fr := f.row
    have cs := g3.cell
    have ce := g4.cell
    have c0 := g2.cell 0
    have th0 := g2.thaw 0
    have ltD := (Array.getElem?_eq_some_iff.1 hD).1
    obtain ⟨ao, cap, hvr, hao⟩ : ∃ ao cap, vr = .slice ao s.row.length cap ∧ ((ao = none ∧ s.row.length = 0 ∧ cap = 0) ∨ (∃ g, ao = some ⟨g, 0, none⟩ ∧ s.row.length ≤ cap)) := by
      rcases g2.row.2 with ⟨e, e'⟩ | ⟨g, cap, cur, e, _, _, hc, _⟩
      · rw [hrl] at e'
        exact ⟨none, 0, by rw [e, e'], .inl ⟨rfl, e', rfl⟩⟩
      · rw [hrl] at e hc
        exact ⟨_, cap, e, .inr ⟨g, rfl, hc⟩⟩
    simp [Sto.obj, hvr] at c0
    obtain ⟨E, hE⟩ : ∃ E, E = en c.length := ⟨_, rfl⟩
    rw [← hE] at ce hel
    have hcut : (if cap = 0 then ao else Option.map (fun x => x.add 0) ao) = ao := by
      rcases hao with ⟨rfl, _, rfl⟩ | ⟨g, rfl, _⟩
      · rfl
      · split
        · rfl
        · simp [Addr.add]
    have hcap : (E : Int) ≤ cap := by
      rcases hao with ⟨_, h1, rfl⟩ | ⟨g, _, h1⟩ <;> omega
    have hE0 : (0 : Int) ≤ E := by omega
    have hown := own_take g2.row (o := ao) (cap := cap) (by rw [hrl]; exact hvr) (m := E) (by rw [hrl]; exact hel)
    have hLf : ∀ Wx, Lay Wx sb vr vb vf (packN s c bl p l en c.length) → Lay ((Wx.setCell ⟨sb, 0, none⟩ (.slice ao E cap)).setCell ⟨sb, 10, none⟩ (.bool false)) sb (.slice ao E cap) vb vf (packedSto s c bl p l en) := by
      intro Wx hx
      have hown := own_take hx.row (o := ao) (cap := cap) (by rw [hrl]; exact hvr) (m := E) (by rw [hrl]; exact hel)
      rw [← List.map_take] at hown
      have hlen : ((packN s c bl p l en c.length).row.take E).length = E := by rw [List.length_take, hrl]; omega
      have h1 : Lay (Wx.setCell ⟨sb, 0, none⟩ (.slice ao E cap)) sb (.slice ao E cap) vb vf { packN s c bl p l en c.length with row := (packN s c bl p l en c.length).row.take E } := by
        refine hx.regrow_row (v2 := .slice ao E cap) ⟨rfl, rfl, rfl, Nat.le_refl _, fun _ _ _ => rfl⟩ ?_
        rw [hlen]; exact hown
      have h2 := h1.store (s' := packedSto s c bl p l en) 10 (.bool false) (by simp [Sto.obj, packedSto]) (by rw [packedSto, ← hE]) rfl rfl
      exact h2
    have HO : Own S sb (.slice ao E cap) vb vf := ⟨hO.sb, fun k e => hO.row k (by rw [hvr]; cases ao <;> exact e), hO.blk, hO.free⟩
    have HLf := (show Hid _ from hLf)
    have HO' := (show Hid _ from HO)
    have k10 : ∀ v, (W'.setCell ⟨sb, 0, none⟩ v).drew.frozen? ⟨sb, 10, none⟩ = false := fun v => by
      show (W'.setCell ⟨sb, 0, none⟩ v).frozen? ⟨sb, 10, none⟩ = false
      rw [World.frozen?_setCell]; exact g2.thaw 10
    have c10 : ∀ v, (W'.setCell ⟨sb, 0, none⟩ v).drew.cell? ⟨sb, 10, none⟩ = some (.bool (packN s c bl p l en c.length).sought) := fun v => by
      show (W'.setCell ⟨sb, 0, none⟩ v).cell? ⟨sb, 10, none⟩ = _
      rw [World.cell?_setCell_other _ _ _ _ (by simp)]; exact g2.cell 10
    have cs' : ∀ v, (W'.setCell ⟨sb, 0, none⟩ v).drew.cell? ⟨W.heap.size, 0, none⟩ = some (.pointer (some ⟨sb, 0, none⟩)) := fun v => by
      show (W'.setCell ⟨sb, 0, none⟩ v).cell? ⟨W.heap.size, 0, none⟩ = _
      rw [World.cell?_setCell_far _ _ _ _ (by show sb ≠ W.heap.size; omega)]; exact cs
    clear hLf HO hE hown
    go_wp2
    refine wp_region_noPanic ?_
    go_region
    refine NoPanic.normal ?_
    go_wp2
    refine ⟨by simp, .inl ⟨_, _, rfl, run_takeDeferred (pack_def hD (by omega)), ?_⟩⟩
    refine ⟨_, results_none rfl _ _ _, rfl, ?_, _, ?_, HO'⟩
    · exact ((((g1.setCell (p := ⟨sb, 0, none⟩) (.inl hO.sb) _).drew).setCell (p := ⟨sb, 10, none⟩) (.inl hO.sb) _)).putObj (.inr ⟨by omega, by simpa [World.setCell, World.drew] using ltD⟩) _
    · have hl := HLf.out W' g2
      have hne : ∀ x : Nat, x < W.heap.size → (((W'.setCell ⟨sb, 0, none⟩ (.slice ao E cap)).drew.setCell ⟨sb, 10, none⟩ (.bool false)).putObj W2.heap.size (.deferred none)).heap[x]? = ((W'.setCell ⟨sb, 0, none⟩ (.slice ao E cap)).setCell ⟨sb, 10, none⟩ (.bool false)).heap[x]? := fun x hx => by
        rw [World.putObj_heap_other (by omega)]; rfl
      refine hl.kept (hne _ lsb) (fun k e => hne _ (lr k (by rw [hvr]; cases ao <;> exact e))) (fun k e => hne _ (lb k e)) (fun k e => hne _ (lf k e))
  case stop => rintro c W' hF; exact hF.elim
end Go.Proofs.YtgmimmdojkoppaaGreatDoor.W
