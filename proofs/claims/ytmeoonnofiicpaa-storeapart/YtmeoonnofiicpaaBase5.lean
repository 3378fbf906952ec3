import Derived.Test.YtmeoonnofiicpaaBase4
import Derived.Test.YtmeoonnofiicpaaBase0
import Derived.Maps.OwnSet
import Derived.Maps.RangeWalk
/- Package store: list. -/
namespace Go.Proofs.Ytmeoonnofiicpaa.W
open Go.ChangeShapes Go.WideShapes Go.RowKit Go.Shelf
set_option linter.unusedVariables false
set_option linter.unusedSimpArgs false
section
variable {W W' : World} {sb : Nat} {vr vb vf : Value} {s : Sto} {E : List Ex}
theorem upd_drew' (W : World) {S : Nat → Prop} : Upd S W W.drew := ⟨rfl, rfl, rfl, Nat.le_refl _, fun _ _ _ => rfl⟩
/-- along the ring: k extents are listed -/
structure Ls (W W' : World) (sb : Nat) (vr vb vf : Value) (s : Sto) (v : Value) (l : List Tr) : Prop where
  lay : Lay W' sb vr vb vf s
  b0 : Boxed W' W.heap.size 24 (Value.pointer (some ⟨sb, 0, none⟩))
  b1 : Boxed W' (W.heap.size + 1) 80 v
  row : W'.ownsRow (W.heap.size + 6) 60 3 v l.length (flatT l)
  bel : Below W.heap.size W W'
theorem Ls.upd {v : Value} {l : List Tr} {W2 : World} {D : Nat → Prop} (h : Ls W W' sb vr vb vf s v l) (hl : ∀ k, (k = sb ∨ vr.ownBlock = some k ∨ vb.ownBlock = some k ∨ vf.ownBlock = some k) → k < W.heap.size) (hU : Upd D W' W2) (hD : ∀ k, D k → W.heap.size + 2 ≤ k ∧ ¬ v.ownBlock = some k) : Ls W W2 sb vr vb vf s v l := by
  have z := h.bel.size
  refine ⟨h.lay.kept (hU.block _ (by have := hl sb (.inl rfl); omega) (fun d => by have := hl sb (.inl rfl); have := (hD _ d).1; omega)) (fun k e => hU.block _ (by have := hl k (.inr (.inl e)); omega) (fun d => by have := hl k (.inr (.inl e)); have := (hD _ d).1; omega)) (fun k e => hU.block _ (by have := hl k (.inr (.inr (.inl e))); omega) (fun d => by have := hl k (.inr (.inr (.inl e))); have := (hD _ d).1; omega)) (fun k e => hU.block _ (by have := hl k (.inr (.inr (.inr e))); omega) (fun d => by have := hl k (.inr (.inr (.inr e))); have := (hD _ d).1; omega)), box_of (hU.block _ h.b0.lt (fun d => by have := (hD _ d).1; omega)) h.b0, box_of (hU.block _ h.b1.lt (fun d => by have := (hD _ d).1; omega)) h.b1, owns_on h.row (fun k e => hU.block k (h.row.lt k e).2 (fun d => (hD k d).2 e)), h.bel.trans (hU.below z (fun k d => by have := (hD k d).1; omega))⟩
theorem oneI (x : Int) : (Value.int .i64 x).oneCell' = true := rfl
/-- one more is put behind -/
theorem Ls.more {v : Value} {l : List Tr} (h : Ls W W' sb vr vb vf s v l) (hl : ∀ k, (k = sb ∨ vr.ownBlock = some k ∨ vb.ownBlock = some k ∨ vf.ownBlock = some k) → k < W.heap.size) (hz : W.heap.size + 6 ≤ W'.heap.size) (hn : l.length ≤ 200000000) (t : Tr) (ty : TypeId) :
    ∃ v' w', (Builtin.append_ #[80, 80] ty #[v, .slice (some ⟨W'.heap.size, 0, none⟩) 1 1]).run Try.prog (W'.alloc (.cells t.cells.toArray 60)) = .ok v' w' ∧ w'.cell? ⟨W.heap.size + 1, 0, none⟩ = some v ∧ w'.frozen? ⟨W.heap.size + 1, 0, none⟩ = false ∧ Ls W (w'.setCell ⟨W.heap.size + 1, 0, none⟩ v') sb vr vb vf s v' (l ++ [t]) ∧ (∀ k, k < W'.heap.size → k ≠ W.heap.size + 1 → ¬ v.ownBlock = some k → (w'.setCell ⟨W.heap.size + 1, 0, none⟩ v').heap[k]? = W'.heap[k]?) ∧ ∃ o n c, v' = .slice o n c := by
  obtain ⟨v', w', h1, h2, h3, h4⟩ := own_behind (W.heap.size + 6) W' 80 60 (.agg #[.int .i64 0, .int .i64 0, .int .i64 0]) 3 24 underX infoX rfl (by omega) (by omega) v l.length (flatT l) h.row hz t.cells rfl (by intro x hx; simp [Tr.cells] at hx; rcases hx with rfl | rfl | rfl <;> rfl) hn ty
  have nv : ∀ k, k < W.heap.size + 6 → ¬ v.ownBlock = some k := fun k hk e => by have := (h.row.lt k e).1; omega
  have l1 := h.upd (W2 := w') (D := fun k => v.ownBlock = some k) hl
  have z1 := h3.size
  have b1 : Boxed w' (W.heap.size + 1) 80 v := box_of (h3.block _ h.b1.lt (nv _ (by omega))) h.b1
  obtain ⟨o, c, hv⟩ := slice_of (owns_base h2 (b' := 0) (fun _ _ => Nat.zero_le _))
  refine ⟨v', w', h1, b1.cell, b1.frozen, ⟨?_, ?_, b1.set v', ?_, ?_⟩, ?_, _, _, _, hv⟩
  · have hs := fun k hk => Below.heap_setCell w' ⟨W.heap.size + 1, 0, none⟩ v' k hk
    have lt : ∀ k, (k = sb ∨ vr.ownBlock = some k ∨ vb.ownBlock = some k ∨ vf.ownBlock = some k) → (w'.setCell ⟨W.heap.size + 1, 0, none⟩ v').heap[k]? = W'.heap[k]? := fun k e => by
      have a := hl k e
      rw [hs k (by show k ≠ W.heap.size + 1; omega)]
      exact h3.block k (by have := h.bel.size; omega) (nv k (by omega))
    exact h.lay.kept (lt _ (.inl rfl)) (fun k e => lt k (.inr (.inl e))) (fun k e => lt k (.inr (.inr (.inl e)))) (fun k e => lt k (.inr (.inr (.inr e))))
  · refine box_of ?_ h.b0
    rw [Below.heap_setCell _ _ _ _ (by show W.heap.size ≠ W.heap.size + 1; omega)]
    exact h3.block _ h.b0.lt (nv _ (by omega))
  · rw [flatT_snoc, List.length_append]
    refine owns_on h2 (fun k e => Below.heap_setCell _ _ _ _ (by have := (h2.lt k e).1; show k ≠ W.heap.size + 1; omega))
  · have u1 : Upd (fun k => W.heap.size ≤ k) W' (w'.setCell ⟨W.heap.size + 1, 0, none⟩ v') := (h3.mono (fun k e => by have := (h.row.lt k e).1; omega)).setCell (.inl (by show W.heap.size ≤ W.heap.size + 1; omega)) _
    exact h.bel.trans (u1.below h.bel.size (fun k e => e))
  · intro k hk hne hno
    rw [Below.heap_setCell _ _ _ _ hne]
    exact h3.block k hk hno
set_option maxRecDepth 100000 in
set_option maxHeartbeats 2000000 in
theorem list_c (h : Lay W sb vr vb vf s) (hf : Fit s) (hg : Good s E) (hE : E.length ≤ 100000000) (hN9 : s.blks.length ≤ 100000000) : Calls Try.prog 41 #[(Value.pointer (some ⟨sb, 0, none⟩))] W fun e w' => ∃ v, e = .returned v ∧ Below W.heap.size W w' ∧ w'.ownsRow W.heap.size 60 3 v (extL s E).length (flatT (extL s E)) := by
  have hlt : ∀ k, (k = sb ∨ vr.ownBlock = some k ∨ vb.ownBlock = some k ∨ vf.ownBlock = some k) → k < W.heap.size := by
    obtain ⟨l0, l1, l2, l3⟩ := lay_lt h
    rintro k (rfl | e | e | e)
    · exact l0
    · exact l1 k e
    · exact l2 k e
    · exact l3 k e
  have ls0 : Ls W ((((W.alloc (.cells #[(Value.pointer (some ⟨sb, 0, none⟩))] 24)).alloc (.cells #[.slice none 0 0] 80)).alloc (.cells #[(Value.pointer (some ⟨sb, 0, none⟩))] 24)).alloc (.cells #[.int .i64 0] 3)) sb vr vb vf s (.slice none 0 0) [] := by
    refine ⟨(((h.alloc _).alloc _).alloc _).alloc _, (((Boxed.new W _ _).alloc _).alloc _).alloc _, ?_, World.ownsRow_nil _ _ _ _, ((((Below.refl _ W).alloc (Nat.le_refl _) _).alloc (by simp) _).alloc (by simp only [World.size_alloc]; omega) _).alloc (by simp only [World.size_alloc]; omega) _⟩
    have := ((Boxed.new (W.alloc (.cells #[(Value.pointer (some ⟨sb, 0, none⟩))] 24)) 80 (.slice none 0 0)).alloc (.cells #[(Value.pointer (some ⟨sb, 0, none⟩))] 24)).alloc (.cells #[.int .i64 0] 3)
    rwa [World.size_alloc] at this
  have bs : Boxed ((((W.alloc (.cells #[(Value.pointer (some ⟨sb, 0, none⟩))] 24)).alloc (.cells #[.slice none 0 0] 80)).alloc (.cells #[(Value.pointer (some ⟨sb, 0, none⟩))] 24)).alloc (.cells #[.int .i64 0] 3)) (W.heap.size + 1 + 1) 24 (Value.pointer (some ⟨sb, 0, none⟩)) := by
    have := (Boxed.new ((W.alloc (.cells #[(Value.pointer (some ⟨sb, 0, none⟩))] 24)).alloc (.cells #[.slice none 0 0] 80)) 24 (Value.pointer (some ⟨sb, 0, none⟩))).alloc (.cells #[.int .i64 0] 3)
    rwa [World.size_alloc, World.size_alloc] at this
  have bn : Boxed ((((W.alloc (.cells #[(Value.pointer (some ⟨sb, 0, none⟩))] 24)).alloc (.cells #[.slice none 0 0] 80)).alloc (.cells #[(Value.pointer (some ⟨sb, 0, none⟩))] 24)).alloc (.cells #[.int .i64 0] 3)) (W.heap.size + 1 + 1 + 1) 3 (.int .i64 0) := by
    have := Boxed.new (((W.alloc (.cells #[(Value.pointer (some ⟨sb, 0, none⟩))] 24)).alloc (.cells #[.slice none 0 0] 80)).alloc (.cells #[(Value.pointer (some ⟨sb, 0, none⟩))] 24)) 3 (.int .i64 0)
    rwa [World.size_alloc, World.size_alloc, World.size_alloc] at this
  have hz4 : ((((W.alloc (.cells #[(Value.pointer (some ⟨sb, 0, none⟩))] 24)).alloc (.cells #[.slice none 0 0] 80)).alloc (.cells #[(Value.pointer (some ⟨sb, 0, none⟩))] 24)).alloc (.cells #[.int .i64 0] 3)).heap.size = W.heap.size + 4 := by simp
  have cv := from_c
  refine (callsIn_wide (n := 9)).1 ?_
  refine callsIn_of_wp_marks Try.func41 rfl trivial ?_ rfl
  refine wpIn_wide.2 ?_
  simp only [Try.ntmps41, List.size_toArray, List.length_cons, List.length_nil, Nat.reduceAdd, Nat.reduceSub, Array.replicate_succ, Array.replicate_zero, List.push_toArray, List.append_toArray, List.nil_append, List.cons_append]
  have HLT := hid hlt
  have LS0 := hid ls0
  have BS := hid bs
  have BN := hid bn
  have HG := hid hg
  have HF := hid hf
  have HE := hid hE
  have HN9 := hid hN9
  clear h hlt ls0 bs bn hg hf hE hN9
  go_wp2_with (go_at_call 37; (with_reducible refine (cv _ _ _).mono ?_); rintro e w8 ⟨rfl, hw8⟩; (have hw' := hw8.symm); subst hw'; clear hw8)
  clear cv
  generalize World.alloc (World.alloc (World.alloc (World.alloc W _) _) _) _ = W4 at *
  have k0 : 0 < (numE E).length := by rw [numE_len]; omega
  have e0 : (numE E)[0] = 0 := rfl
  refine ring_lawB (Bn := W.heap.size + 1 + 1 + 1) (Bs := W.heap.size + 1 + 1) (sb := sb) rfl (numE E) k0 HG.out.nodup ?hz (by rw [e0]; exact BN.out)
    (fun i W' => ∃ v, Ls W W' sb vr vb vf s v (trE (E.take (i - 1))) ∧ Boxed W' (W.heap.size + 1 + 1) 24 (Value.pointer (some ⟨sb, 0, none⟩)))
    (fun _ _ => False)
    ?hI ?hIx ⟨_, LS0.out, BS.out⟩ ?hread 4 ?assign ?body ?done ?stop
  case hz =>
    intro i hi e
    have := List.pairwise_iff_getElem.1 HG.out.nodup 0 (i + 1) k0 hi (by omega)
    exact this (e0.trans e.symm)
  case hI =>
    rintro i Wa Wb ⟨v, g1, g2⟩ hu
    rw [hz4] at hu
    exact ⟨v, g1.upd HLT.out hu (fun k e => ⟨by omega, fun e2 => by have := (g1.row.lt k e2).1; omega⟩), box_of (hu.block _ g2.lt (by omega)) g2⟩
  case hIx => intro c Wa Wb hF; exact hF.elim
  case hread =>
    rintro i hi Wa ⟨v, g1, g2⟩
    have hil : i < (ring E).length := by have := hi; unfold numE at this; rwa [List.length_map] at this
    have hget := HG.out.get i _ (List.getElem?_eq_getElem hil)
    have hni : (numE E)[i] = (ring E)[i].n := List.getElem_map ..
    rw [hni]
    obtain ⟨B, O, pt⟩ := g1.lay.pt hget
    obtain ⟨_, _, _, _, d4⟩ := bcells g1.lay hget pt
    refine ⟨g2.cell, B, O, block_c Wa sb vr vb vf _ g1.lay _ _ hget HF.out.len B O pt, ?_⟩
    rw [d4]
    unfold blkOf numE
    rw [List.getElem?_map]
  case assign =>
    intro L x W' K hK
    gi_wp2_with (simp only [Oper.semAt]; go_simp)
    exact hK
  case body =>
    rintro L i hi W' hLe ⟨v, g1, g2⟩ hs ⟨r, hr⟩ b4
    rw [hz4] at hLe hs
    rw [hz4]
    simp only [ringAct, List.setIfInBounds_toArray, List.set_cons_succ, List.set_cons_zero]
    cases i with
    | zero =>
      rw [e0]
      have G := hid (And.intro g1 g2)
      clear g1 g2 b4 hr
      gi_wp2_with (simp only [Oper.semAt]; go_simp)
      exact ⟨⟨rfl, rfl, rfl⟩, v, G.out.1, G.out.2⟩
    | succ k =>
      have hkE : k < E.length := by rw [numE_len] at hi; omega
      have hnk : (numE E)[k + 1] = E[k].n := List.getElem_map ..
      rw [hnk]
      have hget := HG.out.get (k + 1) E[k] (List.getElem?_eq_getElem hkE)
      have hn0 : E[k].n ≠ 0 := (HG.out.lies.2.1 _ (List.getElem_mem hkE)).2.2
      obtain ⟨B, O, pt⟩ := g1.lay.pt hget
      have cb := block_c W' sb vr vb vf _ g1.lay _ _ hget HF.out.len B O pt
      obtain ⟨_, d1, d2, _, _⟩ := bcells g1.lay hget pt
      have hBl : B < W.heap.size := by
        rcases pt with ⟨_, rfl, _⟩ | ⟨_, e, _⟩
        · exact HLT.out B (.inl rfl)
        · exact HLT.out B (.inr (.inr (.inl e)))
      obtain ⟨o, cap, hv⟩ := slice_of (owns_base g1.row (b' := 0) (fun _ _ => Nat.zero_le _))
      generalize (trE (E.take (k + 1 - 1))).length = nn at hv
      subst hv
      have hlen : (trE (E.take (k + 1 - 1))).length ≤ 200000000 := by unfold trE; rw [List.length_map, List.length_take]; have := HE.out; omega
      have gd : Ls W W'.drew sb vr vb vf s (.slice o nn cap) (trE (E.take (k + 1 - 1))) := g1.upd HLT.out (D := fun _ => False) (upd_drew' W') (fun k e => e.elim)
      obtain ⟨v', w', hrun, hc', hz', ls', hk', o', n', c', hv'⟩ := gd.more HLT.out (by show _ ≤ W'.heap.size; omega) hlen ⟨E[k].n - 1, E[k].p, E[k].l⟩ 80
      have htr : trE (E.take (k + 1 - 1)) ++ [⟨E[k].n - 1, E[k].p, E[k].l⟩] = trE (E.take (k + 1 + 1 - 1)) := by
        show trE (E.take k) ++ _ = trE (E.take (k + 1))
        unfold trE
        rw [List.take_add_one, List.getElem?_eq_getElem hkE, List.map_append]
        rfl
      rw [htr] at ls'
      have hn1 : ((E[k].n - 1 : Nat) : Int) = (E[k].n : Int) - 1 := by omega
      have wn : IntKind.i64.wrap ((E[k].n : Int) - 1) = (E[k].n : Int) - 1 := by
        have := HF.out.len
        have hb := (List.getElem?_eq_some_iff.1 (show s.blks[E[k].n - 1]? = some _ from by have := hget; unfold Sto.get at this; rw [if_neg hn0] at this; exact this)).1
        rw [IntKind.wrap_i64]; omega
      have hnb : (((E[k].n : Nat) : Int) != 0) = true := by simp; omega
      have cs := g1.b0.cell
      have ca := g1.b1.cell
      have d1' : W'.cell? ⟨B, O + 1, none⟩ = some (.int .i64 ((E[k].p : Nat) : Int)) := d1
      have d2' : W'.cell? ⟨B, O + 2, none⟩ = some (.int .i64 ((E[k].l : Nat) : Int)) := d2
      have hrun' : (Builtin.append_ #[80, 80] 80 #[.slice o nn cap, .slice (some ⟨W'.heap.size, 0, none⟩) 1 1]).run Try.prog (W'.alloc (.cells #[.int .i64 ((E[k].n : Int) - 1), .int .i64 ((E[k].p : Nat) : Int), .int .i64 ((E[k].l : Nat) : Int)] 60)).drew = .ok v' w' := by
        have := hrun
        unfold Tr.cells at this
        rw [hn1] at this
        exact this
      subst hv'
      have b2' : Boxed (w'.setCell ⟨W.heap.size + 1, 0, none⟩ (.slice o' n' c')) (W.heap.size + 1 + 1) 24 (Value.pointer (some ⟨sb, 0, none⟩)) := box_of (hk' _ g2.lt (by omega) (fun e => by have := (g1.row.lt _ e).1; omega)) g2
      have nvk : ∀ x, x < W.heap.size + 6 → ¬ (Value.slice o nn cap).ownBlock = some x := fun x hx e => by have := (g1.row.lt _ e).1; omega
      have kA : (w'.setCell ⟨W.heap.size + 1, 0, none⟩ (.slice o' n' c')).heap[L]? = W'.heap[L]? := hk' _ (by show _ < W'.heap.size; omega) (by omega) (nvk _ (by omega))
      have kB : (w'.setCell ⟨W.heap.size + 1, 0, none⟩ (.slice o' n' c')).heap[W.heap.size + 4]? = W'.heap[W.heap.size + 4]? := hk' _ (by show _ < W'.heap.size; omega) (by omega) (nvk _ (by omega))
      have kC : (w'.setCell ⟨W.heap.size + 1, 0, none⟩ (.slice o' n' c')).heap[W.heap.size + 1 + 1 + 1]? = W'.heap[W.heap.size + 1 + 1 + 1]? := hk' _ (by show _ < W'.heap.size; omega) (by omega) (nvk _ (by omega))
      have FIN := hid (And.intro ls' (And.intro b2' (And.intro kA (And.intro kB kC))))
      have hBne : B ≠ W.heap.size + 1 := by omega
      have hW1 : W.heap.size + 1 < W'.heap.size := by omega
      have cellsA : ∀ (o : Obj), (W'.alloc o).drew.cell? ⟨W.heap.size + 1, 0, none⟩ = W'.cell? ⟨W.heap.size + 1, 0, none⟩ ∧ (∀ j, (W'.alloc o).drew.cell? ⟨B, j, none⟩ = W'.cell? ⟨B, j, none⟩) := fun o => ⟨((Below.refl _ W').alloc (Nat.le_refl _) o).cell hW1, fun j => ((Below.refl _ W').alloc (Nat.le_refl _) o).cell (by show B < _; omega)⟩
      have CA := hid cellsA
      have bcl : ∀ j, w'.cell? ⟨B, j, none⟩ = W'.cell? ⟨B, j, none⟩ := fun j => by
        have := hk' B (by show _ < W'.heap.size; omega) hBne (nvk B (by omega))
        rw [Below.heap_setCell _ _ _ _ hBne] at this
        exact World.cell?_of_block this
      have BC := hid bcl
      have DD := hid (And.intro ca (And.intro d1' d2'))
      clear g1 g2 gd ls' b2' kA kB kC hk' hrun cellsA bcl nvk htr hlen hr b4 hget d1 d2 pt LS0 BS BN hn1 hnk
      generalize ((E[k].n : Nat) : Int) = N at *
      generalize ((E[k].p : Nat) : Int) = P0 at *
      generalize ((E[k].l : Nat) : Int) = L0 at *
      gi_wp2_with (first | (simp only [Oper.semAt]; go_simp) | ((refine ⟨trivial, ?_⟩); gi_at_call 38; (refine (CallsIn.inRound L (callsIn_wide.2 cb)).mono ?_); rintro e w9 ⟨rfl, hw⟩; (have hw' := hw.symm); subst hw'; clear hw))
      refine round_anyL (z := 14) (S := fun w' => w'.cell? ⟨W.heap.size + 1, 0, none⟩ = some (.slice o nn cap) ∧ w'.cell? ⟨B, O + 1, none⟩ = some (.int .i64 P0) ∧ w'.cell? ⟨B, O + 2, none⟩ = some (.int .i64 L0)) (by kernel_rfl) (by kernel_rfl) ?_
      have hS : W'.drew.cell? ⟨W.heap.size + 1, 0, none⟩ = some (.slice o nn cap) ∧ W'.drew.cell? ⟨B, O + 1, none⟩ = some (.int .i64 P0) ∧ W'.drew.cell? ⟨B, O + 2, none⟩ = some (.int .i64 L0) := DD.out
      (refine anyL_take (i := 0) (v := ?_) rfl (by kernel_rfl) (by kernel_rfl) (by kernel_rfl) (by kernel_rfl) (fun _ _ _ h => h) (Or.inl ⟨by rfl, ?_⟩) hS ?_); rotate_left; (focus (intro w' hSw; obtain ⟨q1, q2, q3⟩ := hSw; go_simp; (try with_reducible rfl))); (try simp only [Act.put, List.getElem_toArray, List.getElem_cons_zero, List.getElem_cons_succ, List.setIfInBounds_toArray, List.set_cons_zero, List.set_cons_succ])
      (refine anyL_take (i := 1) (v := ?_) rfl (by kernel_rfl) (by kernel_rfl) (by kernel_rfl) (by kernel_rfl) (fun _ _ _ h => h) (Or.inl ⟨by rfl, ?_⟩) hS ?_); rotate_left; (focus (intro w' hSw; obtain ⟨q1, q2, q3⟩ := hSw; go_simp; (try with_reducible rfl))); (try simp only [Act.put, List.getElem_toArray, List.getElem_cons_zero, List.getElem_cons_succ, List.setIfInBounds_toArray, List.set_cons_zero, List.set_cons_succ])
      (refine anyL_take (i := 2) (v := ?_) rfl (by kernel_rfl) (by kernel_rfl) (by kernel_rfl) (by kernel_rfl) (fun _ _ _ h => h) (Or.inl ⟨by rfl, ?_⟩) hS ?_); rotate_left; (focus (intro w' hSw; obtain ⟨q1, q2, q3⟩ := hSw; go_simp; (try with_reducible rfl))); (try simp only [Act.put, List.getElem_toArray, List.getElem_cons_zero, List.getElem_cons_succ, List.setIfInBounds_toArray, List.set_cons_zero, List.set_cons_succ])
      (refine anyL_take (i := 3) (v := ?_) rfl (by kernel_rfl) (by kernel_rfl) (by kernel_rfl) (by kernel_rfl) (fun _ _ _ h => h) (Or.inl ⟨by rfl, ?_⟩) hS ?_); rotate_left; (focus (intro w' hSw; obtain ⟨q1, q2, q3⟩ := hSw; go_simp; (try with_reducible rfl))); (try simp only [Act.put, List.getElem_toArray, List.getElem_cons_zero, List.getElem_cons_succ, List.setIfInBounds_toArray, List.set_cons_zero, List.set_cons_succ])
      (refine anyL_take (i := 4) (v := ?_) rfl (by kernel_rfl) (by kernel_rfl) (by kernel_rfl) (by kernel_rfl) (fun _ _ _ h => h) (Or.inl ⟨by rfl, ?_⟩) hS ?_); rotate_left; (focus (intro w' hSw; obtain ⟨q1, q2, q3⟩ := hSw; go_simp; (try with_reducible rfl))); (try simp only [Act.put, List.getElem_toArray, List.getElem_cons_zero, List.getElem_cons_succ, List.setIfInBounds_toArray, List.set_cons_zero, List.set_cons_succ])
      (refine anyL_take (i := 5) (v := ?_) rfl (by kernel_rfl) (by kernel_rfl) (by kernel_rfl) (by kernel_rfl) (fun _ _ _ h => h) (Or.inl ⟨by rfl, ?_⟩) hS ?_); rotate_left; (focus (intro w' hSw; obtain ⟨q1, q2, q3⟩ := hSw; go_simp; (try with_reducible rfl))); (try simp only [Act.put, List.getElem_toArray, List.getElem_cons_zero, List.getElem_cons_succ, List.setIfInBounds_toArray, List.set_cons_zero, List.set_cons_succ])
      (refine anyL_take (i := 6) (v := ?_) rfl (by kernel_rfl) (by kernel_rfl) (by kernel_rfl) (by kernel_rfl) (fun _ _ _ h => h) (Or.inl ⟨by rfl, ?_⟩) hS ?_); rotate_left; (focus (intro w' hSw; obtain ⟨q1, q2, q3⟩ := hSw; go_simp; (try with_reducible rfl))); (try simp only [Act.put, List.getElem_toArray, List.getElem_cons_zero, List.getElem_cons_succ, List.setIfInBounds_toArray, List.set_cons_zero, List.set_cons_succ])
      (refine anyL_take (i := 7) (v := ?_) rfl (by kernel_rfl) (by kernel_rfl) (by kernel_rfl) (by kernel_rfl) (fun _ _ _ h => h) (Or.inl ⟨by rfl, ?_⟩) hS ?_); rotate_left; (focus (intro w' hSw; obtain ⟨q1, q2, q3⟩ := hSw; go_simp; (try with_reducible rfl))); (try simp only [Act.put, List.getElem_toArray, List.getElem_cons_zero, List.getElem_cons_succ, List.setIfInBounds_toArray, List.set_cons_zero, List.set_cons_succ])
      (refine anyL_take (i := 8) (v := ?_) rfl (by kernel_rfl) (by kernel_rfl) (by kernel_rfl) (by kernel_rfl) (fun _ _ _ h => h) (Or.inl ⟨by rfl, ?_⟩) hS ?_); rotate_left; (focus (intro w' hSw; obtain ⟨q1, q2, q3⟩ := hSw; go_simp; (try with_reducible rfl))); (try simp only [Act.put, List.getElem_toArray, List.getElem_cons_zero, List.getElem_cons_succ, List.setIfInBounds_toArray, List.set_cons_zero, List.set_cons_succ])
      (refine anyL_take (i := 9) (v := ?_) rfl (by kernel_rfl) (by kernel_rfl) (by kernel_rfl) (by kernel_rfl) (fun _ _ _ h => h) (Or.inl ⟨by rfl, ?_⟩) hS ?_); rotate_left; (focus (intro w' hSw; obtain ⟨q1, q2, q3⟩ := hSw; go_simp; (try with_reducible rfl))); (try simp only [Act.put, List.getElem_toArray, List.getElem_cons_zero, List.getElem_cons_succ, List.setIfInBounds_toArray, List.set_cons_zero, List.set_cons_succ])
      (refine anyL_take (i := 10) (v := ?_) rfl (by kernel_rfl) (by kernel_rfl) (by kernel_rfl) (by kernel_rfl) (fun _ _ _ h => h) (Or.inl ⟨by rfl, ?_⟩) hS ?_); rotate_left; (focus (intro w' hSw; obtain ⟨q1, q2, q3⟩ := hSw; go_simp; (try with_reducible rfl))); (try simp only [Act.put, List.getElem_toArray, List.getElem_cons_zero, List.getElem_cons_succ, List.setIfInBounds_toArray, List.set_cons_zero, List.set_cons_succ])
      (refine anyL_take (i := 11) (v := ?_) rfl (by kernel_rfl) (by kernel_rfl) (by kernel_rfl) (by kernel_rfl) (fun _ _ _ h => h) (Or.inl ⟨by rfl, ?_⟩) hS ?_); rotate_left; (focus (intro w' hSw; obtain ⟨q1, q2, q3⟩ := hSw; go_simp; (try with_reducible rfl))); (try simp only [Act.put, List.getElem_toArray, List.getElem_cons_zero, List.getElem_cons_succ, List.setIfInBounds_toArray, List.set_cons_zero, List.set_cons_succ])
      refine anyL_one (i := 12) (by kernel_rfl) rfl rfl (fun K hK => ?_)
      go_simp
      refine hK _ _ (.inr ⟨(CA.out _).1.trans DD.out.1, ((CA.out _).2 _).trans DD.out.2.1, ((CA.out _).2 _).trans DD.out.2.2⟩) ?_
      clear hK K hS
      (try simp only [Act.put, List.getElem_toArray, List.getElem_cons_zero, List.getElem_cons_succ, List.setIfInBounds_toArray, List.set_cons_zero, List.set_cons_succ])
      refine anyL_one (i := 13) (by kernel_rfl) rfl rfl (fun K hK => ?_)
      refine opIn_plain (fun c h => by cases h) ?_
      refine Lib.wp_append_run _ (.tmp 16) (.tmp 28) 80 80 rfl _ _ rfl rfl _ _ hrun' ?_
      refine hK _ _ (.inr ⟨hc', (BC.out _).trans DD.out.2.1, (BC.out _).trans DD.out.2.2⟩) ?_
      clear hK K hrun'
      (try simp only [Act.put, List.getElem_toArray, List.getElem_cons_zero, List.getElem_cons_succ, List.setIfInBounds_toArray, List.set_cons_zero, List.set_cons_succ])
      refine anyL_one (i := 14) (by kernel_rfl) rfl rfl (fun K hK => ?_)
      go_simp
      refine hK _ _ (.inl rfl) ?_
      clear hK K
      (try simp only [Act.put, List.getElem_toArray, List.getElem_cons_zero, List.getElem_cons_succ, List.setIfInBounds_toArray, List.set_cons_zero, List.set_cons_succ])
      refine anyL_done (by kernel_rfl) ?_ _
      gi_wp2
      exact ⟨⟨FIN.out.2.2.1, FIN.out.2.2.2.1, FIN.out.2.2.2.2⟩, _, FIN.out.1, FIN.out.2.1⟩
  case done =>
    rintro W5 ⟨v, g1, g2⟩ hD h56
    rw [hz4] at hD h56 ⊢
    have hnE : (numE E).length - 1 = E.length := by rw [numE_len]; rfl
    rw [hnE, List.take_length] at g1
    have hl5 := (Array.getElem?_eq_some_iff.1 hD).1
    have cs := g1.b0.cell
    have c6 := g1.lay.cell 6
    simp only [Sto.obj, List.getElem?_cons_succ, List.getElem?_cons_zero] at c6
    obtain ⟨ob, capb, hvb⟩ := slice_of g1.lay.blk
    obtain ⟨nb, hnb⟩ : ∃ nb, s.blks.length = nb := ⟨_, rfl⟩
    rw [hnb] at hvb
    subst hvb
    have hz6 : ∃ v, Ls W W5 sb vr (.slice ob nb capb) vf s v (trE E ++ zs s 0) ∧ W5.heap[W.heap.size + 4]? = some (.deferred (some [])) ∧ W.heap.size + 6 ≤ W5.heap.size := by
      refine ⟨v, ?_, hD, ?_⟩
      · rw [show zs s 0 = [] from rfl, List.append_nil]; exact g1
      · omega
    have HZ := hid hz6
    have HNB := hid hnb
    have HNB9 : Hid (nb ≤ 100000000) := by show nb ≤ 100000000; rw [← hnb]; exact HN9.out
    clear g1 g2 hD hz6 hnE LS0 BS BN hnb
    go_wp2
    go_loopw [6, 7, 35] (fun _ _ ii wr => ∃ (j : Nat) (v : Value), j ≤ nb ∧ ii = .int .i64 j ∧ Ls W wr sb vr (.slice ob nb capb) vf s v (trE E ++ zs s j) ∧ wr.heap[W.heap.size + 4]? = some (.deferred (some [])) ∧ W.heap.size + 6 ≤ wr.heap.size) (fun _ _ ii _ => nb - (intOf ii).toNat)
    case atStart =>
      obtain ⟨v, y1, y2, y3⟩ := HZ.out
      exact ⟨0, v, by omega, rfl, y1, y2, y3⟩
    case round =>
      obtain ⟨j, v, hj, rfl, ls, hD, h6⟩ := hrel
      clear HZ cs c6
      by_cases hjn : j < nb
      · obtain ⟨b, hjb⟩ : ∃ b, s.blks[j]? = some b := ⟨_, List.getElem?_eq_getElem (by rw [HNB.out]; exact hjn)⟩
        have hget : s.get (j + 1) = some b := by rw [get_blks]; exact hjb
        obtain ⟨gb, capb', hob, _⟩ := own_slice ls.lay.blk (by rw [HNB.out]; omega)
        rw [HNB.out] at hob
        injection hob with hob1 hob2 hob3
        subst hob1
        clear hob2 hob3
        obtain ⟨r0, r1, r2, r3, r4⟩ := bcells ls.lay hget (B := gb) (O := j * 5) (.inr ⟨by omega, rfl, by rw [Nat.add_sub_cancel]⟩)
        have hfb := HF.out.blk (j + 1) _ hget
        have hmeas : nb - ((j : Int) + 1).toNat < nb - ((j : Int)).toNat := by omega
        have HM := hid hmeas
        clear hmeas
        have HJ : Hid (j ≤ 100000000) := by show j ≤ 100000000; have := HNB9.out; omega
        have j0 : (0 : Int) ≤ j := Int.natCast_nonneg _
        have j1 : (j : Int) < nb := by omega
        have wj : IntKind.i64.wrap ((j : Int) + 1) = (j : Int) + 1 := by have := HF.out.len; have := HNB.out; rw [IntKind.wrap_i64]; omega
        have wj2 : wrap64 ((j : Int) + 1) = (j : Int) + 1 := by have := HF.out.len; have := HNB.out; unfold wrap64; omega
        have WJ := hid (And.intro wj wj2)
        clear wj wj2
        obtain ⟨lv, po, le, ba, ne⟩ := b
        simp only at r0 r1 r2 r3 r4
        have bA : Below wr.heap.size wr (wr.alloc (.cells #[.bool lv, .int .i64 po, .int .i64 le, .int .i64 ba, .int .i64 ne] 43)) := (Below.refl _ _).alloc (Nat.le_refl _) _
        have lsA := ls.upd HLT.out (D := fun _ => False) (Upd.of_below bA) (fun k e => e.elim)
        have hDA := (bA.block _ (Array.getElem?_eq_some_iff.1 hD).1).trans hD
        have zA : W.heap.size + 6 ≤ (wr.alloc (.cells #[.bool lv, .int .i64 po, .int .i64 le, .int .i64 ba, .int .i64 ne] 43)).heap.size := Nat.le_trans h6 bA.size
        have fA : (wr.alloc (.cells #[.bool lv, .int .i64 po, .int .i64 le, .int .i64 ba, .int .i64 ne] 43)).cell? ⟨wr.heap.size, 0, none⟩ = some (.bool lv) := cell_of_row _ _ 0 _ _ _ (World.alloc_heap_new wr (.cells #[.bool lv, .int .i64 po, .int .i64 le, .int .i64 ba, .int .i64 ne] 43))
        have fB : (wr.alloc (.cells #[.bool lv, .int .i64 po, .int .i64 le, .int .i64 ba, .int .i64 ne] 43)).cell? ⟨wr.heap.size, 2, none⟩ = some (.int .i64 le) := cell_of_row _ _ 2 _ _ _ (World.alloc_heap_new wr (.cells #[.bool lv, .int .i64 po, .int .i64 le, .int .i64 ba, .int .i64 ne] 43))
        have FA := hid (And.intro fA fB)
        clear fA fB
        have hisz : isZ s j = (lv && le == 0) := by unfold isZ; rw [hjb]
        have hzs := zs_succ s j
        rw [hisz] at hzs
        have LSA := hid lsA
        have HDA := hid hDA
        have ZA := hid zA
        have HZS := hid hzs
        clear ls lsA hD hDA zA h6 bA hzs hisz hfb hget hjb
        go_upto_region 10 with fail
        generalize wr.alloc (.cells #[.bool lv, .int .i64 po, .int .i64 le, .int .i64 ba, .int .i64 ne] 43) = Wa at *
        obtain ⟨fA, fB⟩ := FA.out
        generalize wr.heap.size = ab at *
        clear FA r0 r1 r2 r3 r4
        cases lv with
        | false =>
          have hz1 : zs s (j + 1) = zs s j := by rw [HZS.out]; exact List.append_nil _
          have LS2 : Hid (Ls W Wa sb vr (.slice (some ⟨gb, 0, none⟩) nb capb) vf s v (trE E ++ zs s (j + 1))) := by rw [hz1]; exact LSA.out
          clear hz1
          obtain ⟨wj, wj2⟩ := WJ.out
          go_wp2
          go_roundw
          case rel => exact ⟨j + 1, v, hjn, rfl, LS2.out, HDA.out, ZA.out⟩
          case measure => exact HM.out
        | true =>
          by_cases hle : le = 0
          · subst hle
            go_upto_region 11 with fail
            clear fA fB
            obtain ⟨ovr, capr, hvr⟩ := slice_of LSA.out.lay.row
            obtain ⟨nr, hnr⟩ : ∃ nr, s.row.length = nr := ⟨_, rfl⟩
            rw [hnr] at hvr
            subst hvr
            obtain ⟨o, cap, hv⟩ := slice_of (owns_base LSA.out.row (b' := 0) (fun _ _ => Nat.zero_le _))
            obtain ⟨nn, hnn⟩ : ∃ nn, (trE E ++ zs s j).length = nn := ⟨_, rfl⟩
            rw [hnn] at hv
            subst hv
            have hlen : (trE E ++ zs s j).length ≤ 200000000 := by
              have h1 := HE.out
              have h2 : (zs s j).length ≤ j := by unfold zs; rw [List.length_map]; exact Nat.le_trans (List.length_filter_le _ _) (by rw [List.length_range]; exact Nat.le_refl _)
              have h3 := HJ.out
              rw [List.length_append]
              unfold trE
              rw [List.length_map]
              omega
            have gd : Ls W Wa.drew sb (.slice ovr nr capr) (.slice (some ⟨gb, 0, none⟩) nb capb) vf s (.slice o nn cap) (trE E ++ zs s j) := LSA.out.upd HLT.out (D := fun _ => False) (upd_drew' Wa) (fun k e => e.elim)
            obtain ⟨v', w', hrun, hc', hz', ls', hk', o', n', c', hv'⟩ := gd.more HLT.out ZA.out hlen ⟨j, nr, 0⟩ 80
            subst hv'
            have hrun' : (Builtin.append_ #[80, 80] 80 #[.slice o nn cap, .slice (some ⟨Wa.heap.size, 0, none⟩) 1 1]).run Try.prog (Wa.alloc (.cells #[.int .i64 (j : Int), .int .i64 (nr : Int), .int .i64 0] 60)).drew = .ok (.slice o' n' c') w' := hrun
            have hz1 : trE E ++ zs s (j + 1) = (trE E ++ zs s j) ++ [⟨j, nr, 0⟩] := by rw [HZS.out, hnr]; simp
            rw [← hz1] at ls'
            have c0 := LSA.out.lay.cell 0
            simp only [Sto.obj, List.getElem?_cons_zero] at c0
            have cs := LSA.out.b0.cell
            have ca := LSA.out.b1.cell
            have nvk : ∀ x, x < W.heap.size + 6 → ¬ (Value.slice o nn cap).ownBlock = some x := fun x hx e => by have := (LSA.out.row.lt _ e).1; omega
            have hsb := HLT.out sb (.inl rfl)
            have h6 := ZA.out
            have kD : (w'.setCell ⟨W.heap.size + 1, 0, none⟩ (.slice o' n' c')).heap[W.heap.size + 4]? = some (.deferred (some [])) := (hk' _ (by show _ < Wa.heap.size; omega) (by omega) (nvk _ (by omega))).trans HDA.out
            have z7 : W.heap.size + 6 ≤ (w'.setCell ⟨W.heap.size + 1, 0, none⟩ (.slice o' n' c')).heap.size := by
              have hw5 : (w'.setCell ⟨W.heap.size + 1, 0, none⟩ (.slice o' n' c')).heap[W.heap.size + 5]? = Wa.heap[W.heap.size + 5]? := hk' _ (by show _ < Wa.heap.size; omega) (by omega) (nvk _ (by omega))
              have h5 : Wa.heap[W.heap.size + 5]? = some Wa.heap[W.heap.size + 5] := Array.getElem?_eq_getElem (by omega)
              rw [h5] at hw5
              have := (Array.getElem?_eq_some_iff.1 hw5).1
              omega
            have cellsA : ∀ (o : Obj) (p : Addr), p.block < Wa.heap.size → (Wa.alloc o).drew.cell? p = Wa.cell? p := fun o p hp => ((Below.refl _ Wa).alloc (Nat.le_refl _) o).cell hp
            have bcl : ∀ (p : Addr), p.block < W.heap.size + 1 → w'.cell? p = Wa.cell? p := fun p hp => by
              have := hk' p.block (by show _ < Wa.heap.size; omega) (by omega) (nvk _ (by omega))
              rw [Below.heap_setCell _ _ _ _ (by show p.block ≠ W.heap.size + 1; omega)] at this
              exact World.cell?_of_block this
            have HA1 := fun o => (cellsA o ⟨W.heap.size + 1, 0, none⟩ (by show W.heap.size + 1 < _; omega)).trans ca
            have HA2 := fun o => (cellsA o ⟨W.heap.size, 0, none⟩ (by show W.heap.size < _; omega)).trans cs
            have HA3 := fun o => (cellsA o ⟨sb, 0, none⟩ (by show sb < _; omega)).trans c0
            have HB2 := (bcl ⟨W.heap.size, 0, none⟩ (by show W.heap.size < _; omega)).trans cs
            have HB3 := (bcl ⟨sb, 0, none⟩ (by show sb < _; omega)).trans c0
            have HAll := hid (And.intro HA1 (And.intro HA2 (And.intro HA3 (And.intro HB2 HB3))))
            have HSS := hid (And.intro ca (And.intro cs c0))
            have FIN := hid (And.intro ls' (And.intro kD z7))
            clear HA1 HA2 HA3 HB2 HB3 bcl cellsA ls' kD z7 gd hrun hlen nvk hk' hz1 hnn hnr LSA HDA HZS ZA ca cs c0 hsb h6 hj
            refine wp_region_noPanic ?_
            refine plain_anyL (z := 10) (S := fun w' => w'.cell? ⟨W.heap.size + 1, 0, none⟩ = some (.slice o nn cap) ∧ w'.cell? ⟨W.heap.size, 0, none⟩ = some (Value.pointer (some ⟨sb, 0, none⟩)) ∧ w'.cell? ⟨sb, 0, none⟩ = some (.slice ovr nr capr)) (by kernel_rfl) ?_
            have hS : Wa.drew.cell? ⟨W.heap.size + 1, 0, none⟩ = some (.slice o nn cap) ∧ Wa.drew.cell? ⟨W.heap.size, 0, none⟩ = some (Value.pointer (some ⟨sb, 0, none⟩)) ∧ Wa.drew.cell? ⟨sb, 0, none⟩ = some (.slice ovr nr capr) := HSS.out
            (refine anyL_take (i := 0) (v := ?_) rfl (by kernel_rfl) (by kernel_rfl) (by kernel_rfl) (by kernel_rfl) (fun _ _ _ h => h) (Or.inl ⟨by rfl, ?_⟩) hS ?_); rotate_left; (focus (intro w' hSw; obtain ⟨q1, q2, q3⟩ := hSw; go_simp; (try with_reducible rfl))); (try simp only [Act.put, List.getElem_toArray, List.getElem_cons_zero, List.getElem_cons_succ, List.setIfInBounds_toArray, List.set_cons_zero, List.set_cons_succ])
            (refine anyL_take (i := 1) (v := ?_) rfl (by kernel_rfl) (by kernel_rfl) (by kernel_rfl) (by kernel_rfl) (fun _ _ _ h => h) (Or.inl ⟨by rfl, ?_⟩) hS ?_); rotate_left; (focus (intro w' hSw; obtain ⟨q1, q2, q3⟩ := hSw; go_simp; (try with_reducible rfl))); (try simp only [Act.put, List.getElem_toArray, List.getElem_cons_zero, List.getElem_cons_succ, List.setIfInBounds_toArray, List.set_cons_zero, List.set_cons_succ])
            (refine anyL_take (i := 2) (v := ?_) rfl (by kernel_rfl) (by kernel_rfl) (by kernel_rfl) (by kernel_rfl) (fun _ _ _ h => h) (Or.inl ⟨by rfl, ?_⟩) hS ?_); rotate_left; (focus (intro w' hSw; obtain ⟨q1, q2, q3⟩ := hSw; go_simp; (try with_reducible rfl))); (try simp only [Act.put, List.getElem_toArray, List.getElem_cons_zero, List.getElem_cons_succ, List.setIfInBounds_toArray, List.set_cons_zero, List.set_cons_succ])
            (refine anyL_take (i := 3) (v := ?_) rfl (by kernel_rfl) (by kernel_rfl) (by kernel_rfl) (by kernel_rfl) (fun _ _ _ h => h) (Or.inl ⟨by rfl, ?_⟩) hS ?_); rotate_left; (focus (intro w' hSw; obtain ⟨q1, q2, q3⟩ := hSw; go_simp; (try with_reducible rfl))); (try simp only [Act.put, List.getElem_toArray, List.getElem_cons_zero, List.getElem_cons_succ, List.setIfInBounds_toArray, List.set_cons_zero, List.set_cons_succ])
            (refine anyL_take (i := 4) (v := ?_) rfl (by kernel_rfl) (by kernel_rfl) (by kernel_rfl) (by kernel_rfl) (fun _ _ _ h => h) (Or.inl ⟨by rfl, ?_⟩) hS ?_); rotate_left; (focus (intro w' hSw; obtain ⟨q1, q2, q3⟩ := hSw; go_simp; (try with_reducible rfl))); (try simp only [Act.put, List.getElem_toArray, List.getElem_cons_zero, List.getElem_cons_succ, List.setIfInBounds_toArray, List.set_cons_zero, List.set_cons_succ])
            (refine anyL_take (i := 5) (v := ?_) rfl (by kernel_rfl) (by kernel_rfl) (by kernel_rfl) (by kernel_rfl) (fun _ _ _ h => h) (Or.inl ⟨by rfl, ?_⟩) hS ?_); rotate_left; (focus (intro w' hSw; obtain ⟨q1, q2, q3⟩ := hSw; go_simp; (try with_reducible rfl))); (try simp only [Act.put, List.getElem_toArray, List.getElem_cons_zero, List.getElem_cons_succ, List.setIfInBounds_toArray, List.set_cons_zero, List.set_cons_succ])
            (refine anyL_take (i := 6) (v := ?_) rfl (by kernel_rfl) (by kernel_rfl) (by kernel_rfl) (by kernel_rfl) (fun _ _ _ h => h) (Or.inl ⟨by rfl, ?_⟩) hS ?_); rotate_left; (focus (intro w' hSw; obtain ⟨q1, q2, q3⟩ := hSw; go_simp; (try with_reducible rfl))); (try simp only [Act.put, List.getElem_toArray, List.getElem_cons_zero, List.getElem_cons_succ, List.setIfInBounds_toArray, List.set_cons_zero, List.set_cons_succ])
            (refine anyL_take (i := 7) (v := ?_) rfl (by kernel_rfl) (by kernel_rfl) (by kernel_rfl) (by kernel_rfl) (fun _ _ _ h => h) (Or.inl ⟨by rfl, ?_⟩) hS ?_); rotate_left; (focus (intro w' hSw; obtain ⟨q1, q2, q3⟩ := hSw; go_simp; (try with_reducible rfl))); (try simp only [Act.put, List.getElem_toArray, List.getElem_cons_zero, List.getElem_cons_succ, List.setIfInBounds_toArray, List.set_cons_zero, List.set_cons_succ])
            refine anyL_one (i := 8) (by kernel_rfl) rfl rfl (fun K hK => ?_)
            go_simp
            refine hK _ _ (.inr ⟨HAll.out.1 _, HAll.out.2.1 _, HAll.out.2.2.1 _⟩) ?_
            clear hK K hS
            (try simp only [Act.put, List.getElem_toArray, List.getElem_cons_zero, List.getElem_cons_succ, List.setIfInBounds_toArray, List.set_cons_zero, List.set_cons_succ])
            refine anyL_one (i := 9) (by kernel_rfl) rfl rfl (fun K hK => ?_)
            refine opIn_plain (fun c h => by cases h) ?_
            refine Lib.wp_append_run _ (.tmp 47) (.tmp 55) 80 80 rfl _ _ rfl rfl _ _ hrun' ?_
            refine hK _ _ (.inr ⟨hc', HAll.out.2.2.2.1, HAll.out.2.2.2.2⟩) ?_
            clear hK K hrun'
            (try simp only [Act.put, List.getElem_toArray, List.getElem_cons_zero, List.getElem_cons_succ, List.setIfInBounds_toArray, List.set_cons_zero, List.set_cons_succ])
            refine anyL_one (i := 10) (by kernel_rfl) rfl rfl (fun K hK => ?_)
            go_simp
            refine hK _ _ (.inl rfl) ?_
            clear hK K
            (try simp only [Act.put, List.getElem_toArray, List.getElem_cons_zero, List.getElem_cons_succ, List.setIfInBounds_toArray, List.set_cons_zero, List.set_cons_succ])
            refine anyL_done (by kernel_rfl) ?_ _
            refine NoPanic.normal ?_
            obtain ⟨wj, wj2⟩ := WJ.out
            go_wp2
            go_roundw
            case rel => exact ⟨j + 1, _, hjn, rfl, FIN.out.1, FIN.out.2.1, FIN.out.2.2⟩
            case measure => exact HM.out
          · have hle2 : (le == 0) = false := by simpa using hle
            have hz1 : zs s (j + 1) = zs s j := by rw [HZS.out, hle2]; exact List.append_nil _
            have LS2 : Hid (Ls W Wa sb vr (.slice (some ⟨gb, 0, none⟩) nb capb) vf s v (trE E ++ zs s (j + 1))) := by rw [hz1]; exact LSA.out
            clear hz1
            obtain ⟨wj, wj2⟩ := WJ.out
            go_wp2
            go_roundw
            case rel => exact ⟨j + 1, v, hjn, rfl, LS2.out, HDA.out, ZA.out⟩
            case measure => exact HM.out
      · have e : j = nb := by omega
        subst e
        have ca := ls.b1.cell
        obtain ⟨o, cap, hv⟩ := slice_of (owns_base ls.row (b' := 0) (fun _ _ => Nat.zero_le _))
        generalize (trE E ++ zs s j).length = nn at hv
        subst hv
        have LS := hid ls
        clear ls
        go_wp2
        refine ⟨by simp, .inl ⟨_, _, rfl, run_takeDeferred hD, ?_⟩⟩
        have hu : Upd (fun k => k = W.heap.size + 4) wr (wr.putObj (W.heap.size + 4) (.deferred none)) := upd_put (S := fun k => k = W.heap.size + 4) rfl _
        refine ⟨_, results_tmp rfl _ _ _, _, rfl, LS.out.bel.trans (hu.below LS.out.bel.size (fun k e => by omega)), ?_⟩
        have hxl : extL s E = trE E ++ zs s j := by unfold extL; rw [HNB.out]
        rw [hxl]
        exact owns_base (owns_on LS.out.row (fun k e => hu.block k (LS.out.row.lt k e).2 (by have := (LS.out.row.lt k e).1; omega))) (fun k e => by have := (LS.out.row.lt k e).1; omega)
  case stop => intro c W' hF; exact hF.elim
end
end Go.Proofs.Ytmeoonnofiicpaa.W
/- A range over an iterator, whatever iterator: what it tells, and the loop over it. -/
namespace Go.Proofs.Ytmeoonnofiicpaa.W
open Go.ChangeShapes Go.WideShapes Go.RowKit Go.Shelf
set_option linter.unusedVariables false
theorem below_cell {W W' : World} {p : Addr} {v : Value} (hb : Below W.heap.size W W') (h : W.cell? p = some v) : W'.cell? p = some v := by
  rcases Nat.lt_or_ge p.block W.heap.size with c | c
  · rw [hb.cell c]; exact h
  · exfalso
    have e : W.heap[p.block]? = none := Array.getElem?_eq_none c
    simp [World.cell?, e] at h
/-- the function gf, with lb captured, yields vals, as long as it is asked, where G holds; beyond that it only lays blocks -/
def Iter (gf : Nat) (lb : Array Value) (vals : List (Array Value)) (G : Nat → World → Prop) : Prop :=
  ∀ (n l : Nat) (J : Nat → World → Prop) (X : World → Prop), 1 ≤ n → (∀ i W, J i W → G i W) → (∀ i W W', J i W → Below W.heap.size W W' → J i W') →
    (∀ i (hi : i < vals.length) W, J i W → YieldAt Fence.wide (n - 1) Try.prog l vals[i] W fun e W' => (e = .returned (.bool true) ∧ J (i + 1) W') ∨ (e = .returned (.bool false) ∧ X W')) →
    ∀ W, J 0 W → CallsIn Fence.wide n Try.prog gf (#[.func (.yield l) #[] #[]] ++ lb) W fun e W' => (∃ v, e = .returned v) ∧ (J vals.length W' ∨ X W')
/-- how the body of a round is left -/
def rndWay (L D : Nat) (W : World) (In : World → Prop) (Ix : Code → World → Prop) : Exit → Act → World → Prop
  | .normal, _, W' => (W'.heap[L]? = W.heap[L]? ∧ W'.heap[D]? = W.heap[D]?) ∧ In W'
  | .ret, _, W' => (W'.heap[L]? = W.heap[L]? ∧ W'.heap[D]? = W.heap[D]?) ∧ Ix .ret W'
  | .exit id, _, W' => (W'.heap[L]? = W.heap[L]? ∧ W'.heap[D]? = W.heap[D]?) ∧ Ix (.exit id) W'
  | _, _, _ => False
theorem iter_law {gf : Nat} {lb : Array Value} {vals : List (Array Value)} {G : Nat → World → Prop} (hit : Iter gf lb vals G) (eg : ∀ args w, (callFunc gf args).run Try.prog w = .ok (.enter gf args) w)
    {g : Operand} {ps : Array Tmp} {assign body : Code} {Q : Exit → Act → World → Prop} {a : Act} {W0 : World} (hg : a.eval g = .func (.func gf) #[] lb)
    (I : Nat → World → Prop) (Ix : Code → World → Prop) (hL : ∀ i W, I i W → G i W)
    (hI : ∀ i W W', I i W → Upd (fun k => k = W0.heap.size + 1) W W' → I i W')
    (hIx : ∀ c W W', Ix c W → Upd (fun k => k = W0.heap.size + 1) W W' → Ix c W') (h0 : I 0 W0)
    (A : Nat → Act) (hsz : ∀ i (hi : i < vals.length), vals[i].size = ps.size)
    (hassign : ∀ (L i : Nat) (hi : i < vals.length) (W : World) (K : Act → World → Prop), K (A i) W → assign.wpIn (Fence.wide.inRound L) 7 Try.prog (Exit.then K (fun _ _ _ => False)) { tmps := (ps.zip vals[i]).foldl (fun t (p, v) => t.setIfInBounds p v) a.tmps, defers := [] } W)
    (hbody : ∀ (L : Nat) i (hi : i < vals.length) W, L = W0.heap.size + 1 → I i W → W0.heap.size + 2 ≤ W.heap.size → (∃ r, W.heap[L]? = some (.loop r)) → body.wpIn (Fence.wide.inRound L) 7 Try.prog (rndWay L W0.heap.size W (I (i + 1)) Ix) (A i) W)
    (hdone : ∀ W, I vals.length W → W.heap[W0.heap.size]? = some (.deferred (some [])) → Q .normal { a with defers := { target := .collected W0.heap.size, args := #[] } :: a.defers } W)
    (hstop : ∀ c W, Ix c W → W.heap[W0.heap.size]? = some (.deferred (some [])) → c.wp Try.prog Q { a with defers := { target := .collected W0.heap.size, args := #[] } :: a.defers } W) :
    (Code.rangeFunc g ps assign body).wp Try.prog Q a W0 := by
  have hUL : ∀ (W : World) (o : Obj), Upd (fun k => k = W0.heap.size + 1) W (W.putObj (W0.heap.size + 1) o) := fun W o => upd_put (S := fun k => k = W0.heap.size + 1) (L := W0.heap.size + 1) rfl o
  refine (wpIn_wide (n := 9)).1 (rf_law hg eg (fun W => I vals.length W) Ix ?_ ?_ ?_)
  · intro r W1 hr1 hr2 hr3 hr4 hr5 hr6 hW1 hL1
    have hI1 : I 0 W1 := by
      refine hI 0 W0 W1 h0 ?_
      rw [hW1]; exact ((Upd.refl _ W0).alloc _).alloc _
    have hsz1 : W0.heap.size + 2 ≤ W1.heap.size := by rw [hW1]; simp
    have key := hit 8 (W0.heap.size + 1)
      (fun i W => I i W ∧ LoopAt W (W0.heap.size + 1) W0.heap.size r ∧ W0.heap.size + 2 ≤ W.heap.size)
      (fun W => ∃ c, Ix c W ∧ LoopAt W (W0.heap.size + 1) W0.heap.size { r with state := .done, pending := some c })
      (by omega) (fun i W h => hL i W h.1) ?_ ?_ W1 ⟨hI1, hL1, hsz1⟩
    · refine key.mono ?_
      rintro e W3 ⟨hv, ⟨h1, h2, _⟩ | ⟨c, h1, h2⟩⟩
      · exact ⟨hv, .inl ⟨h1, r, h2, by rw [hr1]; simp, hr2⟩⟩
      · exact ⟨hv, .inr ⟨c, h1, _, h2, by simp, rfl⟩⟩
    · rintro i W W' ⟨h1, h2, h3⟩ hb
      exact ⟨hI i W W' h1 (Upd.of_below hb), h2.kept (hb.block _ (by omega)) (hb.block _ (by omega)), by have := hb.size; omega⟩
    · rintro i hi W ⟨hi1, hl1, hs1⟩
      have hargs : vals[i].size = r.params.size := by rw [hr4]; exact hsz i hi
      refine YieldAt.mono (yield_law (Rn := fun W' => I (i + 1) W' ∧ LoopAt W' (W0.heap.size + 1) W0.heap.size r ∧ W0.heap.size + 2 ≤ W'.heap.size) (Rx := fun c W' => Ix c W' ∧ LoopAt W' (W0.heap.size + 1) W0.heap.size { r with state := .done, pending := some c }) hl1 hr1 hargs (A i) ?_ ?_) ?_
      · intro K hK
        rw [hr5, hr4, hr3]
        exact hassign _ i hi W K hK
      · intro W2 hW2 hl2
        have hI2 : I i W2 := by rw [hW2]; exact hI i W _ hi1 (hUL W _)
        have hs2 : W0.heap.size + 2 ≤ W2.heap.size := by rw [hW2]; simpa using hs1
        have hbd := hbody _ i hi W2 rfl hI2 hs2 ⟨_, hl2.lp⟩
        rw [← hr6] at hbd
        refine wpIn_mono hbd ?_
        intro e a3 W3 hp
        have put : ∀ q : Loop, (W3.heap[W0.heap.size + 1]? = W2.heap[W0.heap.size + 1]? ∧ W3.heap[W0.heap.size]? = W2.heap[W0.heap.size]?) → LoopAt W3 (W0.heap.size + 1) W0.heap.size { r with state := .busy } ∧ LoopAt (W3.putObj (W0.heap.size + 1) (.loop q)) (W0.heap.size + 1) W0.heap.size q ∧ W0.heap.size + 2 ≤ (W3.putObj (W0.heap.size + 1) (.loop q)).heap.size := by
          rintro q ⟨e1, e2⟩
          have hl3 := hl2.kept e1 e2
          refine ⟨hl3, hl3.put q, ?_⟩
          have := (Array.getElem?_eq_some_iff.1 hl3.lp).1
          simp; omega
        cases e with
        | normal =>
          obtain ⟨hk, hin⟩ := hp
          obtain ⟨p1, p2, p4⟩ := put { r with state := .ready, pending := none } hk
          have er : ({ r with state := .ready, pending := none } : Loop) = r := by cases r; simp_all
          refine ⟨p1, hI _ W3 _ hin (hUL W3 _), ?_, p4⟩
          rw [er] at p2 ⊢
          exact p2
        | ret =>
          obtain ⟨hk, hin⟩ := hp
          obtain ⟨p1, p2, p4⟩ := put { r with state := .done, pending := some .ret } hk
          exact ⟨p1, hIx _ W3 _ hin (hUL W3 _), p2⟩
        | exit id =>
          obtain ⟨hk, hin⟩ := hp
          obtain ⟨p1, p2, p4⟩ := put { r with state := .done, pending := some (.exit id) } hk
          exact ⟨p1, hIx _ W3 _ hin (hUL W3 _), p2⟩
        | goto t => exact hp.elim
        | panic ch => exact hp.elim
        | outgrown => exact hp.elim
      · rintro e W' (⟨rfl, h1⟩ | ⟨rfl, c, h1⟩)
        · exact .inl ⟨rfl, h1⟩
        · exact .inr ⟨rfl, c, h1⟩
  · intro W3 q hd hl
    exact hdone _ (hI _ W3 _ hd (hUL W3 _)) hl.defs
  · intro W3 q c hs hl
    exact wpIn_wide.2 (hstop c _ (hIx _ W3 _ hs (hUL W3 _)) hl.defs)
end Go.Proofs.Ytmeoonnofiicpaa.W
/- A range over an iterator that passes some by. -/
namespace Go.Proofs.Ytmeoonnofiicpaa.W
open Go.ChangeShapes Go.WideShapes Go.RowKit Go.Shelf
set_option linter.unusedVariables false
/-- the function gf, with lb captured, tells val k for each k below n that is of P, as long as it is asked, where G holds -/
def IterP (gf : Nat) (lb : Array Value) (n : Nat) (P : Nat → Bool) (val : Nat → Array Value) (G : Nat → World → Prop) : Prop :=
  ∀ (m l : Nat) (J : Nat → World → Prop) (X : World → Prop), 1 ≤ m → (∀ i W, J i W → G i W) → (∀ i W W', J i W → Below W.heap.size W W' → J i W') → (∀ i W, i < n → P i = false → J i W → J (i + 1) W) →
    (∀ i (hi : i < n) W, P i = true → J i W → YieldAt Fence.wide (m - 1) Try.prog l (val i) W fun e W' => (e = .returned (.bool true) ∧ J (i + 1) W') ∨ (e = .returned (.bool false) ∧ X W')) →
    ∀ W, J 0 W → CallsIn Fence.wide m Try.prog gf (#[.func (.yield l) #[] #[]] ++ lb) W fun e W' => (∃ v, e = .returned v) ∧ (J n W' ∨ X W')
theorem iterP_law {gf : Nat} {lb : Array Value} {n : Nat} {P : Nat → Bool} {val : Nat → Array Value} {G : Nat → World → Prop} (hit : IterP gf lb n P val G) (eg : ∀ args w, (callFunc gf args).run Try.prog w = .ok (.enter gf args) w)
    {g : Operand} {ps : Array Tmp} {assign body : Code} {Q : Exit → Act → World → Prop} {a : Act} {W0 : World} (hg : a.eval g = .func (.func gf) #[] lb)
    (I : Nat → World → Prop) (Ix : Code → World → Prop) (hL : ∀ i W, I i W → G i W)
    (hI : ∀ i W W', I i W → Upd (fun k => k = W0.heap.size + 1) W W' → I i W')
    (hIx : ∀ c W W', Ix c W → Upd (fun k => k = W0.heap.size + 1) W W' → Ix c W') (h0 : I 0 W0)
    (hskip : ∀ i W, i < n → P i = false → I i W → I (i + 1) W) (A : Nat → Act) (hsz : ∀ i, (val i).size = ps.size)
    (hassign : ∀ (L i : Nat) (W : World) (K : Act → World → Prop), K (A i) W → assign.wpIn (Fence.wide.inRound L) 7 Try.prog (Exit.then K (fun _ _ _ => False)) { tmps := (ps.zip (val i)).foldl (fun t (p, v) => t.setIfInBounds p v) a.tmps, defers := [] } W)
    (hbody : ∀ (L : Nat) i (hi : i < n) W, P i = true → L = W0.heap.size + 1 → I i W → W0.heap.size + 2 ≤ W.heap.size → (∃ r, W.heap[L]? = some (.loop r)) → body.wpIn (Fence.wide.inRound L) 7 Try.prog (rndWay L W0.heap.size W (I (i + 1)) Ix) (A i) W)
    (hdone : ∀ W, I n W → W.heap[W0.heap.size]? = some (.deferred (some [])) → Q .normal { a with defers := { target := .collected W0.heap.size, args := #[] } :: a.defers } W)
    (hstop : ∀ c W, Ix c W → W.heap[W0.heap.size]? = some (.deferred (some [])) → c.wp Try.prog Q { a with defers := { target := .collected W0.heap.size, args := #[] } :: a.defers } W) :
    (Code.rangeFunc g ps assign body).wp Try.prog Q a W0 := by
  have hUL : ∀ (W : World) (o : Obj), Upd (fun k => k = W0.heap.size + 1) W (W.putObj (W0.heap.size + 1) o) := fun W o => upd_put (S := fun k => k = W0.heap.size + 1) (L := W0.heap.size + 1) rfl o
  refine (wpIn_wide (n := 9)).1 (rf_law hg eg (fun W => I n W) Ix ?_ ?_ ?_)
  · intro r W1 hr1 hr2 hr3 hr4 hr5 hr6 hW1 hL1
    have hI1 : I 0 W1 := by
      refine hI 0 W0 W1 h0 ?_
      rw [hW1]; exact ((Upd.refl _ W0).alloc _).alloc _
    have hsz1 : W0.heap.size + 2 ≤ W1.heap.size := by rw [hW1]; simp
    have key := hit 8 (W0.heap.size + 1)
      (fun i W => I i W ∧ LoopAt W (W0.heap.size + 1) W0.heap.size r ∧ W0.heap.size + 2 ≤ W.heap.size)
      (fun W => ∃ c, Ix c W ∧ LoopAt W (W0.heap.size + 1) W0.heap.size { r with state := .done, pending := some c })
      (by omega) (fun i W h => hL i W h.1) ?_ (fun i W hi hp h => ⟨hskip i W hi hp h.1, h.2⟩) ?_ W1 ⟨hI1, hL1, hsz1⟩
    · refine key.mono ?_
      rintro e W3 ⟨hv, ⟨h1, h2, _⟩ | ⟨c, h1, h2⟩⟩
      · exact ⟨hv, .inl ⟨h1, r, h2, by rw [hr1]; simp, hr2⟩⟩
      · exact ⟨hv, .inr ⟨c, h1, _, h2, by simp, rfl⟩⟩
    · rintro i W W' ⟨h1, h2, h3⟩ hb
      exact ⟨hI i W W' h1 (Upd.of_below hb), h2.kept (hb.block _ (by omega)) (hb.block _ (by omega)), by have := hb.size; omega⟩
    · rintro i hi W hP ⟨hi1, hl1, hs1⟩
      have hargs : (val i).size = r.params.size := by rw [hr4]; exact hsz i
      refine YieldAt.mono (yield_law (Rn := fun W' => I (i + 1) W' ∧ LoopAt W' (W0.heap.size + 1) W0.heap.size r ∧ W0.heap.size + 2 ≤ W'.heap.size) (Rx := fun c W' => Ix c W' ∧ LoopAt W' (W0.heap.size + 1) W0.heap.size { r with state := .done, pending := some c }) hl1 hr1 hargs (A i) ?_ ?_) ?_
      · intro K hK
        rw [hr5, hr4, hr3]
        exact hassign _ i W K hK
      · intro W2 hW2 hl2
        have hI2 : I i W2 := by rw [hW2]; exact hI i W _ hi1 (hUL W _)
        have hs2 : W0.heap.size + 2 ≤ W2.heap.size := by rw [hW2]; simpa using hs1
        have hbd := hbody _ i hi W2 hP rfl hI2 hs2 ⟨_, hl2.lp⟩
        rw [← hr6] at hbd
        refine wpIn_mono hbd ?_
        intro e a3 W3 hp
        have put : ∀ q : Loop, (W3.heap[W0.heap.size + 1]? = W2.heap[W0.heap.size + 1]? ∧ W3.heap[W0.heap.size]? = W2.heap[W0.heap.size]?) → LoopAt W3 (W0.heap.size + 1) W0.heap.size { r with state := .busy } ∧ LoopAt (W3.putObj (W0.heap.size + 1) (.loop q)) (W0.heap.size + 1) W0.heap.size q ∧ W0.heap.size + 2 ≤ (W3.putObj (W0.heap.size + 1) (.loop q)).heap.size := by
          rintro q ⟨e1, e2⟩
          have hl3 := hl2.kept e1 e2
          refine ⟨hl3, hl3.put q, ?_⟩
          have := (Array.getElem?_eq_some_iff.1 hl3.lp).1
          simp; omega
        cases e with
        | normal =>
          obtain ⟨hk, hin⟩ := hp
          obtain ⟨p1, p2, p4⟩ := put { r with state := .ready, pending := none } hk
          have er : ({ r with state := .ready, pending := none } : Loop) = r := by cases r; simp_all
          refine ⟨p1, hI _ W3 _ hin (hUL W3 _), ?_, p4⟩
          rw [er] at p2 ⊢
          exact p2
        | ret =>
          obtain ⟨hk, hin⟩ := hp
          obtain ⟨p1, p2, p4⟩ := put { r with state := .done, pending := some .ret } hk
          exact ⟨p1, hIx _ W3 _ hin (hUL W3 _), p2⟩
        | exit id =>
          obtain ⟨hk, hin⟩ := hp
          obtain ⟨p1, p2, p4⟩ := put { r with state := .done, pending := some (.exit id) } hk
          exact ⟨p1, hIx _ W3 _ hin (hUL W3 _), p2⟩
        | goto t => exact hp.elim
        | panic ch => exact hp.elim
        | outgrown => exact hp.elim
      · rintro e W' (⟨rfl, h1⟩ | ⟨rfl, c, h1⟩)
        · exact .inl ⟨rfl, h1⟩
        · exact .inr ⟨rfl, c, h1⟩
  · intro W3 q hd hl
    exact hdone _ (hI _ W3 _ hd (hUL W3 _)) hl.defs
  · intro W3 q c hs hl
    exact wpIn_wide.2 (hstop c _ (hIx _ W3 _ hs (hUL W3 _)) hl.defs)
end Go.Proofs.Ytmeoonnofiicpaa.W
/- A range over an iterator that lays and changes blocks of its own, and passes some by: the caller says which blocks are its own. -/
namespace Go.Proofs.Ytmeoonnofiicpaa.W
open Go.ChangeShapes Go.WideShapes Go.RowKit Go.Shelf
set_option linter.unusedVariables false
/-- gf, with lb captured, tells val k for each k below n that is of P, as long as it is asked, where G holds; blocks from B on that are none of D may change between the rounds, and a round leaves them alone -/
def IterE (gf : Nat) (lb : Array Value) (n : Nat) (P : Nat → Bool) (val : Nat → Array Value) (G : World → Prop) : Prop :=
  ∀ (m l B : Nat) (J : Nat → (Nat → Prop) → World → Prop) (X : World → Prop), 1 ≤ m → (∀ i D W, J i D W → G W ∧ B ≤ W.heap.size ∧ ∀ k, D k → k < W.heap.size) →
    (∀ i D W W', J i D W → Upd (fun k => B ≤ k ∧ ¬ D k) W W' → J i D W') → (∀ W W', X W → Upd (fun k => B ≤ k) W W' → X W') → (∀ W, X W → G W) → (∀ i D W, i < n → P i = false → J i D W → J (i + 1) D W) →
    (∀ i (hi : i < n) D W, P i = true → J i D W → YieldAt Fence.wide (m - 1) Try.prog l (val i) W fun e W' => (e = .returned (.bool true) ∧ (∃ D', J (i + 1) D' W' ∧ ∀ k, D' k → D k ∨ W.heap.size ≤ k) ∧ ∀ k, B ≤ k → k < W.heap.size → ¬ D k → W'.heap[k]? = W.heap[k]?) ∨ (e = .returned (.bool false) ∧ X W' ∧ ∀ k, B ≤ k → k < W.heap.size → ¬ D k → W'.heap[k]? = W.heap[k]?)) →
    ∀ D W, W.heap.size = B → J 0 D W → CallsIn Fence.wide m Try.prog gf (#[.func (.yield l) #[] #[]] ++ lb) W fun e W' => (∃ v, e = .returned v) ∧ ((∃ D', J n D' W') ∨ X W')
/-- how the body of a round is left, by its blocks Dk -/
def rndWayE (L D : Nat) (Dk : Nat → Prop) (W : World) (In : World → Prop) (Ix : Code → World → Prop) : Exit → Act → World → Prop
  | .normal, _, W' => (W'.heap[L]? = W.heap[L]? ∧ W'.heap[D]? = W.heap[D]?) ∧ (∀ k, D + 2 ≤ k → k < W.heap.size → ¬ Dk k → W'.heap[k]? = W.heap[k]?) ∧ In W'
  | .ret, _, W' => (W'.heap[L]? = W.heap[L]? ∧ W'.heap[D]? = W.heap[D]?) ∧ (∀ k, D + 2 ≤ k → k < W.heap.size → ¬ Dk k → W'.heap[k]? = W.heap[k]?) ∧ Ix .ret W'
  | .exit id, _, W' => (W'.heap[L]? = W.heap[L]? ∧ W'.heap[D]? = W.heap[D]?) ∧ (∀ k, D + 2 ≤ k → k < W.heap.size → ¬ Dk k → W'.heap[k]? = W.heap[k]?) ∧ Ix (.exit id) W'
  | _, _, _ => False
theorem iterE_law {gf : Nat} {lb : Array Value} {n : Nat} {P : Nat → Bool} {val : Nat → Array Value} {G : World → Prop} (hit : IterE gf lb n P val G) (eg : ∀ args w, (callFunc gf args).run Try.prog w = .ok (.enter gf args) w)
    {g : Operand} {ps : Array Tmp} {assign body : Code} {Q : Exit → Act → World → Prop} {a : Act} {W0 : World} (hg : a.eval g = .func (.func gf) #[] lb)
    (I : Nat → (Nat → Prop) → World → Prop) (Ix : Code → World → Prop) (hL : ∀ i D W, I i D W → G W ∧ ∀ k, D k → k < W.heap.size ∧ k ≠ W0.heap.size ∧ k ≠ W0.heap.size + 1)
    (hI : ∀ i D W W', I i D W → Upd (fun k => W0.heap.size + 1 ≤ k ∧ ¬ D k) W W' → I i D W')
    (hIx : ∀ c W W', Ix c W → Upd (fun k => W0.heap.size + 1 ≤ k) W W' → Ix c W') (hLx : ∀ c W, Ix c W → G W) (D0 : Nat → Prop) (h0 : I 0 D0 W0)
    (hskip : ∀ i D W, i < n → P i = false → I i D W → I (i + 1) D W) (A : Nat → Act) (hsz : ∀ i, (val i).size = ps.size)
    (hassign : ∀ (L i : Nat) (W : World) (K : Act → World → Prop), K (A i) W → assign.wpIn (Fence.wide.inRound L) 7 Try.prog (Exit.then K (fun _ _ _ => False)) { tmps := (ps.zip (val i)).foldl (fun t (p, v) => t.setIfInBounds p v) a.tmps, defers := [] } W)
    (hbody : ∀ (L : Nat) i (hi : i < n) D W, P i = true → L = W0.heap.size + 1 → I i D W → W0.heap.size + 2 ≤ W.heap.size → (∃ r, W.heap[L]? = some (.loop r)) → body.wpIn (Fence.wide.inRound L) 7 Try.prog (rndWayE L W0.heap.size D W (fun W' => ∃ D', I (i + 1) D' W' ∧ ∀ k, D' k → D k ∨ W.heap.size ≤ k) Ix) (A i) W)
    (hdone : ∀ D W, I n D W → W.heap[W0.heap.size]? = some (.deferred (some [])) → Q .normal { a with defers := { target := .collected W0.heap.size, args := #[] } :: a.defers } W)
    (hstop : ∀ c W, Ix c W → W.heap[W0.heap.size]? = some (.deferred (some [])) → c.wp Try.prog Q { a with defers := { target := .collected W0.heap.size, args := #[] } :: a.defers } W) :
    (Code.rangeFunc g ps assign body).wp Try.prog Q a W0 := by
  have hU1 : ∀ (D : Nat → Prop) (W : World) (o : Obj), ¬ D (W0.heap.size + 1) → Upd (fun k => W0.heap.size + 1 ≤ k ∧ ¬ D k) W (W.putObj (W0.heap.size + 1) o) := fun D W o h => upd_put (S := fun k => W0.heap.size + 1 ≤ k ∧ ¬ D k) (L := W0.heap.size + 1) ⟨Nat.le_refl _, h⟩ o
  have hU2 : ∀ (W : World) (o : Obj), Upd (fun k => W0.heap.size + 1 ≤ k) W (W.putObj (W0.heap.size + 1) o) := fun W o => upd_put (S := fun k => W0.heap.size + 1 ≤ k) (L := W0.heap.size + 1) (Nat.le_refl _) o
  refine (wpIn_wide (n := 9)).1 (rf_law hg eg (fun W => ∃ D, I n D W) Ix ?_ ?_ ?_)
  · intro r W1 hr1 hr2 hr3 hr4 hr5 hr6 hW1 hL1
    have hI1 : I 0 D0 W1 := by
      refine hI 0 D0 W0 W1 h0 ?_
      rw [hW1]; exact ((Upd.refl _ W0).alloc _).alloc _
    have hsz1 : W1.heap.size = W0.heap.size + 2 := by rw [hW1]; simp
    have key := hit 8 (W0.heap.size + 1) (W0.heap.size + 2)
      (fun i D W => I i D W ∧ LoopAt W (W0.heap.size + 1) W0.heap.size r ∧ W0.heap.size + 2 ≤ W.heap.size)
      (fun W => ∃ c, Ix c W ∧ LoopAt W (W0.heap.size + 1) W0.heap.size { r with state := .done, pending := some c })
      (by omega) (fun i D W h => ⟨(hL i D W h.1).1, h.2.2, fun k e => ((hL i D W h.1).2 k e).1⟩) ?_ ?_ (fun W h => by obtain ⟨c, h1, _⟩ := h; exact hLx c W h1) (fun i D W hi hp h => ⟨hskip i D W hi hp h.1, h.2⟩) ?_ D0 W1 hsz1 ⟨hI1, hL1, by omega⟩
    · refine key.mono ?_
      rintro e W3 ⟨hv, ⟨D, h1, h2, _⟩ | ⟨c, h1, h2⟩⟩
      · exact ⟨hv, .inl ⟨⟨D, h1⟩, r, h2, by rw [hr1]; simp, hr2⟩⟩
      · exact ⟨hv, .inr ⟨c, h1, _, h2, by simp, rfl⟩⟩
    · rintro i D W W' ⟨h1, h2, h3⟩ hu
      exact ⟨hI i D W W' h1 (hu.mono (fun k e => ⟨by omega, e.2⟩)), h2.kept (hu.block _ (by omega) (fun e => by omega)) (hu.block _ (by omega) (fun e => by omega)), by have := hu.size; omega⟩
    · rintro W W' ⟨c, h1, h2⟩ hu
      have l1 := (Array.getElem?_eq_some_iff.1 h2.lp).1
      exact ⟨c, hIx c W W' h1 (hu.mono (fun k e => by omega)), h2.kept (hu.block _ l1 (by omega)) (hu.block _ (by omega) (by omega))⟩
    · rintro i hi D W hP ⟨hi1, hl1, hs1⟩
      have hargs : (val i).size = r.params.size := by rw [hr4]; exact hsz i
      have nD : ¬ D (W0.heap.size + 1) := fun e => ((hL i D W hi1).2 _ e).2.2 rfl
      refine YieldAt.mono (yield_law (Rn := fun W' => (∃ D', I (i + 1) D' W' ∧ ∀ k, D' k → D k ∨ W.heap.size ≤ k) ∧ LoopAt W' (W0.heap.size + 1) W0.heap.size r ∧ W0.heap.size + 2 ≤ W'.heap.size ∧ ∀ k, W0.heap.size + 2 ≤ k → k < W.heap.size → ¬ D k → W'.heap[k]? = W.heap[k]?) (Rx := fun c W' => Ix c W' ∧ LoopAt W' (W0.heap.size + 1) W0.heap.size { r with state := .done, pending := some c } ∧ ∀ k, W0.heap.size + 2 ≤ k → k < W.heap.size → ¬ D k → W'.heap[k]? = W.heap[k]?) hl1 hr1 hargs (A i) ?_ ?_) ?_
      · intro K hK
        rw [hr5, hr4, hr3]
        exact hassign _ i W K hK
      · intro W2 hW2 hl2
        have hI2 : I i D W2 := by rw [hW2]; exact hI i D W _ hi1 (hU1 D W _ nD)
        have hs2 : W0.heap.size + 2 ≤ W2.heap.size := by rw [hW2]; simpa using hs1
        have hz2 : W2.heap.size = W.heap.size := by rw [hW2]; simp
        have hk2 : ∀ k, W0.heap.size + 2 ≤ k → W2.heap[k]? = W.heap[k]? := fun k hk => by rw [hW2]; exact World.putObj_heap_other (by omega)
        have hbd := hbody _ i hi D W2 hP rfl hI2 hs2 ⟨_, hl2.lp⟩
        rw [← hr6] at hbd
        refine wpIn_mono hbd ?_
        intro e a3 W3 hp
        have put : ∀ q : Loop, (W3.heap[W0.heap.size + 1]? = W2.heap[W0.heap.size + 1]? ∧ W3.heap[W0.heap.size]? = W2.heap[W0.heap.size]?) → LoopAt W3 (W0.heap.size + 1) W0.heap.size { r with state := .busy } ∧ LoopAt (W3.putObj (W0.heap.size + 1) (.loop q)) (W0.heap.size + 1) W0.heap.size q ∧ W0.heap.size + 2 ≤ (W3.putObj (W0.heap.size + 1) (.loop q)).heap.size := by
          rintro q ⟨e1, e2⟩
          have hl3 := hl2.kept e1 e2
          refine ⟨hl3, hl3.put q, ?_⟩
          have := (Array.getElem?_eq_some_iff.1 hl3.lp).1
          simp
          rcases Nat.lt_or_ge (W0.heap.size + 1) W3.heap.size with h | h <;> omega
        have same : ∀ q : Loop, (∀ k, W0.heap.size + 2 ≤ k → k < W2.heap.size → ¬ D k → W3.heap[k]? = W2.heap[k]?) → ∀ k, W0.heap.size + 2 ≤ k → k < W.heap.size → ¬ D k → (W3.putObj (W0.heap.size + 1) (.loop q)).heap[k]? = W.heap[k]? := fun q h k h1 h2 h3 => (World.putObj_heap_other (by omega)).trans ((h k h1 (by omega) h3).trans (hk2 k h1))
        cases e with
        | normal =>
          obtain ⟨hk, hkp, D', hin, hD'⟩ := hp
          obtain ⟨p1, p2, p4⟩ := put { r with state := .ready, pending := none } hk
          have er : ({ r with state := .ready, pending := none } : Loop) = r := by cases r; simp_all
          have nD' : ¬ D' (W0.heap.size + 1) := fun e => ((hL _ D' W3 hin).2 _ e).2.2 rfl
          refine ⟨p1, ⟨D', hI _ D' W3 _ hin (hU1 D' W3 _ nD'), fun k e => by have := hD' k e; rwa [hz2] at this⟩, ?_, p4, same _ hkp⟩
          rw [er] at p2 ⊢
          exact p2
        | ret =>
          obtain ⟨hk, hkp, hin⟩ := hp
          obtain ⟨p1, p2, p4⟩ := put { r with state := .done, pending := some .ret } hk
          exact ⟨p1, hIx _ W3 _ hin (hU2 W3 _), p2, same _ hkp⟩
        | exit id =>
          obtain ⟨hk, hkp, hin⟩ := hp
          obtain ⟨p1, p2, p4⟩ := put { r with state := .done, pending := some (.exit id) } hk
          exact ⟨p1, hIx _ W3 _ hin (hU2 W3 _), p2, same _ hkp⟩
        | goto t => exact hp.elim
        | panic ch => exact hp.elim
        | outgrown => exact hp.elim
      · rintro e W' (⟨rfl, ⟨D', h1, h2⟩, h3, h4, h5⟩ | ⟨rfl, c, h1, h2, h3⟩)
        · exact .inl ⟨rfl, ⟨D', ⟨h1, h3, h4⟩, h2⟩, h5⟩
        · exact .inr ⟨rfl, ⟨c, h1, h2⟩, h3⟩
  · intro W3 q hd hl
    obtain ⟨D, hd⟩ := hd
    have nD : ¬ D (W0.heap.size + 1) := fun e => ((hL _ D W3 hd).2 _ e).2.2 rfl
    exact hdone D _ (hI _ D W3 _ hd (hU1 D W3 _ nD)) hl.defs
  · intro W3 q c hs hl
    exact wpIn_wide.2 (hstop c _ (hIx _ W3 _ hs (hU2 W3 _)) hl.defs)
end Go.Proofs.Ytmeoonnofiicpaa.W
/- Package store: Extents. -/
namespace Go.Proofs.Ytmeoonnofiicpaa.W
open Go.ChangeShapes Go.WideShapes Go.RowKit Go.Shelf
set_option linter.unusedVariables false
set_option linter.unusedSimpArgs false
theorem extents_c (W : World) (sb : Nat) : Calls Try.prog 24 #[(Value.pointer (some ⟨sb, 0, none⟩))] W fun e w' => e = .returned (.func (.func 40) #[] #[.pointer (some ⟨W.heap.size, 0, none⟩)]) ∧ w' = W.alloc (.cells #[(Value.pointer (some ⟨sb, 0, none⟩))] 24) := by
  go_enter Try.func24, Try.ntmps24
  go_wp2
  go_ret
  exact ⟨rfl, rfl⟩
theorem eg_ext : ∀ args w, (callFunc 40 args).run Try.prog w = .ok (.enter 40 args) w := enters_of Try.func40 (by kernel_rfl) rfl
def noTr : Tr := ⟨0, 0, 0⟩
/-- an extent, as it is told -/
def Tr.val (t : Tr) : Array Value := #[.agg #[.int .i64 (t.i : Nat), .int .i64 (t.p : Nat), .int .i64 (t.l : Nat)]]
/-- a store that tells l -/
def Tells (W : World) (sb : Nat) (l : List Tr) : Prop := ∃ vr vb vf s E, Lay W sb vr vb vf s ∧ Fit s ∧ Good s E ∧ E.length ≤ 100000000 ∧ s.blks.length ≤ 100000000 ∧ extL s E = l
theorem extL_len {s : Sto} {E : List Ex} : (extL s E).length ≤ E.length + s.blks.length := by
  unfold extL trE zs
  rw [List.length_append, List.length_map, List.length_map]
  have := List.length_filter_le (isZ s) (List.range s.blks.length)
  rw [List.length_range] at this
  omega
set_option maxRecDepth 100000 in
set_option maxHeartbeats 2000000 in
theorem ext_iter (Bc sb : Nat) (l : List Tr) :
    IterE 40 #[.pointer (some ⟨Bc, 0, none⟩)] l.length (fun _ => true) (fun k => (l.getD k noTr).val) (fun W => W.cell? ⟨Bc, 0, none⟩ = some (Value.pointer (some ⟨sb, 0, none⟩)) ∧ Tells W sb l) := by
  intro m ll B J X hm hL hB hXB hXG hS hY D0 W hWB h0
  subst hWB
  show CallsIn Fence.wide m Try.prog 40 #[.func (.yield ll) #[] #[], .pointer (some ⟨Bc, 0, none⟩)] W _
  obtain ⟨⟨cB, vr, vb, vf, s, E, hLay, hFit, hGood, hEl, hBl, hext⟩, _, hD0⟩ := hL 0 D0 W h0
  have cl := list_c hLay hFit hGood hEl hBl
  rw [hext] at cl
  have hll : l.length ≤ 200000000 := by have := extL_len (s := s) (E := E); rw [hext] at this; omega
  have HY := hid hY
  have HL := hid hL
  have HB := hid hB
  have H0 := hid h0
  have HD0 := hid hD0
  have HLL := hid hll
  clear hY hL hB hXB hXG hS h0 hLay hFit hGood hEl hBl hext hD0 hll
  refine callsIn_of_wp Try.func40 rfl trivial ?_ rfl
  simp only [Try.ntmps40, List.size_toArray, List.length_cons, List.length_nil, Nat.reduceAdd, Nat.reduceSub, Array.replicate_succ, Array.replicate_zero, List.push_toArray, List.append_toArray, List.nil_append, List.cons_append]
  gi_wp2_with ((refine ⟨trivial, ?_⟩); gi_at_call 41; (refine (callsIn_wide.2 cl).mono ?_); rintro e w2 ⟨v, rfl, b2, own⟩; clear cl; (obtain ⟨o, cap, hv⟩ := slice_of (owns_base own (b' := 0) (fun _ _ => Nat.zero_le _))); subst hv)
  have hz2 := b2.size
  have hJ2 : J 0 D0 w2 := HB.out 0 D0 W w2 H0.out (Upd.of_below b2)
  obtain ⟨n, hn⟩ : ∃ n, l.length = n := ⟨_, rfl⟩
  rw [hn] at own ⊢
  have HN := hid hn
  have OWN := hid own
  have HGW : Hid (∀ x, (Value.slice o n cap).ownBlock = some x → x < w2.heap.size) := fun x e => (own.lt x e).2
  have HJ2 := hid hJ2
  have HZ2 := hid hz2
  clear hn own hJ2 hz2 b2 cB
  gi_loopw [4, 8] (fun _ ii wr => ∃ (k : Nat) (D : Nat → Prop), k ≤ n ∧ ii = .int .i64 k ∧ J k D wr ∧ (∀ x, D x → x < W.heap.size ∨ w2.heap.size ≤ x) ∧ wr.ownsRow W.heap.size 60 3 (.slice o n cap) n (flatT l) ∧ w2.heap.size ≤ wr.heap.size) (fun _ ii _ => n - (intOf ii).toNat)
  case atStart => exact ⟨0, D0, Nat.zero_le _, rfl, HJ2.out, fun x e => .inl (HD0.out x e), OWN.out, Nat.le_refl _⟩
  case round =>
    obtain ⟨k, D, hk, rfl, hJ, hDx, own, hzr⟩ := hrel
    clear HJ2 OWN
    by_cases hlt : k < n
    · obtain ⟨t, ht⟩ : ∃ t, l[k]? = some t := ⟨_, List.getElem?_eq_getElem (by rw [HN.out]; exact hlt)⟩
      have htd : l.getD k noTr = t := by rw [List.getD_eq_getElem?_getD, ht]; rfl
      obtain ⟨g, cap', hv, _⟩ := own_slice (owns_base own (b' := 0) (fun _ _ => Nat.zero_le _)) (by omega)
      injection hv with hv1 hv2 hv3
      subst hv1
      clear hv2 hv3
      have gl := own.lt g rfl
      have gw := HGW.out g rfl
      have hDr := (HL.out k D wr hJ).2.2
      have c0 := own.cellAt (k * 3) (by omega)
      have c1 := own.cellAt (k * 3 + 1) (by omega)
      have c2 := own.cellAt (k * 3 + 2) (by omega)
      rw [← Nat.add_zero (k * 3), flatT_get l k 0 t ht (by omega), Nat.add_zero] at c0
      rw [flatT_get l k 1 t ht (by omega)] at c1
      rw [flatT_get l k 2 t ht (by omega)] at c2
      simp only [Tr.cells, List.getElem?_cons_succ, List.getElem?_cons_zero] at c0 c1 c2
      have hmeas : n - ((k : Int) + 1).toNat < n - ((k : Int)).toNat := by omega
      have k0 : (0 : Int) ≤ k := Int.natCast_nonneg _
      have k1 : (k : Int) < n := by omega
      have wk : IntKind.i64.wrap ((k : Int) + 1) = (k : Int) + 1 := by have := HLL.out; have := HN.out; rw [IntKind.wrap_i64]; omega
      have wk2 : wrap64 ((k : Int) + 1) = (k : Int) + 1 := by have := HLL.out; have := HN.out; unfold wrap64; omega
      have bA : Below wr.heap.size wr (wr.alloc (.cells #[.int .i64 (t.i : Nat), .int .i64 (t.p : Nat), .int .i64 (t.l : Nat)] 60)) := (Below.refl _ _).alloc (Nat.le_refl _) _
      have hJA := HB.out k D wr _ hJ (Upd.of_below bA)
      have zA : (wr.alloc (.cells #[.int .i64 (t.i : Nat), .int .i64 (t.p : Nat), .int .i64 (t.l : Nat)] 60)).heap.size = wr.heap.size + 1 := World.size_alloc ..
      have hYk := HY.out k (by rw [HN.out]; exact hlt) D _ trivial hJA
      rw [htd] at hYk
      obtain ⟨fn, tmps, assign, body, hy, hR⟩ := hYk
      have fX := fun j => cell_of_row _ _ j _ _ _ (World.alloc_heap_new wr (.cells #[.int .i64 (t.i : Nat), .int .i64 (t.p : Nat), .int .i64 (t.l : Nat)] 60))
      have x0 := fX 0
      have x1 := fX 1
      have x2 := fX 2
      have ownA : (wr.alloc (.cells #[.int .i64 (t.i : Nat), .int .i64 (t.p : Nat), .int .i64 (t.l : Nat)] 60)).ownsRow W.heap.size 60 3 (.slice (some ⟨g, 0, none⟩) n cap) n (flatT l) := owns_on own (fun x e => bA.block x (own.lt x e).2)
      have KP := hid (And.intro hmeas (And.intro hDx (And.intro ownA (And.intro gl (And.intro hzr (And.intro zA (And.intro gw hDr)))))))
      have WK := hid (And.intro wk wk2)
      clear hmeas hDx own ownA gl hzr zA wk wk2 hJ hJA bA ht htd fX gw hDr
      simp only [Tr.val] at hy
      simp at x0 x1 x2
      gi_wp2
      refine hR.mono ?_
      obtain ⟨hmeas, hDx, ownA, gl, hzr, zA, gw, hDr⟩ := KP.out
      rintro e W3 (⟨rfl, ⟨D', hJ', hD'⟩, hkp⟩ | ⟨rfl, hX, hkp⟩)
      · have gn : ¬ D g := fun e => by rcases hDx g e with h | h <;> omega
        have own3 : W3.ownsRow W.heap.size 60 3 (.slice (some ⟨g, 0, none⟩) n cap) n (flatT l) := owns_on ownA (fun x e => by cases e; exact hkp g (by omega) (by omega) gn)
        have hz3 : w2.heap.size ≤ W3.heap.size := by
          have nx : ¬ D wr.heap.size := fun e => by have := hDr _ e; omega
          have h1 := hkp wr.heap.size (by omega) (by omega) nx
          rw [World.alloc_heap_new] at h1
          have := (Array.getElem?_eq_some_iff.1 h1).1
          omega
        have hD2 : ∀ x, D' x → x < W.heap.size ∨ w2.heap.size ≤ x := by
          intro x e
          rcases hD' x e with h | h
          · exact hDx x h
          · right; omega
        have FIN := hid (show ∃ D, J (k + 1) D W3 ∧ (∀ x, D x → x < W.heap.size ∨ w2.heap.size ≤ x) ∧ W3.ownsRow W.heap.size 60 3 (.slice (some ⟨g, 0, none⟩) n cap) n (flatT l) ∧ w2.heap.size ≤ W3.heap.size from ⟨D', hJ', hD2, own3, hz3⟩)
        have HM := hid hmeas
        clear hmeas hDx ownA gl hzr zA gn own3 hJ' hD' hkp hz3 hy hR KP hD2 gw hDr
        obtain ⟨wk, wk2⟩ := WK.out
        gi_wp2
        go_roundw
        case rel =>
          obtain ⟨D, y1, y2, y3, y4⟩ := FIN.out
          exact ⟨k + 1, D, hlt, rfl, y1, y2, y3, y4⟩
        case measure => exact HM.out
      · clear hmeas hDx ownA gl hzr zA hkp hy hR KP gw hDr
        gi_wp2
        refine bodyPost_ret (results_none rfl _ _ _) rfl ?_
        exact ⟨⟨_, rfl⟩, .inr hX⟩
    · have he : k = n := by omega
      subst he
      have G := hid hJ
      clear hJ own hDx
      gi_wp2
      go_end0
      exact ⟨⟨_, rfl⟩, .inl ⟨D, by rw [HN.out]; exact G.out⟩⟩
end Go.Proofs.Ytmeoonnofiicpaa.W
/- StorePacks in plain words: a map of Ids and lengths beside a store; what has been counted; how many extents are told. -/
namespace Go.Proofs.Ytmeoonnofiicpaa.W
open Go.ChangeShapes Go.WideShapes Go.RowKit Go.Shelf
set_option linter.unusedVariables false
/-- how many Ids hold something -/
def cntA (A : List (Option (List Nat))) : Nat := (A.filter (fun x => x.isSome)).length
theorem cntA_cons (x : Option (List Nat)) (A : List (Option (List Nat))) : cntA (x :: A) = (if x.isSome then 1 else 0) + cntA A := by
  unfold cntA
  cases x with
  | none => simp
  | some y => simp; omega
theorem cntA_snoc (A : List (Option (List Nat))) (x : Option (List Nat)) : cntA (A ++ [x]) = cntA A + (if x.isSome then 1 else 0) := by
  unfold cntA
  rw [List.filter_append, List.length_append]
  cases x with
  | none => simp
  | some y => simp
theorem cntA_set (A : List (Option (List Nat))) (i : Nat) (x : Option (List Nat)) (h : i < A.length) : cntA (A.set i x) + (if A[i].isSome then 1 else 0) = cntA A + (if x.isSome then 1 else 0) := by
  induction A generalizing i with
  | nil => exact absurd h (by simp)
  | cons a A ih =>
    cases i with
    | zero => simp only [List.set_cons_zero, cntA_cons, List.getElem_cons_zero]; omega
    | succ i =>
      have := ih i (by simpa using h)
      simp only [List.set_cons_succ, cntA_cons, List.getElem_cons_succ]; omega
theorem least_is_none {A : List (Option (List Nat))} (h : leastA A < A.length) : A[leastA A] = none := by
  have := List.findIdx_getElem (w := h)
  exact Option.isNone_iff_eq_none.1 this
theorem least_le (A : List (Option (List Nat))) : leastA A ≤ A.length := List.findIdx_le_length
theorem cntA_put (A : List (Option (List Nat))) (y : List Nat) : cntA (putA A (leastA A) (some y)) = cntA A + 1 := by
  unfold putA
  by_cases c : leastA A < A.length
  · rw [if_pos c]
    have h1 := cntA_set A (leastA A) (some y) c
    rw [least_is_none c] at h1
    simpa using h1
  · rw [if_neg c, cntA_snoc]; rfl
theorem putA_self (A : List (Option (List Nat))) (x : Option (List Nat)) : (putA A (leastA A) x)[leastA A]? = some x := by
  unfold putA
  by_cases c : leastA A < A.length
  · rw [if_pos c, List.getElem?_set_self c]
  · have := least_le A
    rw [if_neg c, show leastA A = A.length by omega]; simp
theorem putA_ne (A : List (Option (List Nat))) (x : Option (List Nat)) (i : Nat) (h : i ≠ leastA A) : (putA A (leastA A) x)[i]? = A[i]? := by
  unfold putA
  by_cases c : leastA A < A.length
  · rw [if_pos c, List.getElem?_set_ne (by omega)]
  · have := least_le A
    rw [if_neg c]
    by_cases d : i < A.length
    · rw [List.getElem?_append_left d]
    · rw [List.getElem?_eq_none (by rw [List.length_append]; simp; omega), List.getElem?_eq_none (by omega)]
theorem putA_set (A : List (Option (List Nat))) (x y : Option (List Nat)) : (putA A (leastA A) x).set (leastA A) y = putA A (leastA A) y := by
  unfold putA
  have := least_le A
  by_cases c : leastA A < A.length
  · rw [if_pos c, if_pos c, List.set_set]
  · rw [if_neg c, if_neg c, show leastA A = A.length by omega]; simp
/-- a key -/
def kI (z : Int) : Lit := .int .i64 z
abbrev Dm := DataW Unit
theorem kI_key (z : Int) : WideAt.IsKeyLit (kI z) := trivial
theorem kI_ne {a b : Int} (h : a ≠ b) : kI a ≠ kI b := fun e => h (by injection e)
/-- the map holds the lengths of what the Ids hold; of each the last byte is its own -/
structure Mp (A : List (Option (List Nat))) (D : Dm) : Prop where
  tidy : Maps.Tidy D
  has : ∀ z : Int, Maps.has D (kI z) = true ↔ ∃ (id : Nat) (x : List Nat), z = id ∧ A[id]? = some (some x)
  val : ∀ (id : Nat) (x : List Nat), A[id]? = some (some x) → ∀ zd, D.atKey (kI (id : Int)) zd = .lit (.int .i64 (x.length : Int))
  size : Maps.size D = cntA A
  byte : ∀ (id : Nat) (x : List Nat), A[id]? = some (some x) → x.length ≤ 200 ∧ (0 < x.length → x[x.length - 1]? = some ((id + 7) % 256))
theorem mp_nil : Mp [] (.map []) := ⟨Maps.tidy_empty, fun z => ⟨(fun h => by cases h), (fun ⟨id, x, _, h⟩ => by simp at h)⟩, (fun id x h => by simp at h), rfl, (fun id x h => by simp at h)⟩
theorem Mp.put {A : List (Option (List Nat))} {D : Dm} (m : Mp A D) (y : List Nat) (hl : y.length ≤ 200) (hb : 0 < y.length → y[y.length - 1]? = some ((leastA A + 7) % 256)) : Mp (putA A (leastA A) (some y)) (D.put (kI (leastA A : Nat)) (.lit (.int .i64 (y.length : Int)))) := by
  have hno : Maps.has D (kI (leastA A : Nat)) = false := by
    cases h : Maps.has D (kI (leastA A : Nat)) with
    | false => rfl
    | true =>
      obtain ⟨id, x, e, hx⟩ := (m.has _).1 h
      have e' : leastA A = id := by omega
      subst e'
      have hl := (List.getElem?_eq_some_iff.1 hx).1
      rw [List.getElem?_eq_getElem hl, least_is_none hl] at hx
      cases hx
  refine ⟨m.tidy.put (kI_key _) _, ?_, ?_, ?_, ?_⟩
  · intro z
    by_cases e : z = (leastA A : Nat)
    · subst e
      exact ⟨fun _ => ⟨leastA A, y, rfl, putA_self A _⟩, fun _ => Maps.has_put_same m.tidy.isMap (kI_key _) _⟩
    · rw [Maps.has_put_other (kI_ne e), m.has z]
      constructor
      · rintro ⟨id, x, rfl, hx⟩
        exact ⟨id, x, rfl, by rw [putA_ne A _ id (by omega)]; exact hx⟩
      · rintro ⟨id, x, rfl, hx⟩
        exact ⟨id, x, rfl, by rw [putA_ne A _ id (by omega)] at hx; exact hx⟩
  · intro id x hx zd
    by_cases e : id = leastA A
    · subst e
      rw [putA_self] at hx
      cases hx
      exact Maps.atKey_put_same m.tidy.isMap (kI_key _) _ _
    · rw [putA_ne A _ id e] at hx
      rw [Maps.atKey_put_other (kI_ne (by omega))]
      exact m.val id x hx zd
  · rw [Maps.size_put m.tidy, hno, cntA_put, m.size]; rfl
  · intro id x hx
    by_cases e : id = leastA A
    · subst e
      rw [putA_self] at hx
      cases hx
      exact ⟨hl, hb⟩
    · rw [putA_ne A _ id e] at hx
      exact m.byte id x hx
theorem Mp.del {A : List (Option (List Nat))} {D : Dm} (m : Mp A D) (id : Nat) (x : List Nat) (hx : A[id]? = some (some x)) : Mp (A.set id none) (D.del (kI (id : Nat))) := by
  have hl := (List.getElem?_eq_some_iff.1 hx).1
  have hh : Maps.has D (kI (id : Nat)) = true := (m.has _).2 ⟨id, x, rfl, hx⟩
  refine ⟨m.tidy.del _, ?_, ?_, ?_, ?_⟩
  · intro z
    by_cases e : z = (id : Nat)
    · subst e
      rw [Maps.has_del_same]
      constructor
      · intro h; cases h
      · rintro ⟨i, y, e, hy⟩
        have : id = i := by omega
        subst this
        rw [List.getElem?_set_self hl] at hy
        cases hy
    · rw [Maps.has_del_other (kI_ne e), m.has z]
      constructor
      · rintro ⟨i, y, rfl, hy⟩
        exact ⟨i, y, rfl, by rw [List.getElem?_set_ne (by omega)]; exact hy⟩
      · rintro ⟨i, y, rfl, hy⟩
        exact ⟨i, y, rfl, by rw [List.getElem?_set_ne (by omega)] at hy; exact hy⟩
  · intro i y hy zd
    by_cases e : id = i
    · subst e; rw [List.getElem?_set_self hl] at hy; cases hy
    · rw [List.getElem?_set_ne e] at hy
      rw [Maps.atKey_del_other (kI_ne (by omega))]
      exact m.val i y hy zd
  · have h1 := Maps.size_del (k := kI (id : Nat)) m.tidy
    rw [hh, m.size] at h1
    have h2 := cntA_set A id none hl
    have h3 : A[id] = some x := (List.getElem?_eq_some_iff.1 hx).2
    rw [h3] at h2
    simp at h1 h2
    omega
  · intro i y hy
    by_cases e : id = i
    · subst e; rw [List.getElem?_set_self hl] at hy; cases hy
    · rw [List.getElem?_set_ne e] at hy
      exact m.byte i y hy
/-- what those need that f names -/
def visF (f : Nat → Bool) : List (Option (List Nat)) → Nat → Nat
  | [], _ => 0
  | x :: r, i => (if f i then lenA x else 0) + visF f r (i + 1)
theorem visF_none (f : Nat → Bool) : ∀ (A : List (Option (List Nat))) (i : Nat), (∀ j x, A[j]? = some (some x) → f (i + j) = false) → visF f A i = 0
  | [], _, _ => rfl
  | x :: r, i, h => by
    show (if f i then lenA x else 0) + visF f r (i + 1) = 0
    rw [visF_none f r (i + 1) (fun j y hy => by have := h (j + 1) y (by simpa using hy); rwa [show i + 1 + j = i + (j + 1) by omega])]
    cases x with
    | none => split <;> rfl
    | some y => rw [if_neg (by have := h 0 y rfl; rw [Nat.add_zero] at this; simp [this])]
theorem visF_all (f : Nat → Bool) : ∀ (A : List (Option (List Nat))) (i : Nat), (∀ j, f j = true) → visF f A i = sumA A
  | [], _, _ => rfl
  | x :: r, i, h => by
    show (if f i then lenA x else 0) + visF f r (i + 1) = _
    rw [visF_all f r (i + 1) h, if_pos (h i), sumA_cons]
theorem visF_far (f g : Nat → Bool) : ∀ (A : List (Option (List Nat))) (i : Nat), (∀ j, i ≤ j → f j = g j) → visF f A i = visF g A i
  | [], _, _ => rfl
  | x :: r, i, h => by
    show (if f i then lenA x else 0) + visF f r (i + 1) = (if g i then lenA x else 0) + visF g r (i + 1)
    rw [visF_far f g r (i + 1) (fun j hj => h j (by omega)), h i (Nat.le_refl _)]
theorem visF_one (f g : Nat → Bool) (k : Nat) : ∀ (A : List (Option (List Nat))) (i : Nat) (x : List Nat), A[k]? = some (some x) → f (i + k) = false → g (i + k) = true → (∀ j, j ≠ i + k → g j = f j) → visF g A i = visF f A i + up8N x.length := by
  induction k with
  | zero =>
    intro A i x hx hf hg h
    cases A with
    | nil => simp at hx
    | cons a r =>
      simp at hx
      subst hx
      show (if g i then lenA (some x) else 0) + visF g r (i + 1) = (if f i then lenA (some x) else 0) + visF f r (i + 1) + _
      rw [Nat.add_zero] at hf hg
      rw [visF_far g f r (i + 1) (fun j hj => h j (by omega)), hf, hg]
      simp [lenA]; omega
  | succ k ih =>
    intro A i x hx hf hg h
    cases A with
    | nil => simp at hx
    | cons a r =>
      show (if g i then lenA a else 0) + visF g r (i + 1) = (if f i then lenA a else 0) + visF f r (i + 1) + _
      rw [ih r (i + 1) x (by simpa using hx) (by rwa [show i + 1 + k = i + (k + 1) by omega]) (by rwa [show i + 1 + k = i + (k + 1) by omega]) (fun j hj => h j (by omega)), h i (by omega)]
      omega
/-- how many extents are told -/
theorem ext_count {s : Sto} {E : List Ex} {A : List (Option (List Nat))} (g : Good s E) (ha : All s A) : (extL s E).length = cntA A := by
  have key : ∀ id, id < s.blks.length → ((held s id).isSome = true ↔ (id ∈ E.map (fun e => e.n - 1) ∨ isZ s id = true)) ∧ ¬ (id ∈ E.map (fun e => e.n - 1) ∧ isZ s id = true) := by
    intro id hid
    have hb : s.blks[id]? = some s.blks[id] := List.getElem?_eq_getElem hid
    have hmem : id ∈ E.map (fun e => e.n - 1) ↔ id + 1 ∈ numE E := by
      constructor
      · intro h
        obtain ⟨e, he, hn⟩ := List.mem_map.1 h
        have h0 := (g.lies.2.1 e he).2.2
        refine List.mem_map.2 ⟨e, List.mem_cons_of_mem _ he, by omega⟩
      · intro h
        obtain ⟨e, he, hn⟩ := List.mem_map.1 h
        rcases List.mem_cons.1 he with rfl | he
        · cases hn
        · exact List.mem_map.2 ⟨e, he, by omega⟩
    rw [hmem]
    by_cases c : id + 1 ∈ numE E
    · obtain ⟨k, hk, hki⟩ := mem_rg c (by omega)
      have h1 := held_rg g.rng hk hki
      have hget := g.get (k + 1) _ (rg_get hk)
      rw [← hki, get_blks, hb] at hget
      have hz : isZ s id = false := by
        unfold isZ
        rw [hb]
        have e2 := Option.some.inj hget
        rw [e2]
        have hpos : 0 < (rg E (k + 1)).l := (g.lies.2.1 _ (rg_memE hk)).2.1
        simp [blkOf]; omega
      rw [h1, hz]
      exact ⟨⟨fun _ => .inl c, fun _ => rfl⟩, fun h => by cases h.2⟩
    · rcases g.zero id _ hb c with e | e
      · have h1 : held s id = none := by unfold held; rw [hb, e]; rfl
        have hz : isZ s id = false := by unfold isZ; rw [hb, e]; rfl
        rw [h1, hz]
        refine ⟨⟨(fun h => by cases h), fun h => ?_⟩, fun h => c h.1⟩
        rcases h with h | h
        · exact absurd h c
        · cases h
      · have h1 : (held s id).isSome = true := by unfold held; rw [hb, e]; rfl
        have hz : isZ s id = true := by unfold isZ; rw [hb, e]; rfl
        rw [h1, hz]
        exact ⟨⟨fun _ => .inr rfl, fun _ => rfl⟩, fun h => c h.1⟩
  have hA : cntA A = ((List.range s.blks.length).filter (fun id => (held s id).isSome)).length := by
    have hmap : A = (List.range s.blks.length).map (fun id => held s id) := by
      apply List.ext_getElem?
      intro i
      rw [List.getElem?_map]
      by_cases c : i < A.length
      · rw [List.getElem?_range (by rw [ha.1]; exact c), Option.map_some, ha.at c, List.getElem?_eq_getElem c]
      · rw [List.getElem?_eq_none (by omega), List.getElem?_eq_none (by rw [List.length_range, ha.1]; omega)]; rfl
    unfold cntA
    conv => lhs; rw [hmap]
    rw [List.filter_map, List.length_map]
    rfl
  have hsplit : ∀ l : List Nat, (∀ id ∈ l, id < s.blks.length) → (l.filter (fun id => (held s id).isSome)).length = (l.filter (fun id => decide (id ∈ E.map (fun e => e.n - 1)))).length + (l.filter (isZ s)).length := by
    intro l
    induction l with
    | nil => intro _; rfl
    | cons a r ih =>
      intro hl
      have hr := ih (fun id h => hl id (List.mem_cons_of_mem _ h))
      obtain ⟨k1, k2⟩ := key a (hl a (List.mem_cons_self ..))
      by_cases c1 : a ∈ E.map (fun e => e.n - 1)
      · have c2 : isZ s a = false := by cases h : isZ s a with | false => rfl | true => exact absurd ⟨c1, h⟩ k2
        have c3 : (held s a).isSome = true := k1.2 (.inl c1)
        rw [List.filter_cons_of_pos (by exact c3), List.filter_cons_of_pos (by exact decide_eq_true c1), List.filter_cons_of_neg (by rw [c2]; exact Bool.false_ne_true)]
        simp only [List.length_cons]; omega
      · cases c2 : isZ s a with
        | true =>
          have c3 : (held s a).isSome = true := k1.2 (.inr c2)
          rw [List.filter_cons_of_pos (by exact c3), List.filter_cons_of_neg (by simpa using c1), List.filter_cons_of_pos c2]
          simp only [List.length_cons]; omega
        | false =>
          have c3 : ¬ (held s a).isSome = true := fun h => by
            rcases k1.1 h with h | h
            · exact c1 h
            · rw [c2] at h; cases h
          rw [List.filter_cons_of_neg (by exact c3), List.filter_cons_of_neg (by simpa using c1), List.filter_cons_of_neg (by rw [c2]; exact Bool.false_ne_true)]
          exact hr
  have hn1 : (E.map (fun e => e.n - 1)).Nodup := by
    have h1 := g.nodup
    have h2 : (E.map Ex.n).Nodup := (List.nodup_cons.1 h1).2
    unfold List.Nodup at h2 ⊢
    rw [List.pairwise_map] at h2 ⊢
    refine List.Pairwise.imp_of_mem ?_ h2
    intro a b ha hb hab e
    have := (g.lies.2.1 a ha).2.2
    have := (g.lies.2.1 b hb).2.2
    omega
  have hin : ∀ id ∈ E.map (fun e => e.n - 1), id < s.blks.length := by
    intro id h
    obtain ⟨e, he, hn⟩ := List.mem_map.1 h
    obtain ⟨i, hi, hie⟩ := List.mem_iff_getElem.1 he
    have h0 := (g.lies.2.1 e he).2.2
    have hget := g.get (i + 1) e (by show E[i]? = _; rw [List.getElem?_eq_getElem hi, hie])
    unfold Sto.get at hget
    rw [if_neg h0] at hget
    have := (List.getElem?_eq_some_iff.1 hget).1
    omega
  have hcnt : ((List.range s.blks.length).filter (fun id => decide (id ∈ E.map (fun e => e.n - 1)))).length = E.length := by
    have hp : ((List.range s.blks.length).filter (fun id => decide (id ∈ E.map (fun e => e.n - 1)))).Perm (E.map (fun e => e.n - 1)) := by
      rw [List.perm_ext_iff_of_nodup (List.Pairwise.filter _ List.nodup_range) hn1]
      intro a
      rw [List.mem_filter, List.mem_range]
      constructor
      · intro h; simpa using h.2
      · intro h; exact ⟨hin a h, decide_eq_true h⟩
    have := hp.length_eq
    rwa [List.length_map] at this
  rw [hA, hsplit _ (fun id h => List.mem_range.1 h), hcnt]
  unfold extL trE zs
  rw [List.length_append, List.length_map, List.length_map]
end Go.Proofs.Ytmeoonnofiicpaa.W
/- StorePacks: a store and a map of one's own, its steps. -/
namespace Go.Proofs.Ytmeoonnofiicpaa.W
open Go.ChangeShapes Go.WideShapes Go.RowKit Go.Shelf
set_option linter.unusedVariables false
theorem underI : Try.prog.underlying 3 = some (.int .i64) := by kernel_rfl
theorem lawI : Maps.Keyed Try.prog 3 := Maps.int_keyed underI
theorem zeroI (w : World) : (zeroValue 3).run Try.prog w = .ok (.int .i64 0) w := by kernel_rfl
theorem map_on {W W' : World} {b n : Nat} {D : Dm} (h : W.ownsMap Try.prog 3 (plainElem (H := Unit) Try.prog 3) b n D) (hb : W'.heap[b]? = W.heap[b]?) : W'.ownsMap Try.prog 3 (plainElem (H := Unit) Try.prog 3) b n D := by
  obtain ⟨es, clock, h1, h2⟩ := h
  exact ⟨es, clock, hb.trans h1, h2⟩
theorem ranges_on {W W' : World} {b r n cnt : Nat} {D : Dm} {left : Lit → Bool} (h : W.ranges Try.prog 3 (plainElem (H := Unit) Try.prog 3) b r n D left cnt) (hb : W'.heap[b]? = W.heap[b]?) (hr : W'.heap[r]? = W.heap[r]?) : W'.ranges Try.prog 3 (plainElem (H := Unit) Try.prog 3) b r n D left cnt := by
  obtain ⟨es, clock, since, seen, c0, h1, h2, h3, h4, h5, h6⟩ := h
  exact ⟨es, clock, since, seen, c0, hb.trans h1, h2, h3, h4, hr.trans h5, h6⟩
/-- a store that was made behind w; K: blocks that are none of its -/
structure Pw (w W : World) (sb : Nat) (A : List (Option (List Nat))) (K : Nat → Prop) : Prop where
  st : ∃ S, St W S sb A 20000 100 ∧ (∀ k, S k → w.heap.size ≤ k ∧ k < W.heap.size) ∧ ∀ k, K k → k < W.heap.size ∧ ¬ S k
  bel : Below w.heap.size w W
section
variable {w W W' : World} {sb n : Nat} {A A' : List (Option (List Nat))} {K : Nat → Prop} {D : Dm}
/-- what a call of the store's leaves -/
theorem Pw.step {S : Nat → Prop} (h1 : ∀ k, S k → w.heap.size ≤ k ∧ k < W.heap.size) (h2 : ∀ k, K k → k < W.heap.size ∧ ¬ S k) (hb : Below w.heap.size w W) (hU : Upd S W W') (hS : St W' (Nx S W W') sb A' 20000 100) : Pw w W' sb A' K ∧ ∀ k, K k → W'.heap[k]? = W.heap[k]? := by
  have z := hU.size
  have zb := hb.size
  refine ⟨⟨⟨_, hS, ?_, fun k e => ⟨by have := (h2 k e).1; omega, ?_⟩⟩, hb.trans (hU.below zb (fun k e => (h1 k e).1))⟩, fun k e => hU.block k (h2 k e).1 (h2 k e).2⟩
  · rintro k (e | e)
    · exact ⟨(h1 k e).1, by have := (h1 k e).2; omega⟩
    · exact ⟨by omega, e.2⟩
  · rintro (e2 | e2)
    · exact (h2 k e).2 e2
    · have := (h2 k e).1; omega
theorem Pw.take (p : Pw w W sb A K) (m : Nat) (hm : m ≤ 200) (hs : sumA A + up8N m ≤ 20000) (hl : A.length < 100) : Calls Try.prog 11 #[.pointer (some ⟨sb, 0, none⟩), .int .i64 m] W fun e w' => e = .returned (.tuple #[.int .i64 (leastA A : Nat), .int .i64 0]) ∧ Pw w w' sb (putA A (leastA A) (some (List.replicate m 0))) K ∧ ∀ k, K k → w'.heap[k]? = W.heap[k]? := by
  obtain ⟨⟨S, h1, h2, h3⟩, hb⟩ := p
  refine (take_st h1 m (by omega) hs hl).mono ?_
  rintro e w' ⟨rfl, hU, hS⟩
  exact ⟨rfl, Pw.step h2 h3 hb hU hS⟩
theorem Pw.save (p : Pw w W sb A K) (id : Nat) (x : List Nat) (hx : A[id]? = some (some x)) (o v : Nat) (hv : v < 18446744073709551616) (ho : o + 1 ≤ x.length) : Calls Try.prog 19 #[.pointer (some ⟨sb, 0, none⟩), .int .i64 id, .int .i64 o, .int .i64 1, .int .u64 v] W fun e w' => e = .returned (.int .i64 0) ∧ Pw w w' sb (A.set id (some (saved x o v 1))) K ∧ ∀ k, K k → w'.heap[k]? = W.heap[k]? := by
  obtain ⟨⟨S, h1, h2, h3⟩, hb⟩ := p
  refine (save_st h1 id x hx o 1 v hv (.inl rfl) (Nat.mod_one _) ho).mono ?_
  rintro e w' ⟨rfl, hU, hS⟩
  exact ⟨rfl, Pw.step h2 h3 hb hU (hS.mono (fun k e => .inl e))⟩
theorem Pw.give (p : Pw w W sb A K) (id : Nat) (x : List Nat) (hx : A[id]? = some (some x)) : Calls Try.prog 13 #[.pointer (some ⟨sb, 0, none⟩), .int .i64 id] W fun e w' => e = .returned (.int .i64 0) ∧ Pw w w' sb (A.set id none) K ∧ ∀ k, K k → w'.heap[k]? = W.heap[k]? := by
  obtain ⟨⟨S, h1, h2, h3⟩, hb⟩ := p
  refine (give_st h1 id x hx).mono ?_
  rintro e w' ⟨rfl, hU, hS⟩
  exact ⟨rfl, Pw.step h2 h3 hb hU hS⟩
/-- blocks that are kept aside may change; new ones come -/
theorem Pw.upd {D : Nat → Prop} (p : Pw w W sb A K) (hU : Upd D W W') (hD : ∀ k, D k → K k ∧ w.heap.size ≤ k) : Pw w W' sb A (fun k => K k ∨ (W.heap.size ≤ k ∧ k < W'.heap.size)) := by
  obtain ⟨⟨S, h1, h2, h3⟩, hb⟩ := p
  have z := hU.size
  refine ⟨⟨S, h1.on (fun k e => hU.block k (h2 k e).2 (fun d => (h3 k (hD k d).1).2 e)), fun k e => ⟨(h2 k e).1, by have := (h2 k e).2; omega⟩, ?_⟩, hb.trans (hU.below hb.size (fun k e => (hD k e).2))⟩
  rintro k (e | e)
  · exact ⟨by have := (h3 k e).1; omega, (h3 k e).2⟩
  · exact ⟨e.2, fun e2 => by have := (h2 k e2).2; omega⟩
theorem Pw.sub {K' : Nat → Prop} (p : Pw w W sb A K) (h : ∀ k, K' k → K k) : Pw w W sb A K' := by
  obtain ⟨⟨S, h1, h2, h3⟩, hb⟩ := p
  exact ⟨⟨S, h1, h2, fun k e => h3 k (h k e)⟩, hb⟩
theorem Pw.below (p : Pw w W sb A K) (hB : Below W.heap.size W W') : Pw w W' sb A K := (p.upd (D := fun _ => False) (Upd.of_below hB) (fun k e => e.elim)).sub (fun k e => .inl e)
theorem Pw.load (p : Pw w W sb A K) (id : Nat) (x : List Nat) (hx : A[id]? = some (some x)) (o : Nat) (ho : o + 1 ≤ x.length) : Calls Try.prog 17 #[.pointer (some ⟨sb, 0, none⟩), .int .i64 id, .int .i64 o, .int .i64 1] W fun e w' => e = .returned (.tuple #[.int .u64 (leN (seg x o 1)), .int .i64 0]) ∧ Below W.heap.size W w' := by
  obtain ⟨⟨S, h1, h2, h3⟩, hb⟩ := p
  exact load_st h1 id x hx o 1 (.inl rfl) (Nat.mod_one _) ho
theorem Pw.len (p : Pw w W sb A K) (id : Nat) (x : List Nat) (hx : A[id]? = some (some x)) : Calls Try.prog 15 #[.pointer (some ⟨sb, 0, none⟩), .int .i64 id] W fun e w' => e = .returned (.tuple #[.int .i64 x.length, .int .i64 0]) ∧ w' = W := by
  obtain ⟨⟨S, h1, h2, h3⟩, hb⟩ := p
  exact len_st h1 id x hx
/-- packed -/
structure Pt2 (w W : World) (sb : Nat) (A : List (Option (List Nat))) (K : Nat → Prop) : Prop where
  st : ∃ S, StT W S sb A 20000 100 ∧ (∀ k, S k → w.heap.size ≤ k ∧ k < W.heap.size) ∧ ∀ k, K k → k < W.heap.size ∧ ¬ S k
  bel : Below w.heap.size w W
theorem Pt2.pw (p : Pt2 w W sb A K) : Pw w W sb A K := by
  obtain ⟨⟨S, h1, h2, h3⟩, hb⟩ := p
  exact ⟨⟨S, h1.st, h2, h3⟩, hb⟩
theorem Pw.pack (p : Pw w W sb A K) : Calls Try.prog 21 #[.pointer (some ⟨sb, 0, none⟩)] W fun e w' => e = .returned (.tuple #[]) ∧ Pt2 w w' sb A K ∧ ∀ k, K k → w'.heap[k]? = W.heap[k]? := by
  obtain ⟨⟨S, h1, h2, h3⟩, hb⟩ := p
  refine (pack_stT h1).mono ?_
  rintro e w' ⟨rfl, hU, hS⟩
  have z := hU.size
  exact ⟨rfl, ⟨⟨S, hS, fun k e => ⟨(h2 k e).1, by have := (h2 k e).2; omega⟩, fun k e => ⟨by have := (h3 k e).1; omega, (h3 k e).2⟩⟩, hb.trans (hU.below hb.size (fun k e => (h2 k e).1))⟩, fun k e => hU.block k (h3 k e).1 (h3 k e).2⟩
theorem StT.on {S : Nat → Prop} {U N : Nat} (h : StT W S sb A U N) (hk : ∀ k, S k → W'.heap[k]? = W.heap[k]?) : StT W' S sb A U N := by
  obtain ⟨s, E, vr, vb, vf, hL, hO, f⟩ := h
  exact ⟨s, E, vr, vb, vf, hL.kept (hk _ hO.sb) (fun k e => hk k (hO.row k e)) (fun k e => hk k (hO.blk k e)) (fun k e => hk k (hO.free k e)), hO, f⟩
theorem Pt2.upd {D : Nat → Prop} (p : Pt2 w W sb A K) (hU : Upd D W W') (hD : ∀ k, D k → K k ∧ w.heap.size ≤ k) : Pt2 w W' sb A (fun k => K k ∨ (W.heap.size ≤ k ∧ k < W'.heap.size)) := by
  obtain ⟨⟨S, h1, h2, h3⟩, hb⟩ := p
  have z := hU.size
  refine ⟨⟨S, h1.on (fun k e => hU.block k (h2 k e).2 (fun d => (h3 k (hD k d).1).2 e)), fun k e => ⟨(h2 k e).1, by have := (h2 k e).2; omega⟩, ?_⟩, hb.trans (hU.below hb.size (fun k e => (hD k e).2))⟩
  rintro k (e | e)
  · exact ⟨by have := (h3 k e).1; omega, (h3 k e).2⟩
  · exact ⟨e.2, fun e2 => by have := (h2 k e2).2; omega⟩
theorem Pt2.sub {K' : Nat → Prop} (p : Pt2 w W sb A K) (h : ∀ k, K' k → K k) : Pt2 w W sb A K' := by
  obtain ⟨⟨S, h1, h2, h3⟩, hb⟩ := p
  exact ⟨⟨S, h1, h2, fun k e => h3 k (h k e)⟩, hb⟩
theorem Pt2.below (p : Pt2 w W sb A K) (hB : Below W.heap.size W W') : Pt2 w W' sb A K := (p.upd (D := fun _ => False) (Upd.of_below hB) (fun k e => e.elim)).sub (fun k e => .inl e)
theorem Pt2.span (p : Pt2 w W sb A K) : Calls Try.prog 22 #[.pointer (some ⟨sb, 0, none⟩)] W fun e w' => e = .returned (.int .i64 (sumA A : Nat)) ∧ w' = W := by
  obtain ⟨⟨S, h1, h2, h3⟩, hb⟩ := p
  exact span_stT h1
theorem Pw.used (p : Pw w W sb A K) : Calls Try.prog 23 #[.pointer (some ⟨sb, 0, none⟩)] W fun e w' => e = .returned (.int .i64 (sumA A : Nat)) ∧ w' = W := by
  obtain ⟨⟨S, h1, h2, h3⟩, hb⟩ := p
  exact used_st h1
/-- what Extents asks, as long as one block of one's own is written -/
theorem Pw.tells (p : Pw w W sb A K) {cb Bc : Nat} (hk : K cb) (hB : W.cell? ⟨Bc, 0, none⟩ = some (.pointer (some ⟨sb, 0, none⟩))) (hne : Bc ≠ cb) : ∃ l : List Tr, l.length = cntA A ∧ ∀ W', Upd (fun k => k = cb) W W' → (W'.cell? ⟨Bc, 0, none⟩ = some (.pointer (some ⟨sb, 0, none⟩)) ∧ Tells W' sb l) := by
  obtain ⟨⟨S, ⟨s, E, vr, vb, vf, hL, hO, f⟩, h2, h3⟩, hb⟩ := p
  have nS := (h3 cb hk).2
  have hEl : E.length ≤ s.blks.length := by
    have h1 := ext_count f.good f.all
    have h4 : cntA A ≤ A.length := List.length_filter_le _ _
    have h5 := f.all.1
    unfold extL trE at h1
    rw [List.length_append, List.length_map] at h1
    omega
  have hn := f.num
  have hn9 := f.n9
  have h5 := f.all.1
  refine ⟨extL s E, ext_count f.good f.all, fun W' hU => ⟨?_, vr, vb, vf, s, E, hL.kept (hU.block _ (h2 _ hO.sb).2 (fun e => nS (e ▸ hO.sb))) (fun k e => hU.block _ (h2 _ (hO.row k e)).2 (fun e' => nS (e' ▸ hO.row k e))) (fun k e => hU.block _ (h2 _ (hO.blk k e)).2 (fun e' => nS (e' ▸ hO.blk k e))) (fun k e => hU.block _ (h2 _ (hO.free k e)).2 (fun e' => nS (e' ▸ hO.free k e))), f.fit, f.good, by omega, by omega, rfl⟩⟩
  rw [World.cell?_of_block (hU.block Bc (World.block_lt_of_cell? W _ hB) hne)]
  exact hB
end
theorem pw_new (w : World) : Calls Try.prog 6 #[] w fun e w' => e = .returned (.pointer (some ⟨w.heap.size, 0, none⟩)) ∧ Pw w w' w.heap.size [] (fun k => k < w.heap.size) ∧ w'.heap.size = w.heap.size + 1 := by
  refine (new_st w 20000 100 (by decide) (by decide)).mono ?_
  rintro e w' ⟨rfl, hS, hB, hz⟩
  exact ⟨rfl, ⟨⟨_, hS, fun k e => ⟨by omega, by omega⟩, fun k e => ⟨by omega, fun e2 => by omega⟩⟩, hB⟩, hz⟩
theorem up8N_200 (m : Nat) (h : m ≤ 200) : up8N m ≤ 200 := by unfold up8N; omega
/-- the last byte is written -/
theorem last_saved (m v : Nat) (hm : 0 < m) : (saved (List.replicate m 0) (m - 1) v 1).length = m ∧ (saved (List.replicate m 0) (m - 1) v 1)[m - 1]? = some (v % 256) := by
  have hl : (saved (List.replicate m 0) (m - 1) v 1).length = m := by rw [saved_len, List.length_replicate]
  refine ⟨hl, ?_⟩
  rw [saved_get _ _ _ _ _ (by rw [List.length_replicate]; omega), if_pos ⟨Nat.le_refl _, by omega⟩, Nat.sub_self]
  simp
theorem seg_one (x : List Nat) (o b : Nat) (h : x[o]? = some b) : leN (seg x o 1) = b := by
  have hl := (List.getElem?_eq_some_iff.1 h).1
  have e : seg x o 1 = [b] := by
    unfold seg
    rw [List.drop_eq_getElem_cons hl, (List.getElem?_eq_some_iff.1 h).2]
    rfl
  rw [e]
  simp [leN]
end Go.Proofs.Ytmeoonnofiicpaa.W
/- A range over Extents whose rounds look at nothing but a count. -/
namespace Go.Proofs.Ytmeoonnofiicpaa.W
open Go.ChangeShapes Go.WideShapes Go.RowKit Go.Shelf
set_option linter.unusedVariables false
def oneAct (p1 : Nat) (a : Act) (x : Value) : Act := { tmps := a.tmps.setIfInBounds p1 x, defers := [] }
/-- the value of an extent -/
def Tr.agg (t : Tr) : Value := .agg #[.int .i64 (t.i : Nat), .int .i64 (t.p : Nat), .int .i64 (t.l : Nat)]
theorem ext_law {g : Operand} {p1 : Nat} {body : Code} {Q : Exit → Act → World → Prop} {a : Act} {W0 : World} {Bc sb : Nat} (l : List Tr) (hg : a.eval g = .func (.func 40) #[] #[.pointer (some ⟨Bc, 0, none⟩)])
    (I : Nat → (Nat → Prop) → World → Prop) (Ix : Code → World → Prop) (hL : ∀ i D W, I i D W → (W.cell? ⟨Bc, 0, none⟩ = some (.pointer (some ⟨sb, 0, none⟩)) ∧ Tells W sb l) ∧ ∀ k, D k → k < W.heap.size ∧ k ≠ W0.heap.size ∧ k ≠ W0.heap.size + 1)
    (hI : ∀ i D W W', I i D W → Upd (fun k => W0.heap.size + 1 ≤ k ∧ ¬ D k) W W' → I i D W')
    (hIx : ∀ c W W', Ix c W → Upd (fun k => W0.heap.size + 1 ≤ k) W W' → Ix c W') (hLx : ∀ c W, Ix c W → W.cell? ⟨Bc, 0, none⟩ = some (.pointer (some ⟨sb, 0, none⟩)) ∧ Tells W sb l) (D0 : Nat → Prop) (h0 : I 0 D0 W0)
    (hbody : ∀ (L : Nat) i (hi : i < l.length) D W, L = W0.heap.size + 1 → I i D W → W0.heap.size + 2 ≤ W.heap.size → (∃ r, W.heap[L]? = some (.loop r)) → body.wpIn (Fence.wide.inRound L) 7 Try.prog (rndWayE L W0.heap.size D W (fun W' => ∃ D', I (i + 1) D' W' ∧ ∀ k, D' k → D k ∨ W.heap.size ≤ k) Ix) (oneAct p1 a (l.getD i noTr).agg) W)
    (hdone : ∀ D W, I l.length D W → W.heap[W0.heap.size]? = some (.deferred (some [])) → Q .normal { a with defers := { target := .collected W0.heap.size, args := #[] } :: a.defers } W)
    (hstop : ∀ c W, Ix c W → W.heap[W0.heap.size]? = some (.deferred (some [])) → c.wp Try.prog Q { a with defers := { target := .collected W0.heap.size, args := #[] } :: a.defers } W) :
    (Code.rangeFunc g #[p1] Code.skip body).wp Try.prog Q a W0 := by
  refine iterE_law (ext_iter Bc sb l) eg_ext hg I Ix hL hI hIx hLx D0 h0 (fun i D W hi hp => by cases hp) (fun i => oneAct p1 a (l.getD i noTr).agg) (fun i => rfl) ?_ (fun L i hi D W _ => hbody L i hi D W) hdone hstop
  intro L i W K hK
  have e : (#[p1].zip (l.getD i noTr).val).foldl (fun t (p, v) => t.setIfInBounds p v) a.tmps = a.tmps.setIfInBounds p1 (l.getD i noTr).agg := by
    show Array.foldl _ a.tmps (#[p1].zip #[(l.getD i noTr).agg]) = _
    exact zip_one _ _ _
  rw [e]
  gi_wp2
  exact hK
theorem upd_more' {S1 S2 : Nat → Prop} {a b c : World} (h1 : Upd S1 a b) (h2 : Upd S2 b c) (h : ∀ k, S2 k → a.heap.size ≤ k) : Upd S1 a c :=
  ⟨h2.os.trans h1.os, h2.tape.trans h1.tape, h2.output.trans h1.output, Nat.le_trans h1.size h2.size, fun k hk hn => (h2.block k (Nat.lt_of_lt_of_le hk h1.size) (fun e => by have := h k e; omega)).trans (h1.block k hk hn)⟩
theorem upd_grown {W W' : World} {b : Nat} (hg : W.grownBy W' (some b)) : Upd (fun k => k = b) W W' := (Upd.refl _ W).grown hg (fun k e => .inl (by cases e; rfl))
theorem sameKey_self (z : Int) : (kI z).sameKey (kI z) = true := by simp [kI, Lit.sameKey]
theorem sameKey_int {a b : Int} (h : a ≠ b) : (kI a).sameKey (kI b) = false := Maps.sameKey_ne (kI_ne h)
/-- one more has been counted -/
theorem vis_step {A : List (Option (List Nat))} {left : Lit → Bool} {id : Nat} {x : List Nat} (hx : A[id]? = some (some x)) (hl : left (kI (id : Int)) = true) : visF (fun i => !(left (kI (i : Int)) && !(kI (i : Int)).sameKey (kI (id : Int)))) A 0 = visF (fun i => !left (kI (i : Int))) A 0 + up8N x.length := by
  refine visF_one _ _ id A 0 x hx ?_ ?_ ?_
  · simp [hl]
  · simp [sameKey_self]
  · intro j hj
    have : (j : Int) ≠ (id : Int) := by omega
    rw [sameKey_int this]
    simp
theorem vis_start {A : List (Option (List Nat))} {D : Dm} (m : Mp A D) : visF (fun i => !Maps.has D (kI (i : Int))) A 0 = 0 := by
  refine visF_none _ A 0 ?_
  intro j x hx
  rw [Nat.zero_add, (m.has _).2 ⟨j, x, rfl, hx⟩]
  rfl
theorem vis_end {A : List (Option (List Nat))} {left : Lit → Bool} (h : ∀ kl, left kl = false) : visF (fun i => !left (kI (i : Int))) A 0 = sumA A := visF_all _ A 0 (fun j => by rw [h]; rfl)
theorem vis_le (f : Nat → Bool) : ∀ (A : List (Option (List Nat))) (i : Nat), visF f A i ≤ sumA A
  | [], _ => Nat.le_refl _
  | x :: r, i => by
    have := vis_le f r (i + 1)
    show (if f i then lenA x else 0) + visF f r (i + 1) ≤ _
    rw [sumA_cons]
    split <;> omega
end Go.Proofs.Ytmeoonnofiicpaa.W
