import Derived.Test.YtdafcfmbnlgbfaaS7aJ
import Derived.Test.YtdafcfmbnlgbfaaRgLJ
/- Package store: list. -/
namespace Go.Proofs.Ytdafcfmbnlgbfaa.W
open Go.ChangeShapes Go.WideShapes Go.RowKit Go.Shelf
set_option linter.unusedVariables false
set_option linter.unusedSimpArgs false
section
variable {W W' : World} {sb : Nat} {vr vb vf : Value} {s : Sto} {E : List Ex}
theorem upd_drew' (W : World) {S : Nat → Prop} : Upd S W W.drew := ⟨rfl, rfl, rfl, Nat.le_refl _, fun _ _ _ => rfl⟩
/-- along the ring: k extents are listed -/
structure Ls (W W' : World) (sb : Nat) (vr vb vf : Value) (s : Sto) (v : Value) (l : List Tr) : Prop where
  lay : Lay W' sb vr vb vf s
  b0 : Boxed W' W.heap.size 23 (Value.pointer (some ⟨sb, 0, none⟩))
  b1 : Boxed W' (W.heap.size + 1) 61 v
  row : W'.ownsRow (W.heap.size + 6) 64 3 v l.length (flatT l)
  bel : Below W.heap.size W W'
theorem Ls.upd {v : Value} {l : List Tr} {W2 : World} {D : Nat → Prop} (h : Ls W W' sb vr vb vf s v l) (hl : ∀ k, (k = sb ∨ vr.ownBlock = some k ∨ vb.ownBlock = some k ∨ vf.ownBlock = some k) → k < W.heap.size) (hU : Upd D W' W2) (hD : ∀ k, D k → W.heap.size + 2 ≤ k ∧ ¬ v.ownBlock = some k) : Ls W W2 sb vr vb vf s v l := by
  have z := h.bel.size
  refine ⟨h.lay.kept (hU.block _ (by have := hl sb (.inl rfl); omega) (fun d => by have := hl sb (.inl rfl); have := (hD _ d).1; omega)) (fun k e => hU.block _ (by have := hl k (.inr (.inl e)); omega) (fun d => by have := hl k (.inr (.inl e)); have := (hD _ d).1; omega)) (fun k e => hU.block _ (by have := hl k (.inr (.inr (.inl e))); omega) (fun d => by have := hl k (.inr (.inr (.inl e))); have := (hD _ d).1; omega)) (fun k e => hU.block _ (by have := hl k (.inr (.inr (.inr e))); omega) (fun d => by have := hl k (.inr (.inr (.inr e))); have := (hD _ d).1; omega)), box_of (hU.block _ h.b0.lt (fun d => by have := (hD _ d).1; omega)) h.b0, box_of (hU.block _ h.b1.lt (fun d => by have := (hD _ d).1; omega)) h.b1, owns_on h.row (fun k e => hU.block k (h.row.lt k e).2 (fun d => (hD k d).2 e)), h.bel.trans (hU.below z (fun k d => by have := (hD k d).1; omega))⟩
theorem oneI (x : Int) : (Value.int .i64 x).oneCell' = true := rfl
/-- one more is put behind -/
theorem Ls.more {v : Value} {l : List Tr} (h : Ls W W' sb vr vb vf s v l) (hl : ∀ k, (k = sb ∨ vr.ownBlock = some k ∨ vb.ownBlock = some k ∨ vf.ownBlock = some k) → k < W.heap.size) (hz : W.heap.size + 6 ≤ W'.heap.size) (hn : l.length ≤ 200000000) (t : Tr) (ty : TypeId) :
    ∃ v' w', (Builtin.append_ #[61, 61] ty #[v, .slice (some ⟨W'.heap.size, 0, none⟩) 1 1]).run Try.prog (W'.alloc (.cells t.cells.toArray 64)) = .ok v' w' ∧ w'.cell? ⟨W.heap.size + 1, 0, none⟩ = some v ∧ w'.frozen? ⟨W.heap.size + 1, 0, none⟩ = false ∧ Ls W (w'.setCell ⟨W.heap.size + 1, 0, none⟩ v') sb vr vb vf s v' (l ++ [t]) ∧ (∀ k, k < W'.heap.size → k ≠ W.heap.size + 1 → ¬ v.ownBlock = some k → (w'.setCell ⟨W.heap.size + 1, 0, none⟩ v').heap[k]? = W'.heap[k]?) ∧ ∃ o n c, v' = .slice o n c := by
  obtain ⟨v', w', h1, h2, h3, h4⟩ := own_behind (W.heap.size + 6) W' 61 64 (.agg #[.int .i64 0, .int .i64 0, .int .i64 0]) 3 24 underX infoX rfl (by omega) (by omega) v l.length (flatT l) h.row hz t.cells rfl (by intro x hx; simp [Tr.cells] at hx; rcases hx with rfl | rfl | rfl <;> rfl) hn ty
  have nv : ∀ k, k < W.heap.size + 6 → ¬ v.ownBlock = some k := fun k hk e => by have := (h.row.lt k e).1; omega
  have l1 := h.upd (W2 := w') (D := fun k => v.ownBlock = some k) hl
  have z1 := h3.size
  have b1 : Boxed w' (W.heap.size + 1) 61 v := box_of (h3.block _ h.b1.lt (nv _ (by omega))) h.b1
  obtain ⟨o, c, hv⟩ := slice_of (owns_base h2 (b' := 0) (fun _ _ => Nat.zero_le _))
  refine ⟨v', w', h1, b1.cell, b1.frozen, ⟨?_, ?_, b1.set v', ?_, ?_⟩, ?_, _, _, _, hv⟩
  · have hs := fun k hk => Below.heap_setCell w' ⟨W.heap.size + 1, 0, none⟩ v' k hk
    have lt : ∀ k, (k = sb ∨ vr.ownBlock = some k ∨ vb.ownBlock = some k ∨ vf.ownBlock = some k) → (w'.setCell ⟨W.heap.size + 1, 0, none⟩ v').heap[k]? = W'.heap[k]? := fun k e => by
      have a := hl k e
      rw [hs k (by show k ≠ W.heap.size + 1; omega)]
      exact h3.block k (by have := h.bel.size; omega) (nv k (by omega))
    exact h.lay.kept (lt _ (.inl rfl)) (fun k e => lt k (.inr (.inl e))) (fun k e => lt k (.inr (.inr (.inl e)))) (fun k e => lt k (.inr (.inr (.inr e))))
  · refine box_of ?_ h.b0
    rw [Below.heap_setCell _ _ _ _ (by show W.heap.size ≠ W.heap.size + 1; omega)]
    exact h3.block _ h.b0.lt (nv _ (by omega))
  · rw [flatT_snoc, List.length_append]
    refine owns_on h2 (fun k e => Below.heap_setCell _ _ _ _ (by have := (h2.lt k e).1; show k ≠ W.heap.size + 1; omega))
  · have u1 : Upd (fun k => W.heap.size ≤ k) W' (w'.setCell ⟨W.heap.size + 1, 0, none⟩ v') := (h3.mono (fun k e => by have := (h.row.lt k e).1; omega)).setCell (.inl (by show W.heap.size ≤ W.heap.size + 1; omega)) _
    exact h.bel.trans (u1.below h.bel.size (fun k e => e))
  · intro k hk hne hno
    rw [Below.heap_setCell _ _ _ _ hne]
    exact h3.block k hk hno
set_option maxRecDepth 100000 in
set_option maxHeartbeats 2000000 in
theorem list_c (h : Lay W sb vr vb vf s) (hf : Fit s) (hg : Good s E) (hE : E.length ≤ 100000000) (hN9 : s.blks.length ≤ 100000000) : Calls Try.prog 27 #[(Value.pointer (some ⟨sb, 0, none⟩))] W fun e w' => ∃ v, e = .returned v ∧ Below W.heap.size W w' ∧ w'.ownsRow W.heap.size 64 3 v (extL s E).length (flatT (extL s E)) := by
  have hlt : ∀ k, (k = sb ∨ vr.ownBlock = some k ∨ vb.ownBlock = some k ∨ vf.ownBlock = some k) → k < W.heap.size := by
    obtain ⟨l0, l1, l2, l3⟩ := lay_lt h
    rintro k (rfl | e | e | e)
    · exact l0
    · exact l1 k e
    · exact l2 k e
    · exact l3 k e
  have ls0 : Ls W ((((W.alloc (.cells #[(Value.pointer (some ⟨sb, 0, none⟩))] 23)).alloc (.cells #[.slice none 0 0] 61)).alloc (.cells #[(Value.pointer (some ⟨sb, 0, none⟩))] 23)).alloc (.cells #[.int .i64 0] 3)) sb vr vb vf s (.slice none 0 0) [] := by
    refine ⟨(((h.alloc _).alloc _).alloc _).alloc _, (((Boxed.new W _ _).alloc _).alloc _).alloc _, ?_, World.ownsRow_nil _ _ _ _, ((((Below.refl _ W).alloc (Nat.le_refl _) _).alloc (by simp) _).alloc (by simp only [World.size_alloc]; omega) _).alloc (by simp only [World.size_alloc]; omega) _⟩
    have := ((Boxed.new (W.alloc (.cells #[(Value.pointer (some ⟨sb, 0, none⟩))] 23)) 61 (.slice none 0 0)).alloc (.cells #[(Value.pointer (some ⟨sb, 0, none⟩))] 23)).alloc (.cells #[.int .i64 0] 3)
    rwa [World.size_alloc] at this
  have bs : Boxed ((((W.alloc (.cells #[(Value.pointer (some ⟨sb, 0, none⟩))] 23)).alloc (.cells #[.slice none 0 0] 61)).alloc (.cells #[(Value.pointer (some ⟨sb, 0, none⟩))] 23)).alloc (.cells #[.int .i64 0] 3)) (W.heap.size + 1 + 1) 23 (Value.pointer (some ⟨sb, 0, none⟩)) := by
    have := (Boxed.new ((W.alloc (.cells #[(Value.pointer (some ⟨sb, 0, none⟩))] 23)).alloc (.cells #[.slice none 0 0] 61)) 23 (Value.pointer (some ⟨sb, 0, none⟩))).alloc (.cells #[.int .i64 0] 3)
    rwa [World.size_alloc, World.size_alloc] at this
  have bn : Boxed ((((W.alloc (.cells #[(Value.pointer (some ⟨sb, 0, none⟩))] 23)).alloc (.cells #[.slice none 0 0] 61)).alloc (.cells #[(Value.pointer (some ⟨sb, 0, none⟩))] 23)).alloc (.cells #[.int .i64 0] 3)) (W.heap.size + 1 + 1 + 1) 3 (.int .i64 0) := by
    have := Boxed.new (((W.alloc (.cells #[(Value.pointer (some ⟨sb, 0, none⟩))] 23)).alloc (.cells #[.slice none 0 0] 61)).alloc (.cells #[(Value.pointer (some ⟨sb, 0, none⟩))] 23)) 3 (.int .i64 0)
    rwa [World.size_alloc, World.size_alloc, World.size_alloc] at this
  have hz4 : ((((W.alloc (.cells #[(Value.pointer (some ⟨sb, 0, none⟩))] 23)).alloc (.cells #[.slice none 0 0] 61)).alloc (.cells #[(Value.pointer (some ⟨sb, 0, none⟩))] 23)).alloc (.cells #[.int .i64 0] 3)).heap.size = W.heap.size + 4 := by simp
  have cv := from_c
  refine (callsIn_wide (n := 9)).1 ?_
  refine callsIn_of_wp_marks Try.func27 rfl trivial ?_ rfl
  refine wpIn_wide.2 ?_
  simp only [Try.ntmps27, List.size_toArray, List.length_cons, List.length_nil, Nat.reduceAdd, Nat.reduceSub, Array.replicate_succ, Array.replicate_zero, List.push_toArray, List.append_toArray, List.nil_append, List.cons_append]
  have HLT := hid hlt
  have LS0 := hid ls0
  have BS := hid bs
  have BN := hid bn
  have HG := hid hg
  have HF := hid hf
  have HE := hid hE
  have HN9 := hid hN9
  clear h hlt ls0 bs bn hg hf hE hN9
  go_wp2_with (go_at_call 23; (with_reducible refine (cv _ _ _).mono ?_); rintro e w8 ⟨rfl, hw8⟩; (have hw' := hw8.symm); subst hw'; clear hw8)
  clear cv
  generalize World.alloc (World.alloc (World.alloc (World.alloc W _) _) _) _ = W4 at *
  have k0 : 0 < (numE E).length := by rw [numE_len]; omega
  have e0 : (numE E)[0] = 0 := rfl
  refine ring_lawB (Bn := W.heap.size + 1 + 1 + 1) (Bs := W.heap.size + 1 + 1) (sb := sb) rfl (numE E) k0 HG.out.nodup ?hz (by rw [e0]; exact BN.out)
    (fun i W' => ∃ v, Ls W W' sb vr vb vf s v (trE (E.take (i - 1))) ∧ Boxed W' (W.heap.size + 1 + 1) 23 (Value.pointer (some ⟨sb, 0, none⟩)))
    (fun _ _ => False)
    ?hI ?hIx ⟨_, LS0.out, BS.out⟩ ?hread 4 ?assign ?body ?done ?stop
  case hz =>
    intro i hi e
    have := List.pairwise_iff_getElem.1 HG.out.nodup 0 (i + 1) k0 hi (by omega)
    exact this (e0.trans e.symm)
  case hI =>
    rintro i Wa Wb ⟨v, g1, g2⟩ hu
    rw [hz4] at hu
    exact ⟨v, g1.upd HLT.out hu (fun k e => ⟨by omega, fun e2 => by have := (g1.row.lt k e2).1; omega⟩), box_of (hu.block _ g2.lt (by omega)) g2⟩
  case hIx => intro c Wa Wb hF; exact hF.elim
  case hread =>
    rintro i hi Wa ⟨v, g1, g2⟩
    have hil : i < (ring E).length := by have := hi; unfold numE at this; rwa [List.length_map] at this
    have hget := HG.out.get i _ (List.getElem?_eq_getElem hil)
    have hni : (numE E)[i] = (ring E)[i].n := List.getElem_map ..
    rw [hni]
    obtain ⟨B, O, pt⟩ := g1.lay.pt hget
    obtain ⟨_, _, _, _, d4⟩ := bcells g1.lay hget pt
    refine ⟨g2.cell, B, O, block_c Wa sb vr vb vf _ g1.lay _ _ hget HF.out.len B O pt, ?_⟩
    rw [d4]
    unfold blkOf numE
    rw [List.getElem?_map]
  case assign =>
    intro L x W' K hK
    gi_wp2_with (simp only [Oper.semAt]; go_simp)
    exact hK
  case body =>
    rintro L i hi W' hLe ⟨v, g1, g2⟩ hs ⟨r, hr⟩ b4
    rw [hz4] at hLe hs
    rw [hz4]
    simp only [ringAct, List.setIfInBounds_toArray, List.set_cons_succ, List.set_cons_zero]
    cases i with
    | zero =>
      rw [e0]
      have G := hid (And.intro g1 g2)
      clear g1 g2 b4 hr
      gi_wp2_with (simp only [Oper.semAt]; go_simp)
      exact ⟨⟨rfl, rfl, rfl⟩, v, G.out.1, G.out.2⟩
    | succ k =>
      have hkE : k < E.length := by rw [numE_len] at hi; omega
      have hnk : (numE E)[k + 1] = E[k].n := List.getElem_map ..
      rw [hnk]
      have hget := HG.out.get (k + 1) E[k] (List.getElem?_eq_getElem hkE)
      have hn0 : E[k].n ≠ 0 := (HG.out.lies.2.1 _ (List.getElem_mem hkE)).2.2
      obtain ⟨B, O, pt⟩ := g1.lay.pt hget
      have cb := block_c W' sb vr vb vf _ g1.lay _ _ hget HF.out.len B O pt
      obtain ⟨_, d1, d2, _, _⟩ := bcells g1.lay hget pt
      have hBl : B < W.heap.size := by
        rcases pt with ⟨_, rfl, _⟩ | ⟨_, e, _⟩
        · exact HLT.out B (.inl rfl)
        · exact HLT.out B (.inr (.inr (.inl e)))
      obtain ⟨o, cap, hv⟩ := slice_of (owns_base g1.row (b' := 0) (fun _ _ => Nat.zero_le _))
      generalize (trE (E.take (k + 1 - 1))).length = nn at hv
      subst hv
      have hlen : (trE (E.take (k + 1 - 1))).length ≤ 200000000 := by unfold trE; rw [List.length_map, List.length_take]; have := HE.out; omega
      have gd : Ls W W'.drew sb vr vb vf s (.slice o nn cap) (trE (E.take (k + 1 - 1))) := g1.upd HLT.out (D := fun _ => False) (upd_drew' W') (fun k e => e.elim)
      obtain ⟨v', w', hrun, hc', hz', ls', hk', o', n', c', hv'⟩ := gd.more HLT.out (by show _ ≤ W'.heap.size; omega) hlen ⟨E[k].n - 1, E[k].p, E[k].l⟩ 61
      have htr : trE (E.take (k + 1 - 1)) ++ [⟨E[k].n - 1, E[k].p, E[k].l⟩] = trE (E.take (k + 1 + 1 - 1)) := by
        show trE (E.take k) ++ _ = trE (E.take (k + 1))
        unfold trE
        rw [List.take_add_one, List.getElem?_eq_getElem hkE, List.map_append]
        rfl
      rw [htr] at ls'
      have hn1 : ((E[k].n - 1 : Nat) : Int) = (E[k].n : Int) - 1 := by omega
      have wn : IntKind.i64.wrap ((E[k].n : Int) - 1) = (E[k].n : Int) - 1 := by
        have := HF.out.len
        have hb := (List.getElem?_eq_some_iff.1 (show s.blks[E[k].n - 1]? = some _ from by have := hget; unfold Sto.get at this; rw [if_neg hn0] at this; exact this)).1
        rw [IntKind.wrap_i64]; omega
      have hnb : (((E[k].n : Nat) : Int) != 0) = true := by simp; omega
      have cs := g1.b0.cell
      have ca := g1.b1.cell
      have d1' : W'.cell? ⟨B, O + 1, none⟩ = some (.int .i64 ((E[k].p : Nat) : Int)) := d1
      have d2' : W'.cell? ⟨B, O + 2, none⟩ = some (.int .i64 ((E[k].l : Nat) : Int)) := d2
      have hrun' : (Builtin.append_ #[61, 61] 61 #[.slice o nn cap, .slice (some ⟨W'.heap.size, 0, none⟩) 1 1]).run Try.prog (W'.alloc (.cells #[.int .i64 ((E[k].n : Int) - 1), .int .i64 ((E[k].p : Nat) : Int), .int .i64 ((E[k].l : Nat) : Int)] 64)).drew = .ok v' w' := by
        have := hrun
        unfold Tr.cells at this
        rw [hn1] at this
        exact this
      subst hv'
      have b2' : Boxed (w'.setCell ⟨W.heap.size + 1, 0, none⟩ (.slice o' n' c')) (W.heap.size + 1 + 1) 23 (Value.pointer (some ⟨sb, 0, none⟩)) := box_of (hk' _ g2.lt (by omega) (fun e => by have := (g1.row.lt _ e).1; omega)) g2
      have nvk : ∀ x, x < W.heap.size + 6 → ¬ (Value.slice o nn cap).ownBlock = some x := fun x hx e => by have := (g1.row.lt _ e).1; omega
      have kA : (w'.setCell ⟨W.heap.size + 1, 0, none⟩ (.slice o' n' c')).heap[L]? = W'.heap[L]? := hk' _ (by show _ < W'.heap.size; omega) (by omega) (nvk _ (by omega))
      have kB : (w'.setCell ⟨W.heap.size + 1, 0, none⟩ (.slice o' n' c')).heap[W.heap.size + 4]? = W'.heap[W.heap.size + 4]? := hk' _ (by show _ < W'.heap.size; omega) (by omega) (nvk _ (by omega))
      have kC : (w'.setCell ⟨W.heap.size + 1, 0, none⟩ (.slice o' n' c')).heap[W.heap.size + 1 + 1 + 1]? = W'.heap[W.heap.size + 1 + 1 + 1]? := hk' _ (by show _ < W'.heap.size; omega) (by omega) (nvk _ (by omega))
      have FIN := hid (And.intro ls' (And.intro b2' (And.intro kA (And.intro kB kC))))
      have hBne : B ≠ W.heap.size + 1 := by omega
      have hW1 : W.heap.size + 1 < W'.heap.size := by omega
      have cellsA : ∀ (o : Obj), (W'.alloc o).drew.cell? ⟨W.heap.size + 1, 0, none⟩ = W'.cell? ⟨W.heap.size + 1, 0, none⟩ ∧ (∀ j, (W'.alloc o).drew.cell? ⟨B, j, none⟩ = W'.cell? ⟨B, j, none⟩) := fun o => ⟨((Below.refl _ W').alloc (Nat.le_refl _) o).cell hW1, fun j => ((Below.refl _ W').alloc (Nat.le_refl _) o).cell (by show B < _; omega)⟩
      have CA := hid cellsA
      have bcl : ∀ j, w'.cell? ⟨B, j, none⟩ = W'.cell? ⟨B, j, none⟩ := fun j => by
        have := hk' B (by show _ < W'.heap.size; omega) hBne (nvk B (by omega))
        rw [Below.heap_setCell _ _ _ _ hBne] at this
        exact World.cell?_of_block this
      have BC := hid bcl
      have DD := hid (And.intro ca (And.intro d1' d2'))
      clear g1 g2 gd ls' b2' kA kB kC hk' hrun cellsA bcl nvk htr hlen hr b4 hget d1 d2 pt LS0 BS BN hn1 hnk
      generalize ((E[k].n : Nat) : Int) = N at *
      generalize ((E[k].p : Nat) : Int) = P0 at *
      generalize ((E[k].l : Nat) : Int) = L0 at *
      gi_wp2_with (first | (simp only [Oper.semAt]; go_simp) | ((refine ⟨trivial, ?_⟩); gi_at_call 24; (refine (CallsIn.inRound L (callsIn_wide.2 cb)).mono ?_); rintro e w9 ⟨rfl, hw⟩; (have hw' := hw.symm); subst hw'; clear hw))
      refine round_anyL (z := 14) (S := fun w' => w'.cell? ⟨W.heap.size + 1, 0, none⟩ = some (.slice o nn cap) ∧ w'.cell? ⟨B, O + 1, none⟩ = some (.int .i64 P0) ∧ w'.cell? ⟨B, O + 2, none⟩ = some (.int .i64 L0)) (by kernel_rfl) (by kernel_rfl) ?_
      have hS : W'.drew.cell? ⟨W.heap.size + 1, 0, none⟩ = some (.slice o nn cap) ∧ W'.drew.cell? ⟨B, O + 1, none⟩ = some (.int .i64 P0) ∧ W'.drew.cell? ⟨B, O + 2, none⟩ = some (.int .i64 L0) := DD.out
      (refine anyL_take (i := 0) (v := ?_) rfl (by kernel_rfl) (by kernel_rfl) (by kernel_rfl) (by kernel_rfl) (fun _ _ _ h => h) (Or.inl ⟨by rfl, ?_⟩) hS ?_); rotate_left; (focus (intro w' hSw; obtain ⟨q1, q2, q3⟩ := hSw; go_simp; (try with_reducible rfl))); (try simp only [Act.put, List.getElem_toArray, List.getElem_cons_zero, List.getElem_cons_succ, List.setIfInBounds_toArray, List.set_cons_zero, List.set_cons_succ])
      (refine anyL_take (i := 1) (v := ?_) rfl (by kernel_rfl) (by kernel_rfl) (by kernel_rfl) (by kernel_rfl) (fun _ _ _ h => h) (Or.inl ⟨by rfl, ?_⟩) hS ?_); rotate_left; (focus (intro w' hSw; obtain ⟨q1, q2, q3⟩ := hSw; go_simp; (try with_reducible rfl))); (try simp only [Act.put, List.getElem_toArray, List.getElem_cons_zero, List.getElem_cons_succ, List.setIfInBounds_toArray, List.set_cons_zero, List.set_cons_succ])
      (refine anyL_take (i := 2) (v := ?_) rfl (by kernel_rfl) (by kernel_rfl) (by kernel_rfl) (by kernel_rfl) (fun _ _ _ h => h) (Or.inl ⟨by rfl, ?_⟩) hS ?_); rotate_left; (focus (intro w' hSw; obtain ⟨q1, q2, q3⟩ := hSw; go_simp; (try with_reducible rfl))); (try simp only [Act.put, List.getElem_toArray, List.getElem_cons_zero, List.getElem_cons_succ, List.setIfInBounds_toArray, List.set_cons_zero, List.set_cons_succ])
      (refine anyL_take (i := 3) (v := ?_) rfl (by kernel_rfl) (by kernel_rfl) (by kernel_rfl) (by kernel_rfl) (fun _ _ _ h => h) (Or.inl ⟨by rfl, ?_⟩) hS ?_); rotate_left; (focus (intro w' hSw; obtain ⟨q1, q2, q3⟩ := hSw; go_simp; (try with_reducible rfl))); (try simp only [Act.put, List.getElem_toArray, List.getElem_cons_zero, List.getElem_cons_succ, List.setIfInBounds_toArray, List.set_cons_zero, List.set_cons_succ])
      (refine anyL_take (i := 4) (v := ?_) rfl (by kernel_rfl) (by kernel_rfl) (by kernel_rfl) (by kernel_rfl) (fun _ _ _ h => h) (Or.inl ⟨by rfl, ?_⟩) hS ?_); rotate_left; (focus (intro w' hSw; obtain ⟨q1, q2, q3⟩ := hSw; go_simp; (try with_reducible rfl))); (try simp only [Act.put, List.getElem_toArray, List.getElem_cons_zero, List.getElem_cons_succ, List.setIfInBounds_toArray, List.set_cons_zero, List.set_cons_succ])
      (refine anyL_take (i := 5) (v := ?_) rfl (by kernel_rfl) (by kernel_rfl) (by kernel_rfl) (by kernel_rfl) (fun _ _ _ h => h) (Or.inl ⟨by rfl, ?_⟩) hS ?_); rotate_left; (focus (intro w' hSw; obtain ⟨q1, q2, q3⟩ := hSw; go_simp; (try with_reducible rfl))); (try simp only [Act.put, List.getElem_toArray, List.getElem_cons_zero, List.getElem_cons_succ, List.setIfInBounds_toArray, List.set_cons_zero, List.set_cons_succ])
      (refine anyL_take (i := 6) (v := ?_) rfl (by kernel_rfl) (by kernel_rfl) (by kernel_rfl) (by kernel_rfl) (fun _ _ _ h => h) (Or.inl ⟨by rfl, ?_⟩) hS ?_); rotate_left; (focus (intro w' hSw; obtain ⟨q1, q2, q3⟩ := hSw; go_simp; (try with_reducible rfl))); (try simp only [Act.put, List.getElem_toArray, List.getElem_cons_zero, List.getElem_cons_succ, List.setIfInBounds_toArray, List.set_cons_zero, List.set_cons_succ])
      (refine anyL_take (i := 7) (v := ?_) rfl (by kernel_rfl) (by kernel_rfl) (by kernel_rfl) (by kernel_rfl) (fun _ _ _ h => h) (Or.inl ⟨by rfl, ?_⟩) hS ?_); rotate_left; (focus (intro w' hSw; obtain ⟨q1, q2, q3⟩ := hSw; go_simp; (try with_reducible rfl))); (try simp only [Act.put, List.getElem_toArray, List.getElem_cons_zero, List.getElem_cons_succ, List.setIfInBounds_toArray, List.set_cons_zero, List.set_cons_succ])
      (refine anyL_take (i := 8) (v := ?_) rfl (by kernel_rfl) (by kernel_rfl) (by kernel_rfl) (by kernel_rfl) (fun _ _ _ h => h) (Or.inl ⟨by rfl, ?_⟩) hS ?_); rotate_left; (focus (intro w' hSw; obtain ⟨q1, q2, q3⟩ := hSw; go_simp; (try with_reducible rfl))); (try simp only [Act.put, List.getElem_toArray, List.getElem_cons_zero, List.getElem_cons_succ, List.setIfInBounds_toArray, List.set_cons_zero, List.set_cons_succ])
      (refine anyL_take (i := 9) (v := ?_) rfl (by kernel_rfl) (by kernel_rfl) (by kernel_rfl) (by kernel_rfl) (fun _ _ _ h => h) (Or.inl ⟨by rfl, ?_⟩) hS ?_); rotate_left; (focus (intro w' hSw; obtain ⟨q1, q2, q3⟩ := hSw; go_simp; (try with_reducible rfl))); (try simp only [Act.put, List.getElem_toArray, List.getElem_cons_zero, List.getElem_cons_succ, List.setIfInBounds_toArray, List.set_cons_zero, List.set_cons_succ])
      (refine anyL_take (i := 10) (v := ?_) rfl (by kernel_rfl) (by kernel_rfl) (by kernel_rfl) (by kernel_rfl) (fun _ _ _ h => h) (Or.inl ⟨by rfl, ?_⟩) hS ?_); rotate_left; (focus (intro w' hSw; obtain ⟨q1, q2, q3⟩ := hSw; go_simp; (try with_reducible rfl))); (try simp only [Act.put, List.getElem_toArray, List.getElem_cons_zero, List.getElem_cons_succ, List.setIfInBounds_toArray, List.set_cons_zero, List.set_cons_succ])
      (refine anyL_take (i := 11) (v := ?_) rfl (by kernel_rfl) (by kernel_rfl) (by kernel_rfl) (by kernel_rfl) (fun _ _ _ h => h) (Or.inl ⟨by rfl, ?_⟩) hS ?_); rotate_left; (focus (intro w' hSw; obtain ⟨q1, q2, q3⟩ := hSw; go_simp; (try with_reducible rfl))); (try simp only [Act.put, List.getElem_toArray, List.getElem_cons_zero, List.getElem_cons_succ, List.setIfInBounds_toArray, List.set_cons_zero, List.set_cons_succ])
      refine anyL_one (i := 12) (by kernel_rfl) rfl rfl (fun K hK => ?_)
      go_simp
      refine hK _ _ (.inr ⟨(CA.out _).1.trans DD.out.1, ((CA.out _).2 _).trans DD.out.2.1, ((CA.out _).2 _).trans DD.out.2.2⟩) ?_
      clear hK K hS
      (try simp only [Act.put, List.getElem_toArray, List.getElem_cons_zero, List.getElem_cons_succ, List.setIfInBounds_toArray, List.set_cons_zero, List.set_cons_succ])
      refine anyL_one (i := 13) (by kernel_rfl) rfl rfl (fun K hK => ?_)
      refine opIn_plain (fun c h => by cases h) ?_
      refine Lib.wp_append_run _ (.tmp 16) (.tmp 28) 61 61 rfl _ _ rfl rfl _ _ hrun' ?_
      refine hK _ _ (.inr ⟨hc', (BC.out _).trans DD.out.2.1, (BC.out _).trans DD.out.2.2⟩) ?_
      clear hK K hrun'
      (try simp only [Act.put, List.getElem_toArray, List.getElem_cons_zero, List.getElem_cons_succ, List.setIfInBounds_toArray, List.set_cons_zero, List.set_cons_succ])
      refine anyL_one (i := 14) (by kernel_rfl) rfl rfl (fun K hK => ?_)
      go_simp
      refine hK _ _ (.inl rfl) ?_
      clear hK K
      (try simp only [Act.put, List.getElem_toArray, List.getElem_cons_zero, List.getElem_cons_succ, List.setIfInBounds_toArray, List.set_cons_zero, List.set_cons_succ])
      refine anyL_done (by kernel_rfl) ?_ _
      gi_wp2
      exact ⟨⟨FIN.out.2.2.1, FIN.out.2.2.2.1, FIN.out.2.2.2.2⟩, _, FIN.out.1, FIN.out.2.1⟩
  case done =>
    rintro W5 ⟨v, g1, g2⟩ hD h56
    rw [hz4] at hD h56 ⊢
    have hnE : (numE E).length - 1 = E.length := by rw [numE_len]; rfl
    rw [hnE, List.take_length] at g1
    have hl5 := (Array.getElem?_eq_some_iff.1 hD).1
    have cs := g1.b0.cell
    have c6 := g1.lay.cell 6
    simp only [Sto.obj, List.getElem?_cons_succ, List.getElem?_cons_zero] at c6
    obtain ⟨ob, capb, hvb⟩ := slice_of g1.lay.blk
    obtain ⟨nb, hnb⟩ : ∃ nb, s.blks.length = nb := ⟨_, rfl⟩
    rw [hnb] at hvb
    subst hvb
    have hz6 : ∃ v, Ls W W5 sb vr (.slice ob nb capb) vf s v (trE E ++ zs s 0) ∧ W5.heap[W.heap.size + 4]? = some (.deferred (some [])) ∧ W.heap.size + 6 ≤ W5.heap.size := by
      refine ⟨v, ?_, hD, ?_⟩
      · rw [show zs s 0 = [] from rfl, List.append_nil]; exact g1
      · omega
    have HZ := hid hz6
    have HNB := hid hnb
    have HNB9 : Hid (nb ≤ 100000000) := by show nb ≤ 100000000; rw [← hnb]; exact HN9.out
    clear g1 g2 hD hz6 hnE LS0 BS BN hnb
    go_wp2
    go_loopw [6, 7, 35] (fun _ _ ii wr => ∃ (j : Nat) (v : Value), j ≤ nb ∧ ii = .int .i64 j ∧ Ls W wr sb vr (.slice ob nb capb) vf s v (trE E ++ zs s j) ∧ wr.heap[W.heap.size + 4]? = some (.deferred (some [])) ∧ W.heap.size + 6 ≤ wr.heap.size) (fun _ _ ii _ => nb - (intOf ii).toNat)
    case atStart =>
      obtain ⟨v, y1, y2, y3⟩ := HZ.out
      exact ⟨0, v, by omega, rfl, y1, y2, y3⟩
    case round =>
      obtain ⟨j, v, hj, rfl, ls, hD, h6⟩ := hrel
      clear HZ cs c6
      by_cases hjn : j < nb
      · obtain ⟨b, hjb⟩ : ∃ b, s.blks[j]? = some b := ⟨_, List.getElem?_eq_getElem (by rw [HNB.out]; exact hjn)⟩
        have hget : s.get (j + 1) = some b := by rw [get_blks]; exact hjb
        obtain ⟨gb, capb', hob, _⟩ := own_slice ls.lay.blk (by rw [HNB.out]; omega)
        rw [HNB.out] at hob
        injection hob with hob1 hob2 hob3
        subst hob1
        clear hob2 hob3
        obtain ⟨r0, r1, r2, r3, r4⟩ := bcells ls.lay hget (B := gb) (O := j * 5) (.inr ⟨by omega, rfl, by rw [Nat.add_sub_cancel]⟩)
        have hfb := HF.out.blk (j + 1) _ hget
        have hmeas : nb - ((j : Int) + 1).toNat < nb - ((j : Int)).toNat := by omega
        have HM := hid hmeas
        clear hmeas
        have HJ : Hid (j ≤ 100000000) := by show j ≤ 100000000; have := HNB9.out; omega
        have j0 : (0 : Int) ≤ j := Int.natCast_nonneg _
        have j1 : (j : Int) < nb := by omega
        have wj : IntKind.i64.wrap ((j : Int) + 1) = (j : Int) + 1 := by have := HF.out.len; have := HNB.out; rw [IntKind.wrap_i64]; omega
        have wj2 : wrap64 ((j : Int) + 1) = (j : Int) + 1 := by have := HF.out.len; have := HNB.out; unfold wrap64; omega
        have WJ := hid (And.intro wj wj2)
        clear wj wj2
        obtain ⟨lv, po, le, ba, ne⟩ := b
        simp only at r0 r1 r2 r3 r4
        have bA : Below wr.heap.size wr (wr.alloc (.cells #[.bool lv, .int .i64 po, .int .i64 le, .int .i64 ba, .int .i64 ne] 43)) := (Below.refl _ _).alloc (Nat.le_refl _) _
        have lsA := ls.upd HLT.out (D := fun _ => False) (Upd.of_below bA) (fun k e => e.elim)
        have hDA := (bA.block _ (Array.getElem?_eq_some_iff.1 hD).1).trans hD
        have zA : W.heap.size + 6 ≤ (wr.alloc (.cells #[.bool lv, .int .i64 po, .int .i64 le, .int .i64 ba, .int .i64 ne] 43)).heap.size := Nat.le_trans h6 bA.size
        have fA : (wr.alloc (.cells #[.bool lv, .int .i64 po, .int .i64 le, .int .i64 ba, .int .i64 ne] 43)).cell? ⟨wr.heap.size, 0, none⟩ = some (.bool lv) := cell_of_row _ _ 0 _ _ _ (World.alloc_heap_new wr (.cells #[.bool lv, .int .i64 po, .int .i64 le, .int .i64 ba, .int .i64 ne] 43))
        have fB : (wr.alloc (.cells #[.bool lv, .int .i64 po, .int .i64 le, .int .i64 ba, .int .i64 ne] 43)).cell? ⟨wr.heap.size, 2, none⟩ = some (.int .i64 le) := cell_of_row _ _ 2 _ _ _ (World.alloc_heap_new wr (.cells #[.bool lv, .int .i64 po, .int .i64 le, .int .i64 ba, .int .i64 ne] 43))
        have FA := hid (And.intro fA fB)
        clear fA fB
        have hisz : isZ s j = (lv && le == 0) := by unfold isZ; rw [hjb]
        have hzs := zs_succ s j
        rw [hisz] at hzs
        have LSA := hid lsA
        have HDA := hid hDA
        have ZA := hid zA
        have HZS := hid hzs
        clear ls lsA hD hDA zA h6 bA hzs hisz hfb hget hjb
        go_upto_region 10 with fail
        generalize wr.alloc (.cells #[.bool lv, .int .i64 po, .int .i64 le, .int .i64 ba, .int .i64 ne] 43) = Wa at *
        obtain ⟨fA, fB⟩ := FA.out
        generalize wr.heap.size = ab at *
        clear FA r0 r1 r2 r3 r4
        cases lv with
        | false =>
          have hz1 : zs s (j + 1) = zs s j := by rw [HZS.out]; exact List.append_nil _
          have LS2 : Hid (Ls W Wa sb vr (.slice (some ⟨gb, 0, none⟩) nb capb) vf s v (trE E ++ zs s (j + 1))) := by rw [hz1]; exact LSA.out
          clear hz1
          obtain ⟨wj, wj2⟩ := WJ.out
          go_wp2
          go_roundw
          case rel => exact ⟨j + 1, v, hjn, rfl, LS2.out, HDA.out, ZA.out⟩
          case measure => exact HM.out
        | true =>
          by_cases hle : le = 0
          · subst hle
            go_upto_region 11 with fail
            clear fA fB
            obtain ⟨ovr, capr, hvr⟩ := slice_of LSA.out.lay.row
            obtain ⟨nr, hnr⟩ : ∃ nr, s.row.length = nr := ⟨_, rfl⟩
            rw [hnr] at hvr
            subst hvr
            obtain ⟨o, cap, hv⟩ := slice_of (owns_base LSA.out.row (b' := 0) (fun _ _ => Nat.zero_le _))
            obtain ⟨nn, hnn⟩ : ∃ nn, (trE E ++ zs s j).length = nn := ⟨_, rfl⟩
            rw [hnn] at hv
            subst hv
            have hlen : (trE E ++ zs s j).length ≤ 200000000 := by
              have h1 := HE.out
              have h2 : (zs s j).length ≤ j := by unfold zs; rw [List.length_map]; exact Nat.le_trans (List.length_filter_le _ _) (by rw [List.length_range]; exact Nat.le_refl _)
              have h3 := HJ.out
              rw [List.length_append]
              unfold trE
              rw [List.length_map]
              omega
            have gd : Ls W Wa.drew sb (.slice ovr nr capr) (.slice (some ⟨gb, 0, none⟩) nb capb) vf s (.slice o nn cap) (trE E ++ zs s j) := LSA.out.upd HLT.out (D := fun _ => False) (upd_drew' Wa) (fun k e => e.elim)
            obtain ⟨v', w', hrun, hc', hz', ls', hk', o', n', c', hv'⟩ := gd.more HLT.out ZA.out hlen ⟨j, nr, 0⟩ 61
            subst hv'
            have hrun' : (Builtin.append_ #[61, 61] 61 #[.slice o nn cap, .slice (some ⟨Wa.heap.size, 0, none⟩) 1 1]).run Try.prog (Wa.alloc (.cells #[.int .i64 (j : Int), .int .i64 (nr : Int), .int .i64 0] 64)).drew = .ok (.slice o' n' c') w' := hrun
            have hz1 : trE E ++ zs s (j + 1) = (trE E ++ zs s j) ++ [⟨j, nr, 0⟩] := by rw [HZS.out, hnr]; simp
            rw [← hz1] at ls'
            have c0 := LSA.out.lay.cell 0
            simp only [Sto.obj, List.getElem?_cons_zero] at c0
            have cs := LSA.out.b0.cell
            have ca := LSA.out.b1.cell
            have nvk : ∀ x, x < W.heap.size + 6 → ¬ (Value.slice o nn cap).ownBlock = some x := fun x hx e => by have := (LSA.out.row.lt _ e).1; omega
            have hsb := HLT.out sb (.inl rfl)
            have h6 := ZA.out
            have kD : (w'.setCell ⟨W.heap.size + 1, 0, none⟩ (.slice o' n' c')).heap[W.heap.size + 4]? = some (.deferred (some [])) := (hk' _ (by show _ < Wa.heap.size; omega) (by omega) (nvk _ (by omega))).trans HDA.out
            have z7 : W.heap.size + 6 ≤ (w'.setCell ⟨W.heap.size + 1, 0, none⟩ (.slice o' n' c')).heap.size := by
              have hw5 : (w'.setCell ⟨W.heap.size + 1, 0, none⟩ (.slice o' n' c')).heap[W.heap.size + 5]? = Wa.heap[W.heap.size + 5]? := hk' _ (by show _ < Wa.heap.size; omega) (by omega) (nvk _ (by omega))
              have h5 : Wa.heap[W.heap.size + 5]? = some Wa.heap[W.heap.size + 5] := Array.getElem?_eq_getElem (by omega)
              rw [h5] at hw5
              have := (Array.getElem?_eq_some_iff.1 hw5).1
              omega
            have cellsA : ∀ (o : Obj) (p : Addr), p.block < Wa.heap.size → (Wa.alloc o).drew.cell? p = Wa.cell? p := fun o p hp => ((Below.refl _ Wa).alloc (Nat.le_refl _) o).cell hp
            have bcl : ∀ (p : Addr), p.block < W.heap.size + 1 → w'.cell? p = Wa.cell? p := fun p hp => by
              have := hk' p.block (by show _ < Wa.heap.size; omega) (by omega) (nvk _ (by omega))
              rw [Below.heap_setCell _ _ _ _ (by show p.block ≠ W.heap.size + 1; omega)] at this
              exact World.cell?_of_block this
            have HA1 := fun o => (cellsA o ⟨W.heap.size + 1, 0, none⟩ (by show W.heap.size + 1 < _; omega)).trans ca
            have HA2 := fun o => (cellsA o ⟨W.heap.size, 0, none⟩ (by show W.heap.size < _; omega)).trans cs
            have HA3 := fun o => (cellsA o ⟨sb, 0, none⟩ (by show sb < _; omega)).trans c0
            have HB2 := (bcl ⟨W.heap.size, 0, none⟩ (by show W.heap.size < _; omega)).trans cs
            have HB3 := (bcl ⟨sb, 0, none⟩ (by show sb < _; omega)).trans c0
            have HAll := hid (And.intro HA1 (And.intro HA2 (And.intro HA3 (And.intro HB2 HB3))))
            have HSS := hid (And.intro ca (And.intro cs c0))
            have FIN := hid (And.intro ls' (And.intro kD z7))
            clear HA1 HA2 HA3 HB2 HB3 bcl cellsA ls' kD z7 gd hrun hlen nvk hk' hz1 hnn hnr LSA HDA HZS ZA ca cs c0 hsb h6 hj
            refine wp_region_noPanic ?_
            refine plain_anyL (z := 10) (S := fun w' => w'.cell? ⟨W.heap.size + 1, 0, none⟩ = some (.slice o nn cap) ∧ w'.cell? ⟨W.heap.size, 0, none⟩ = some (Value.pointer (some ⟨sb, 0, none⟩)) ∧ w'.cell? ⟨sb, 0, none⟩ = some (.slice ovr nr capr)) (by kernel_rfl) ?_
            have hS : Wa.drew.cell? ⟨W.heap.size + 1, 0, none⟩ = some (.slice o nn cap) ∧ Wa.drew.cell? ⟨W.heap.size, 0, none⟩ = some (Value.pointer (some ⟨sb, 0, none⟩)) ∧ Wa.drew.cell? ⟨sb, 0, none⟩ = some (.slice ovr nr capr) := HSS.out
            (refine anyL_take (i := 0) (v := ?_) rfl (by kernel_rfl) (by kernel_rfl) (by kernel_rfl) (by kernel_rfl) (fun _ _ _ h => h) (Or.inl ⟨by rfl, ?_⟩) hS ?_); rotate_left; (focus (intro w' hSw; obtain ⟨q1, q2, q3⟩ := hSw; go_simp; (try with_reducible rfl))); (try simp only [Act.put, List.getElem_toArray, List.getElem_cons_zero, List.getElem_cons_succ, List.setIfInBounds_toArray, List.set_cons_zero, List.set_cons_succ])
            (refine anyL_take (i := 1) (v := ?_) rfl (by kernel_rfl) (by kernel_rfl) (by kernel_rfl) (by kernel_rfl) (fun _ _ _ h => h) (Or.inl ⟨by rfl, ?_⟩) hS ?_); rotate_left; (focus (intro w' hSw; obtain ⟨q1, q2, q3⟩ := hSw; go_simp; (try with_reducible rfl))); (try simp only [Act.put, List.getElem_toArray, List.getElem_cons_zero, List.getElem_cons_succ, List.setIfInBounds_toArray, List.set_cons_zero, List.set_cons_succ])
            (refine anyL_take (i := 2) (v := ?_) rfl (by kernel_rfl) (by kernel_rfl) (by kernel_rfl) (by kernel_rfl) (fun _ _ _ h => h) (Or.inl ⟨by rfl, ?_⟩) hS ?_); rotate_left; (focus (intro w' hSw; obtain ⟨q1, q2, q3⟩ := hSw; go_simp; (try with_reducible rfl))); (try simp only [Act.put, List.getElem_toArray, List.getElem_cons_zero, List.getElem_cons_succ, List.setIfInBounds_toArray, List.set_cons_zero, List.set_cons_succ])
            (refine anyL_take (i := 3) (v := ?_) rfl (by kernel_rfl) (by kernel_rfl) (by kernel_rfl) (by kernel_rfl) (fun _ _ _ h => h) (Or.inl ⟨by rfl, ?_⟩) hS ?_); rotate_left; (focus (intro w' hSw; obtain ⟨q1, q2, q3⟩ := hSw; go_simp; (try with_reducible rfl))); (try simp only [Act.put, List.getElem_toArray, List.getElem_cons_zero, List.getElem_cons_succ, List.setIfInBounds_toArray, List.set_cons_zero, List.set_cons_succ])
            (refine anyL_take (i := 4) (v := ?_) rfl (by kernel_rfl) (by kernel_rfl) (by kernel_rfl) (by kernel_rfl) (fun _ _ _ h => h) (Or.inl ⟨by rfl, ?_⟩) hS ?_); rotate_left; (focus (intro w' hSw; obtain ⟨q1, q2, q3⟩ := hSw; go_simp; (try with_reducible rfl))); (try simp only [Act.put, List.getElem_toArray, List.getElem_cons_zero, List.getElem_cons_succ, List.setIfInBounds_toArray, List.set_cons_zero, List.set_cons_succ])
            (refine anyL_take (i := 5) (v := ?_) rfl (by kernel_rfl) (by kernel_rfl) (by kernel_rfl) (by kernel_rfl) (fun _ _ _ h => h) (Or.inl ⟨by rfl, ?_⟩) hS ?_); rotate_left; (focus (intro w' hSw; obtain ⟨q1, q2, q3⟩ := hSw; go_simp; (try with_reducible rfl))); (try simp only [Act.put, List.getElem_toArray, List.getElem_cons_zero, List.getElem_cons_succ, List.setIfInBounds_toArray, List.set_cons_zero, List.set_cons_succ])
            (refine anyL_take (i := 6) (v := ?_) rfl (by kernel_rfl) (by kernel_rfl) (by kernel_rfl) (by kernel_rfl) (fun _ _ _ h => h) (Or.inl ⟨by rfl, ?_⟩) hS ?_); rotate_left; (focus (intro w' hSw; obtain ⟨q1, q2, q3⟩ := hSw; go_simp; (try with_reducible rfl))); (try simp only [Act.put, List.getElem_toArray, List.getElem_cons_zero, List.getElem_cons_succ, List.setIfInBounds_toArray, List.set_cons_zero, List.set_cons_succ])
            (refine anyL_take (i := 7) (v := ?_) rfl (by kernel_rfl) (by kernel_rfl) (by kernel_rfl) (by kernel_rfl) (fun _ _ _ h => h) (Or.inl ⟨by rfl, ?_⟩) hS ?_); rotate_left; (focus (intro w' hSw; obtain ⟨q1, q2, q3⟩ := hSw; go_simp; (try with_reducible rfl))); (try simp only [Act.put, List.getElem_toArray, List.getElem_cons_zero, List.getElem_cons_succ, List.setIfInBounds_toArray, List.set_cons_zero, List.set_cons_succ])
            refine anyL_one (i := 8) (by kernel_rfl) rfl rfl (fun K hK => ?_)
            go_simp
            refine hK _ _ (.inr ⟨HAll.out.1 _, HAll.out.2.1 _, HAll.out.2.2.1 _⟩) ?_
            clear hK K hS
            (try simp only [Act.put, List.getElem_toArray, List.getElem_cons_zero, List.getElem_cons_succ, List.setIfInBounds_toArray, List.set_cons_zero, List.set_cons_succ])
            refine anyL_one (i := 9) (by kernel_rfl) rfl rfl (fun K hK => ?_)
            refine opIn_plain (fun c h => by cases h) ?_
            refine Lib.wp_append_run _ (.tmp 47) (.tmp 55) 61 61 rfl _ _ rfl rfl _ _ hrun' ?_
            refine hK _ _ (.inr ⟨hc', HAll.out.2.2.2.1, HAll.out.2.2.2.2⟩) ?_
            clear hK K hrun'
            (try simp only [Act.put, List.getElem_toArray, List.getElem_cons_zero, List.getElem_cons_succ, List.setIfInBounds_toArray, List.set_cons_zero, List.set_cons_succ])
            refine anyL_one (i := 10) (by kernel_rfl) rfl rfl (fun K hK => ?_)
            go_simp
            refine hK _ _ (.inl rfl) ?_
            clear hK K
            (try simp only [Act.put, List.getElem_toArray, List.getElem_cons_zero, List.getElem_cons_succ, List.setIfInBounds_toArray, List.set_cons_zero, List.set_cons_succ])
            refine anyL_done (by kernel_rfl) ?_ _
            refine NoPanic.normal ?_
            obtain ⟨wj, wj2⟩ := WJ.out
            go_wp2
            go_roundw
            case rel => exact ⟨j + 1, _, hjn, rfl, FIN.out.1, FIN.out.2.1, FIN.out.2.2⟩
            case measure => exact HM.out
          · have hle2 : (le == 0) = false := by simpa using hle
            have hz1 : zs s (j + 1) = zs s j := by rw [HZS.out, hle2]; exact List.append_nil _
            have LS2 : Hid (Ls W Wa sb vr (.slice (some ⟨gb, 0, none⟩) nb capb) vf s v (trE E ++ zs s (j + 1))) := by rw [hz1]; exact LSA.out
            clear hz1
            obtain ⟨wj, wj2⟩ := WJ.out
            go_wp2
            go_roundw
            case rel => exact ⟨j + 1, v, hjn, rfl, LS2.out, HDA.out, ZA.out⟩
            case measure => exact HM.out
      · have e : j = nb := by omega
        subst e
        have ca := ls.b1.cell
        obtain ⟨o, cap, hv⟩ := slice_of (owns_base ls.row (b' := 0) (fun _ _ => Nat.zero_le _))
        generalize (trE E ++ zs s j).length = nn at hv
        subst hv
        have LS := hid ls
        clear ls
        go_wp2
        refine ⟨by simp, .inl ⟨_, _, rfl, run_takeDeferred hD, ?_⟩⟩
        have hu : Upd (fun k => k = W.heap.size + 4) wr (wr.putObj (W.heap.size + 4) (.deferred none)) := upd_put (S := fun k => k = W.heap.size + 4) rfl _
        refine ⟨_, results_tmp rfl _ _ _, _, rfl, LS.out.bel.trans (hu.below LS.out.bel.size (fun k e => by omega)), ?_⟩
        have hxl : extL s E = trE E ++ zs s j := by unfold extL; rw [HNB.out]
        rw [hxl]
        exact owns_base (owns_on LS.out.row (fun k e => hu.block k (LS.out.row.lt k e).2 (by have := (LS.out.row.lt k e).1; omega))) (fun k e => by have := (LS.out.row.lt k e).1; omega)
  case stop => intro c W' hF; exact hF.elim
end
end Go.Proofs.Ytdafcfmbnlgbfaa.W
