import Derived.Test.YtmeoonnofiicpaaS8bJ
import Derived.Sort.CutIn
/- lies, walked. -/
namespace Go.Proofs.Ytmeoonnofiicpaa.W.R5
open Go.ChangeShapes Go.WideShapes Go.RowKit Go.Shelf
set_option linter.unusedVariables false
set_option linter.unusedSimpArgs false
/-- an append in a round -/
theorem gi_append {P : Program} {F : Fence} {n : Nat} {L : Option Nat} (w : World) {o : Oper} {a : Act} {K : Act → World → Prop} {Q : Exit → Act → World → Prop} (s x : Operand) (t tn : TypeId)
    (ho : o.op = .call { callee := .builtin .append, args := #[s, x], argTypes := #[t, tn] }) (vs vx : Value) (hs : a.eval s = vs) (hx : a.eval x = vx)
    (v' : Value) (w' : World) (hr : (Builtin.append_ #[t, tn] o.type #[vs, vx]).run P w = .ok v' w') (h : K (a.put o.dst v') w') : o.uponIn F n P a K Q ((Oper.semAt L a.eval o).run P w) := by
  rw [Oper.semAt_eq _ _ _ (fun c e => by rw [ho] at e; cases e)]
  unfold execOp
  simp only [ho, resolve, invoke, builtin, Sem.run_bind, Sem.run_pure, Result.andThen_ok, List.map_toArray, List.map_cons, List.map_nil, hs, hx, hr]
  exact h
theorem plain_anyS {P : Program} {ops : Array Oper} {Q : Exit → Act → World → Prop} {S : World → Prop} {id : Nat} {a : Act} {w : World} (hm : P.follows .mixedOrders = true) (h : anyS 9 P .any ops (fun e a w => e = .normal ∧ Q .normal a w) S ops.size (Array.replicate ops.size false) a w.drew) : (Code.region id ops true).wp P Q a w :=
  (wpIn_wide (n := 9)).1 (wpIn_mono (wpIn_region_any hm (anyS_in _ _ _ _ h)) (fun e a w h => by obtain ⟨rfl, h⟩ := h; exact h))
theorem last_at {A : List (Option (List Nat))} {R i : Nat} {T : List Tr} {t : Tr} (hl : Lie A R T) (ht : T[i]? = some t) : ∃ li la lb : Int, lastC T i = [.int .i64 li, .int .i64 la, .int .i64 lb] ∧ ¬ (t.p : Int) < la ∧ (((t.p : Int) == la) = false ∨ (((t.p : Int) == la) = true ∧ ¬ (t.i : Int) ≤ li)) := by
  cases i with
  | zero => exact ⟨0, -1, 0, rfl, by omega, .inl (by rw [beq_eq_false_iff_ne]; omega)⟩
  | succ i =>
    obtain ⟨u, hu⟩ : ∃ u, T[i]? = some u := ⟨_, List.getElem?_eq_getElem (by have := (List.getElem?_eq_some_iff.1 ht).1; omega)⟩
    have e : T.getD i noTr = u := by rw [List.getD_eq_getElem?_getD, hu]; rfl
    have hup := hl.up_at hu ht
    refine ⟨u.i, u.p, u.l, ?_, by omega, ?_⟩
    · show (T.getD i noTr).cells = _
      rw [e]; rfl
    · by_cases c : u.p = t.p
      · right
        exact ⟨by rw [beq_iff_eq]; omega, by omega⟩
      · left
        rw [beq_eq_false_iff_ne]; omega
set_option maxRecDepth 100000 in
set_option maxHeartbeats 4000000 in
theorem lies_c {W : World} {sb rb B0 M R : Nat} {A : List (Option (List Nat))} {T : List Tr} {l : List En} {vr : Value} (hS : Sd W sb A R T) (hR : Rs B0 W rb A M l vr) (hRM : R ≤ 2 * M + 64) (hM : M ≤ 100000000000) : Calls Try.prog 8 #[(Value.pointer (some ⟨sb, 0, none⟩)), (Value.pointer (some ⟨rb, 0, none⟩))] W fun e w' => ∃ v, e = .returned (.tuple #[v, .bool true]) ∧ Below W.heap.size W w' ∧ w'.ownsRow W.heap.size 3 1 v T.length (idsT T) := by
  obtain ⟨vo, vcap, hvr⟩ := slice_of (owns_base hR.row (b' := 0) (fun _ _ => Nat.zero_le _))
  subst hvr
  have HS := hid hS
  have HR := hid hR
  have cv := extents_c
  clear hS hR
  refine (callsIn_wide (n := 9)).1 ?_
  refine callsIn_of_wp_marks Try.func8 rfl trivial ?_ rfl
  refine wpIn_wide.2 ?_
  simp only [Try.ntmps8, List.size_toArray, List.length_cons, List.length_nil, Nat.reduceAdd, Nat.reduceSub, Array.replicate_succ, Array.replicate_zero, List.push_toArray, List.append_toArray, List.nil_append, List.cons_append]
  go_upto_region 3 with fail
  simp only [Nat.add_assoc, Nat.reduceAdd]
  obtain ⟨z7, d0, d1, d2, d3, d4, d5, d6, b7⟩ := chain7 W (.cells #[(Value.pointer (some ⟨sb, 0, none⟩))] 24) (.cells #[(Value.pointer (some ⟨rb, 0, none⟩))] 26) (.cells #[.slice none 0 0] 34) (.cells #[.bool false] 4) (.cells #[.slice none 0 0] 34) (.cells #[.int .i64 0] 3) (.cells #[.int .i64 0, .int .i64 (-1), .int .i64 0] 60)
  generalize (((((((W.alloc (.cells #[(Value.pointer (some ⟨sb, 0, none⟩))] 24)).alloc (.cells #[(Value.pointer (some ⟨rb, 0, none⟩))] 26)).alloc (.cells #[.slice none 0 0] 34)).alloc (.cells #[.bool false] 4)).alloc (.cells #[.slice none 0 0] 34)).alloc (.cells #[.int .i64 0] 3)).alloc (.cells #[.int .i64 0, .int .i64 (-1), .int .i64 0] 60)) = W7 at *
  have e0 : W7.cell? ⟨W.heap.size, 0, none⟩ = some (Value.pointer (some ⟨sb, 0, none⟩)) := cell_of_row _ _ 0 _ _ _ d0
  have hfn : ∀ (x : Value) (w : World), (binOp .eql 57 (.func (.func 40) #[] #[x]) .nilFunc).run Try.prog w = .ok (.bool false) w := fun x w => by kernel_rfl
  have D := hid (And.intro d0 (And.intro d1 (And.intro d2 (And.intro d3 (And.intro d4 (And.intro d5 (And.intro d6 (And.intro b7 z7))))))))
  clear d0 d1 d2 d3 d4 d5 d6 b7 z7
  go_wp2_with (go_at_call 24; (with_reducible refine (cv _ _).mono ?_); rintro e w8 ⟨rfl, hw8⟩; (have hw' := hw8.symm); subst hw'; clear hw8)
  obtain ⟨d0, d1, d2, d3, d4, d5, d6, b7, z7⟩ := D.out
  rw [z7]
  have bC : Below W7.heap.size W7 (W7.alloc (.cells #[(Value.pointer (some ⟨sb, 0, none⟩))] 24)) := (Below.refl _ _).alloc (Nat.le_refl _) _
  have d7 := World.alloc_heap_new W7 (.cells #[(Value.pointer (some ⟨sb, 0, none⟩))] 24)
  have z8 : (W7.alloc (.cells #[(Value.pointer (some ⟨sb, 0, none⟩))] 24)).heap.size = W.heap.size + 8 := by rw [World.size_alloc, z7]
  rw [z7] at d7
  have lw : Lw W (W7.alloc (.cells #[(Value.pointer (some ⟨sb, 0, none⟩))] 24)) sb rb T 0 (.slice none 0 0) :=
    ⟨(bC.block _ (by omega)).trans d0, (bC.block _ (by omega)).trans d1, (bC.block _ (by omega)).trans d2, (bC.block _ (by omega)).trans d3, (bC.block _ (by omega)).trans d4, (bC.block _ (by omega)).trans d5, (bC.block _ (by omega)).trans d6, d7, World.ownsRow_nil _ _ _ _, b7.trans (bC.mono (by omega))⟩
  have LW := hid lw
  have Z8 := hid z8
  clear bC d0 d1 d2 d3 d4 d5 d6 d7 b7 z7 D lw z8 e0 hfn cv
  generalize W7.alloc (.cells #[(Value.pointer (some ⟨sb, 0, none⟩))] 24) = W8 at *
  have hTl : T.length ≤ 1000 := by
    have h1 := HS.out.lie.cnt
    have h2 : cntA A ≤ A.length := List.length_filter_le _ _
    have := HR.out.num
    omega
  refine ext_lawA (sb := sb) (q1 := 10) T rfl (fun i D W' => ∃ v, (∀ k, D k ↔ v.ownBlock = some k) ∧ Lw W W' sb rb T i v) (fun _ _ => False) ?hL ?hI ?hIx ?hLx (fun _ => False) ⟨.slice none 0 0, fun k => ⟨fun e => e.elim, fun e => by cases e⟩, LW.out⟩ ?asg ?body ?done ?stop
  case hL =>
    rintro i D W' ⟨v, h1, h2⟩
    refine ⟨⟨cell_of_row _ _ 0 _ _ _ h2.c7, HS.out.tell W' h2.low⟩, fun k e => ?_⟩
    have := h2.row.lt k ((h1 k).1 e)
    rw [Z8.out]
    omega
  case hI =>
    rintro i D Wa Wb ⟨v, h1, h2⟩ hu
    refine ⟨v, h1, h2.on (hu.mono (fun k e => ?_))⟩
    rw [Z8.out] at e
    exact ⟨by omega, fun c => e.2 ((h1 k).2 c)⟩
  case hIx => intro c Wa Wb hF; exact hF.elim
  case hLx => intro c Wa hF; exact hF.elim
  case asg =>
    intro L i W' K hK
    simp only [boxAct, Tr.agg, Tr.cells, List.setIfInBounds_toArray, List.set_cons_succ, List.set_cons_zero] at hK ⊢
    gi_wp2_with (simp only [Oper.semAt]; go_simp)
    exact hK
  case body =>
    rintro L i hi D W' o hLe ⟨v, h1, h2⟩ hs
    obtain ⟨t, ht⟩ : ∃ t, T[i]? = some t := ⟨_, List.getElem?_eq_getElem hi⟩
    have htd : T.getD i noTr = t := by rw [List.getD_eq_getElem?_getD, ht]; rfl
    rw [htd]
    have HI := hid hi
    have hLz := hLe.trans (by rw [Z8.out] : W8.heap.size + 1 = W.heap.size + 9)
    rw [Z8.out] at hs
    have nL : ¬ v.ownBlock = some L := fun e => by have := (h2.row.lt L e).1; omega
    have bA : Below W'.heap.size W' (W'.alloc (.cells t.cells.toArray 60)) := (Below.refl _ _).alloc (Nat.le_refl _) _
    have hzA : (W'.alloc (.cells t.cells.toArray 60)).heap.size = W'.heap.size + 1 := World.size_alloc ..
    have uP : Upd (fun k => k = L) (W'.alloc (.cells t.cells.toArray 60)) ((W'.alloc (.cells t.cells.toArray 60)).putObj L o) := upd_put (S := fun k => k = L) rfl o
    have hV : Upd (fun k => k = L) W' ((W'.alloc (.cells t.cells.toArray 60)).putObj L o) := (Upd.of_below bA).trans' uP
    have lw2 := h2.on (hV.mono (fun k e => by subst e; exact ⟨by omega, nL⟩))
    have hx : ((W'.alloc (.cells t.cells.toArray 60)).putObj L o).heap[W'.heap.size]? = some (.cells t.cells.toArray 60 (0, 0)) := (World.putObj_heap_other (by omega)).trans (World.alloc_heap_new W' _)
    have hzV : ((W'.alloc (.cells t.cells.toArray 60)).putObj L o).heap.size = W'.heap.size + 1 := by simp
    have hD0 : ∀ k, D k ↔ v.ownBlock = some k := h1
    obtain ⟨xs, hxs, hxl⟩ := HS.out.lie.has t (List.mem_of_getElem? ht)
    have cl := rlen_some (HR.out.below lw2.low) hxs
    rw [hxl] at cl
    obtain ⟨hp8, hpR⟩ := HS.out.lie.ins t (List.mem_of_getElem? ht)
    have hend : 0 < t.l → endT (T.take i) ≤ t.p := HS.out.lie.end_at ht
    have hendR := HS.out.lie.end_le i
    simp only [boxAct, Tr.agg, List.setIfInBounds_toArray, List.set_cons_succ, List.set_cons_zero]
    generalize ((W'.alloc (.cells t.cells.toArray 60)).putObj L o) = V at *
    obtain ⟨xb, hxb⟩ : ∃ xb, W'.heap.size = xb := ⟨_, rfl⟩
    rw [hxb] at hs hx hzV ⊢
    have X0 : V.cell? ⟨xb, 0, none⟩ = some (.int .i64 (t.i : Nat)) := cell_of_row _ _ 0 _ _ _ hx
    have C1 : V.cell? ⟨W.heap.size + 1, 0, none⟩ = some (Value.pointer (some ⟨rb, 0, none⟩)) := cell_of_row _ _ 0 _ _ _ lw2.c1
    have KP := hid (And.intro lw2 (And.intro hx (And.intro hzV (And.intro hs (And.intro hLz (And.intro hLe hD0))))))
    have TT := hid (And.intro ht (And.intro hp8 (And.intro hpR (And.intro hend hendR))))
    clear bA hzA uP hV lw2 hx hzV hs hLz hD0 h1 h2 nL hxs hxl xs hp8 hpR hend hendR ht htd hi hxb LW hLe
    gi_wp2_with (first | (simp only [Oper.semAt]; go_simp) | ((refine ⟨trivial, ?_⟩); gi_at_call 16; (refine (CallsIn.inRound L (callsIn_wide.2 cl)).mono ?_); rintro e V2 ⟨rfl, bV⟩; clear cl))
    obtain ⟨lw, hx, hzV, hs, hLz, hLe, hD0⟩ := KP.out
    have lw2 := lw.on (Upd.of_below bV)
    have hx2 := (bV.block xb (by omega)).trans hx
    have csp := HS.out.span V2.drew (lw2.low.trans ⟨rfl, rfl, rfl, Nat.le_refl _, fun _ _ => rfl⟩)
    have x0 : V2.cell? ⟨xb, 0, none⟩ = some (.int .i64 (t.i : Nat)) := cell_of_row _ _ 0 _ _ _ hx2
    have x1 : V2.cell? ⟨xb, 1, none⟩ = some (.int .i64 (t.p : Nat)) := cell_of_row _ _ 1 _ _ _ hx2
    have x2 : V2.cell? ⟨xb, 2, none⟩ = some (.int .i64 (t.l : Nat)) := cell_of_row _ _ 2 _ _ _ hx2
    have x5 : V2.cell? ⟨W.heap.size + 5, 0, none⟩ = some (.int .i64 (endT (T.take i) : Nat)) := cell_of_row _ _ 0 _ _ _ lw2.c5
    have xs0 : V2.cell? ⟨W.heap.size, 0, none⟩ = some (Value.pointer (some ⟨sb, 0, none⟩)) := cell_of_row _ _ 0 _ _ _ lw2.c0
    obtain ⟨ht, hp8, hpR, hend, hendR⟩ := TT.out
    have hRb : R ≤ 200000000064 := by omega
    have a1 : ¬ (t.p : Int) < 0 := by omega
    have a2 : (Int.tmod (t.p : Int) 8 != 0) = false := tmod_eq _ _ (by omega)
    have a3 : ((t.p : Int) % 8 != 0) = false := by simp; omega
    have a4 : ¬ (t.p : Int) > (R : Int) := by omega
    have a4' : ¬ R < t.p := by omega
    have a5 : IntKind.i64.wrap ((R : Int) - (t.p : Int)) = (R : Int) - (t.p : Int) := by rw [IntKind.wrap_i64]; omega
    have a6 : ¬ (t.l : Int) > (R : Int) - (t.p : Int) := by omega
    have K2 := hid (And.intro lw2 (And.intro hx2 (And.intro bV (And.intro x0 (And.intro x1 (And.intro x2 x5))))))
    have hS : V2.drew.cell? ⟨xb, 1, none⟩ = some (.int .i64 (t.p : Nat)) ∧ V2.drew.cell? ⟨xb, 2, none⟩ = some (.int .i64 (t.l : Nat)) ∧ V2.drew.cell? ⟨W.heap.size + 5, 0, none⟩ = some (.int .i64 (endT (T.take i) : Nat)) ∧ V2.drew.cell? ⟨W.heap.size, 0, none⟩ = some (Value.pointer (some ⟨sb, 0, none⟩)) := ⟨x1, x2, x5, xs0⟩
    refine round_anyS (S := fun w' => w'.cell? ⟨xb, 1, none⟩ = some (.int .i64 (t.p : Nat)) ∧ w'.cell? ⟨xb, 2, none⟩ = some (.int .i64 (t.l : Nat)) ∧ w'.cell? ⟨W.heap.size + 5, 0, none⟩ = some (.int .i64 (endT (T.take i) : Nat)) ∧ w'.cell? ⟨W.heap.size, 0, none⟩ = some (Value.pointer (some ⟨sb, 0, none⟩))) (by kernel_rfl) (by kernel_rfl) ?_
    clear lw lw2 hx hx2 hzV hs hLz hLe hD0 bV x0 x1 x2 x5 xs0 X0 C1 ht hp8 hpR hendR hRb
    by_cases hlp : 0 < t.l
    · have a7 : (t.l : Int) > 0 := by omega
      have a8 : ¬ (t.p : Int) < (endT (T.take i) : Nat) := by have := hend hlp; omega
      have a9 : ¬ t.p < endT (T.take i) := by have := hend hlp; omega
      clear hend
      (refine anyS_take (i := 0) (v := ?_) rfl (by kernel_rfl) (by kernel_rfl) (by kernel_rfl) (fun _ _ _ h => h) (Or.inl ⟨by kernel_rfl, ?_⟩) hS ?_); rotate_left; (focus (intro w' hSw; obtain ⟨q1, q2, q3, q4⟩ := hSw; go_simp; (try with_reducible rfl))); (try simp only [Act.put, List.getElem_toArray, List.getElem_cons_zero, List.getElem_cons_succ, List.setIfInBounds_toArray, List.set_cons_zero, List.set_cons_succ])
      (refine anyS_take (i := 1) (v := ?_) rfl (by kernel_rfl) (by kernel_rfl) (by kernel_rfl) (fun _ _ _ h => h) (Or.inl ⟨by kernel_rfl, ?_⟩) hS ?_); rotate_left; (focus (intro w' hSw; obtain ⟨q1, q2, q3, q4⟩ := hSw; go_simp; (try with_reducible rfl))); (try simp only [Act.put, List.getElem_toArray, List.getElem_cons_zero, List.getElem_cons_succ, List.setIfInBounds_toArray, List.set_cons_zero, List.set_cons_succ])
      (refine anyS_take (i := 2) (v := ?_) rfl (by kernel_rfl) (by kernel_rfl) (by kernel_rfl) (fun _ _ _ h => h) (Or.inl ⟨by kernel_rfl, ?_⟩) hS ?_); rotate_left; (focus (intro w' hSw; obtain ⟨q1, q2, q3, q4⟩ := hSw; go_simp; (try with_reducible rfl))); (try simp only [Act.put, List.getElem_toArray, List.getElem_cons_zero, List.getElem_cons_succ, List.setIfInBounds_toArray, List.set_cons_zero, List.set_cons_succ])
      (refine anyS_take (i := 3) (v := ?_) rfl (by kernel_rfl) (by kernel_rfl) (by kernel_rfl) (fun _ _ _ h => h) (Or.inl ⟨by kernel_rfl, ?_⟩) hS ?_); rotate_left; (focus (intro w' hSw; obtain ⟨q1, q2, q3, q4⟩ := hSw; go_simp; (try with_reducible rfl))); (try simp only [Act.put, List.getElem_toArray, List.getElem_cons_zero, List.getElem_cons_succ, List.setIfInBounds_toArray, List.set_cons_zero, List.set_cons_succ])
      (refine anyS_take (i := 4) (v := ?_) rfl (by kernel_rfl) (by kernel_rfl) (by kernel_rfl) (fun _ _ _ h => h) (Or.inl ⟨by kernel_rfl, ?_⟩) hS ?_); rotate_left; (focus (intro w' hSw; obtain ⟨q1, q2, q3, q4⟩ := hSw; go_simp; (try with_reducible rfl))); (try simp only [Act.put, List.getElem_toArray, List.getElem_cons_zero, List.getElem_cons_succ, List.setIfInBounds_toArray, List.set_cons_zero, List.set_cons_succ])
      (refine anyS_take (i := 5) (v := ?_) rfl (by kernel_rfl) (by kernel_rfl) (by kernel_rfl) (fun _ _ _ h => h) (Or.inl ⟨by kernel_rfl, ?_⟩) hS ?_); rotate_left; (focus (intro w' hSw; obtain ⟨q1, q2, q3, q4⟩ := hSw; go_simp; (try with_reducible rfl))); (try simp only [Act.put, List.getElem_toArray, List.getElem_cons_zero, List.getElem_cons_succ, List.setIfInBounds_toArray, List.set_cons_zero, List.set_cons_succ])
      (refine anyS_take (i := 6) (v := ?_) rfl (by kernel_rfl) (by kernel_rfl) (by kernel_rfl) (fun _ _ _ h => h) (Or.inl ⟨by kernel_rfl, ?_⟩) hS ?_); rotate_left; (focus (intro w' hSw; obtain ⟨q1, q2, q3, q4⟩ := hSw; go_simp; (try with_reducible rfl))); (try simp only [Act.put, List.getElem_toArray, List.getElem_cons_zero, List.getElem_cons_succ, List.setIfInBounds_toArray, List.set_cons_zero, List.set_cons_succ])
      (refine anyS_take (i := 7) (v := ?_) rfl (by kernel_rfl) (by kernel_rfl) (by kernel_rfl) (fun _ _ _ h => h) (Or.inl ⟨by kernel_rfl, ?_⟩) hS ?_); rotate_left; (focus (intro w' hSw; obtain ⟨q1, q2, q3, q4⟩ := hSw; go_simp; (try with_reducible rfl))); (try simp only [Act.put, List.getElem_toArray, List.getElem_cons_zero, List.getElem_cons_succ, List.setIfInBounds_toArray, List.set_cons_zero, List.set_cons_succ])
      (refine anyS_take (i := 8) (v := ?_) rfl (by kernel_rfl) (by kernel_rfl) (by kernel_rfl) (fun _ _ _ h => h) (Or.inl ⟨by kernel_rfl, ?_⟩) hS ?_); rotate_left; (focus (intro w' hSw; obtain ⟨q1, q2, q3, q4⟩ := hSw; go_simp; (try with_reducible rfl))); (try simp only [Act.put, List.getElem_toArray, List.getElem_cons_zero, List.getElem_cons_succ, List.setIfInBounds_toArray, List.set_cons_zero, List.set_cons_succ])
      (refine anyS_take (i := 9) (v := ?_) rfl (by kernel_rfl) (by kernel_rfl) (by kernel_rfl) (fun _ _ _ h => h) (Or.inl ⟨by kernel_rfl, ?_⟩) hS ?_); rotate_left; (focus (intro w' hSw; obtain ⟨q1, q2, q3, q4⟩ := hSw; go_simp; (try with_reducible rfl))); (try simp only [Act.put, List.getElem_toArray, List.getElem_cons_zero, List.getElem_cons_succ, List.setIfInBounds_toArray, List.set_cons_zero, List.set_cons_succ])
      (refine anyS_take (i := 10) (v := ?_) rfl (by kernel_rfl) (by kernel_rfl) (by kernel_rfl) (fun _ _ _ h => h) (Or.inl ⟨by kernel_rfl, ?_⟩) hS ?_); rotate_left; (focus (intro w' hSw; obtain ⟨q1, q2, q3, q4⟩ := hSw; go_simp; (try with_reducible rfl))); (try simp only [Act.put, List.getElem_toArray, List.getElem_cons_zero, List.getElem_cons_succ, List.setIfInBounds_toArray, List.set_cons_zero, List.set_cons_succ])
      (refine anyS_take (i := 11) (v := ?_) rfl (by kernel_rfl) (by kernel_rfl) (by kernel_rfl) (fun _ _ _ h => h) (Or.inl ⟨by kernel_rfl, ?_⟩) hS ?_); rotate_left; (focus (intro w' hSw; obtain ⟨q1, q2, q3, q4⟩ := hSw; go_simp; (try with_reducible rfl))); (try simp only [Act.put, List.getElem_toArray, List.getElem_cons_zero, List.getElem_cons_succ, List.setIfInBounds_toArray, List.set_cons_zero, List.set_cons_succ])
      (refine anyS_take (i := 12) (v := ?_) rfl (by kernel_rfl) (by kernel_rfl) (by kernel_rfl) (fun _ _ _ h => h) (Or.inl ⟨by kernel_rfl, ?_⟩) hS ?_); rotate_left; (focus (intro w' hSw; obtain ⟨q1, q2, q3, q4⟩ := hSw; go_simp; (try with_reducible rfl))); (try simp only [Act.put, List.getElem_toArray, List.getElem_cons_zero, List.getElem_cons_succ, List.setIfInBounds_toArray, List.set_cons_zero, List.set_cons_succ])
      (refine anyS_take (i := 13) (v := ?_) rfl (by kernel_rfl) (by kernel_rfl) (by kernel_rfl) (fun _ _ _ h => h) (Or.inl ⟨by kernel_rfl, ?_⟩) hS ?_); rotate_left; (focus (intro w' hSw; obtain ⟨q1, q2, q3, q4⟩ := hSw; go_simp; (try with_reducible rfl))); (try simp only [Act.put, List.getElem_toArray, List.getElem_cons_zero, List.getElem_cons_succ, List.setIfInBounds_toArray, List.set_cons_zero, List.set_cons_succ])
      (refine anyS_take (i := 14) (v := ?_) rfl (by kernel_rfl) (by kernel_rfl) (by kernel_rfl) (fun _ _ _ h => h) (Or.inl ⟨by kernel_rfl, ?_⟩) hS ?_); rotate_left; (focus (intro w' hSw; obtain ⟨q1, q2, q3, q4⟩ := hSw; go_simp; (try with_reducible rfl))); (try simp only [Act.put, List.getElem_toArray, List.getElem_cons_zero, List.getElem_cons_succ, List.setIfInBounds_toArray, List.set_cons_zero, List.set_cons_succ])
      (refine anyS_take (i := 15) (v := ?_) rfl (by kernel_rfl) (by kernel_rfl) (by kernel_rfl) (fun _ _ _ h => h) (Or.inl ⟨by kernel_rfl, ?_⟩) hS ?_); rotate_left; (focus (intro w' hSw; obtain ⟨q1, q2, q3, q4⟩ := hSw; go_simp; (try with_reducible rfl))); (try simp only [Act.put, List.getElem_toArray, List.getElem_cons_zero, List.getElem_cons_succ, List.setIfInBounds_toArray, List.set_cons_zero, List.set_cons_succ])
      (refine anyS_take (i := 16) (v := ?_) rfl (by kernel_rfl) (by kernel_rfl) (by kernel_rfl) (fun _ _ _ h => h) (Or.inl ⟨by kernel_rfl, ?_⟩) hS ?_); rotate_left; (focus (intro w' hSw; obtain ⟨q1, q2, q3, q4⟩ := hSw; go_simp; (try with_reducible rfl))); (try simp only [Act.put, List.getElem_toArray, List.getElem_cons_zero, List.getElem_cons_succ, List.setIfInBounds_toArray, List.set_cons_zero, List.set_cons_succ])
      (refine anyS_take (i := 17) (v := ?_) rfl (by kernel_rfl) (by kernel_rfl) (by kernel_rfl) (fun _ _ _ h => h) (Or.inl ⟨by kernel_rfl, ?_⟩) hS ?_); rotate_left; (focus (intro w' hSw; obtain ⟨q1, q2, q3, q4⟩ := hSw; go_simp; (try with_reducible rfl))); (try simp only [Act.put, List.getElem_toArray, List.getElem_cons_zero, List.getElem_cons_succ, List.setIfInBounds_toArray, List.set_cons_zero, List.set_cons_succ])
      (refine anyS_take (i := 18) (v := ?_) rfl (by kernel_rfl) (by kernel_rfl) (by kernel_rfl) (fun _ _ _ h => h) (Or.inl ⟨by kernel_rfl, ?_⟩) hS ?_); rotate_left; (focus (intro w' hSw; obtain ⟨q1, q2, q3, q4⟩ := hSw; go_simp; (try with_reducible rfl))); (try simp only [Act.put, List.getElem_toArray, List.getElem_cons_zero, List.getElem_cons_succ, List.setIfInBounds_toArray, List.set_cons_zero, List.set_cons_succ])
      (refine anyS_take (i := 19) (v := ?_) rfl (by kernel_rfl) (by kernel_rfl) (by kernel_rfl) (fun _ _ _ h => h) (Or.inl ⟨by kernel_rfl, ?_⟩) hS ?_); rotate_left; (focus (intro w' hSw; obtain ⟨q1, q2, q3, q4⟩ := hSw; go_simp; (try with_reducible rfl))); (try simp only [Act.put, List.getElem_toArray, List.getElem_cons_zero, List.getElem_cons_succ, List.setIfInBounds_toArray, List.set_cons_zero, List.set_cons_succ])
      (refine anyS_take (i := 20) (v := ?_) rfl (by kernel_rfl) (by kernel_rfl) (by kernel_rfl) (fun _ _ _ h => h) (Or.inl ⟨by kernel_rfl, ?_⟩) hS ?_); rotate_left; (focus (intro w' hSw; obtain ⟨q1, q2, q3, q4⟩ := hSw; go_simp; (try with_reducible rfl))); (try simp only [Act.put, List.getElem_toArray, List.getElem_cons_zero, List.getElem_cons_succ, List.setIfInBounds_toArray, List.set_cons_zero, List.set_cons_succ])
      (refine anyS_take (i := 21) (v := ?_) rfl (by kernel_rfl) (by kernel_rfl) (by kernel_rfl) (fun _ _ _ h => h) (Or.inl ⟨by kernel_rfl, ?_⟩) hS ?_); rotate_left; (focus (intro w' hSw; obtain ⟨q1, q2, q3, q4⟩ := hSw; go_simp; (try with_reducible rfl))); (try simp only [Act.put, List.getElem_toArray, List.getElem_cons_zero, List.getElem_cons_succ, List.setIfInBounds_toArray, List.set_cons_zero, List.set_cons_succ])
      (refine anyS_take (i := 22) (v := ?_) rfl (by kernel_rfl) (by kernel_rfl) (by kernel_rfl) (fun _ _ _ h => h) (Or.inl ⟨by kernel_rfl, ?_⟩) hS ?_); rotate_left; (focus (intro w' hSw; obtain ⟨q1, q2, q3, q4⟩ := hSw; go_simp; (try with_reducible rfl))); (try simp only [Act.put, List.getElem_toArray, List.getElem_cons_zero, List.getElem_cons_succ, List.setIfInBounds_toArray, List.set_cons_zero, List.set_cons_succ])
      (refine anyS_take (i := 23) (v := ?_) rfl (by kernel_rfl) (by kernel_rfl) (by kernel_rfl) (fun _ _ _ h => h) (Or.inl ⟨by kernel_rfl, ?_⟩) hS ?_); rotate_left; (focus (intro w' hSw; obtain ⟨q1, q2, q3, q4⟩ := hSw; go_simp; (try with_reducible rfl))); (try simp only [Act.put, List.getElem_toArray, List.getElem_cons_zero, List.getElem_cons_succ, List.setIfInBounds_toArray, List.set_cons_zero, List.set_cons_succ])
      (refine anyS_take (i := 24) (v := ?_) rfl (by kernel_rfl) (by kernel_rfl) (by kernel_rfl) (fun _ _ _ h => h) (Or.inl ⟨by kernel_rfl, ?_⟩) hS ?_); rotate_left; (focus (intro w' hSw; obtain ⟨q1, q2, q3, q4⟩ := hSw; go_simp; (try with_reducible rfl))); (try simp only [Act.put, List.getElem_toArray, List.getElem_cons_zero, List.getElem_cons_succ, List.setIfInBounds_toArray, List.set_cons_zero, List.set_cons_succ])
      (refine anyS_take (i := 25) (v := ?_) rfl (by kernel_rfl) (by kernel_rfl) (by kernel_rfl) (fun _ _ _ h => h) (Or.inl ⟨by kernel_rfl, ?_⟩) hS ?_); rotate_left; (focus (intro w' hSw; obtain ⟨q1, q2, q3, q4⟩ := hSw; go_simp; (try with_reducible rfl))); (try simp only [Act.put, List.getElem_toArray, List.getElem_cons_zero, List.getElem_cons_succ, List.setIfInBounds_toArray, List.set_cons_zero, List.set_cons_succ])
      (refine anyS_take (i := 26) (v := ?_) rfl (by kernel_rfl) (by kernel_rfl) (by kernel_rfl) (fun _ _ _ h => h) (Or.inl ⟨by kernel_rfl, ?_⟩) hS ?_); rotate_left; (focus (intro w' hSw; obtain ⟨q1, q2, q3, q4⟩ := hSw; go_simp; (try with_reducible rfl))); (try simp only [Act.put, List.getElem_toArray, List.getElem_cons_zero, List.getElem_cons_succ, List.setIfInBounds_toArray, List.set_cons_zero, List.set_cons_succ])
      (refine anyS_take (i := 27) (v := ?_) rfl (by kernel_rfl) (by kernel_rfl) (by kernel_rfl) (fun _ _ _ h => h) (Or.inl ⟨by kernel_rfl, ?_⟩) hS ?_); rotate_left; (focus (intro w' hSw; obtain ⟨q1, q2, q3, q4⟩ := hSw; go_simp; (try with_reducible rfl))); (try simp only [Act.put, List.getElem_toArray, List.getElem_cons_zero, List.getElem_cons_succ, List.setIfInBounds_toArray, List.set_cons_zero, List.set_cons_succ])
      (refine anyS_take (i := 28) (v := ?_) rfl (by kernel_rfl) (by kernel_rfl) (by kernel_rfl) (fun _ _ _ h => h) (Or.inl ⟨by kernel_rfl, ?_⟩) hS ?_); rotate_left; (focus (intro w' hSw; obtain ⟨q1, q2, q3, q4⟩ := hSw; go_simp; (try with_reducible rfl))); (try simp only [Act.put, List.getElem_toArray, List.getElem_cons_zero, List.getElem_cons_succ, List.setIfInBounds_toArray, List.set_cons_zero, List.set_cons_succ])
      (refine anyS_take (i := 29) (v := ?_) rfl (by kernel_rfl) (by kernel_rfl) (by kernel_rfl) (fun _ _ _ h => h) (Or.inl ⟨by kernel_rfl, ?_⟩) hS ?_); rotate_left; (focus (intro w' hSw; obtain ⟨q1, q2, q3, q4⟩ := hSw; go_simp; (try with_reducible rfl))); (try simp only [Act.put, List.getElem_toArray, List.getElem_cons_zero, List.getElem_cons_succ, List.setIfInBounds_toArray, List.set_cons_zero, List.set_cons_succ])
      (refine anyS_take (i := 30) (v := ?_) rfl (by kernel_rfl) (by kernel_rfl) (by kernel_rfl) (fun _ _ _ h => h) (Or.inl ⟨by kernel_rfl, ?_⟩) hS ?_); rotate_left; (focus (intro w' hSw; obtain ⟨q1, q2, q3, q4⟩ := hSw; go_simp; (try with_reducible rfl))); (try simp only [Act.put, List.getElem_toArray, List.getElem_cons_zero, List.getElem_cons_succ, List.setIfInBounds_toArray, List.set_cons_zero, List.set_cons_succ])
      (refine anyS_take (i := 31) (v := ?_) rfl (by kernel_rfl) (by kernel_rfl) (by kernel_rfl) (fun _ _ _ h => h) (Or.inl ⟨by kernel_rfl, ?_⟩) hS ?_); rotate_left; (focus (intro w' hSw; obtain ⟨q1, q2, q3, q4⟩ := hSw; go_simp; (try with_reducible rfl))); (try simp only [Act.put, List.getElem_toArray, List.getElem_cons_zero, List.getElem_cons_succ, List.setIfInBounds_toArray, List.set_cons_zero, List.set_cons_succ])
      (refine anyS_take (i := 32) (v := ?_) rfl (by kernel_rfl) (by kernel_rfl) (by kernel_rfl) (fun _ _ _ h => h) (Or.inl ⟨by kernel_rfl, ?_⟩) hS ?_); rotate_left; (focus (intro w' hSw; obtain ⟨q1, q2, q3, q4⟩ := hSw; go_simp; (try with_reducible rfl))); (try simp only [Act.put, List.getElem_toArray, List.getElem_cons_zero, List.getElem_cons_succ, List.setIfInBounds_toArray, List.set_cons_zero, List.set_cons_succ])
      (refine anyS_take (i := 33) (v := ?_) rfl (by kernel_rfl) (by kernel_rfl) (by kernel_rfl) (fun _ _ _ h => h) (Or.inl ⟨by kernel_rfl, ?_⟩) hS ?_); rotate_left; (focus (intro w' hSw; obtain ⟨q1, q2, q3, q4⟩ := hSw; go_simp; (try with_reducible rfl))); (try simp only [Act.put, List.getElem_toArray, List.getElem_cons_zero, List.getElem_cons_succ, List.setIfInBounds_toArray, List.set_cons_zero, List.set_cons_succ])
      refine anyS_one (i := 34) (by kernel_rfl) rfl (by kernel_rfl) (fun K hK => ?_)
      go_simp
      refine ⟨trivial, (callsIn_wide.2 csp).mono ?_⟩
      rintro e w' ⟨rfl, hw'⟩
      subst hw'
      refine hK _ _ ⟨hS, ?_⟩
      clear hK K
      (try simp only [Act.put, List.getElem_toArray, List.getElem_cons_zero, List.getElem_cons_succ, List.setIfInBounds_toArray, List.set_cons_zero, List.set_cons_succ])
      (refine anyS_take (i := 35) (v := ?_) rfl (by kernel_rfl) (by kernel_rfl) (by kernel_rfl) (fun _ _ _ h => h) (Or.inl ⟨by kernel_rfl, ?_⟩) hS ?_); rotate_left; (focus (intro w' hSw; obtain ⟨q1, q2, q3, q4⟩ := hSw; go_simp; (try with_reducible rfl))); (try simp only [Act.put, List.getElem_toArray, List.getElem_cons_zero, List.getElem_cons_succ, List.setIfInBounds_toArray, List.set_cons_zero, List.set_cons_succ])
      (refine anyS_take (i := 36) (v := ?_) rfl (by kernel_rfl) (by kernel_rfl) (by kernel_rfl) (fun _ _ _ h => h) (Or.inl ⟨by kernel_rfl, ?_⟩) hS ?_); rotate_left; (focus (intro w' hSw; obtain ⟨q1, q2, q3, q4⟩ := hSw; go_simp; (try with_reducible rfl))); (try simp only [Act.put, List.getElem_toArray, List.getElem_cons_zero, List.getElem_cons_succ, List.setIfInBounds_toArray, List.set_cons_zero, List.set_cons_succ])
      (refine anyS_take (i := 37) (v := ?_) rfl (by kernel_rfl) (by kernel_rfl) (by kernel_rfl) (fun _ _ _ h => h) (Or.inl ⟨by kernel_rfl, ?_⟩) hS ?_); rotate_left; (focus (intro w' hSw; obtain ⟨q1, q2, q3, q4⟩ := hSw; go_simp; (try with_reducible rfl))); (try simp only [Act.put, List.getElem_toArray, List.getElem_cons_zero, List.getElem_cons_succ, List.setIfInBounds_toArray, List.set_cons_zero, List.set_cons_succ])
      (refine anyS_take (i := 38) (v := ?_) rfl (by kernel_rfl) (by kernel_rfl) (by kernel_rfl) (fun _ _ _ h => h) (Or.inl ⟨by kernel_rfl, ?_⟩) hS ?_); rotate_left; (focus (intro w' hSw; obtain ⟨q1, q2, q3, q4⟩ := hSw; go_simp; (try with_reducible rfl))); (try simp only [Act.put, List.getElem_toArray, List.getElem_cons_zero, List.getElem_cons_succ, List.setIfInBounds_toArray, List.set_cons_zero, List.set_cons_succ])
      (refine anyS_take (i := 39) (v := ?_) rfl (by kernel_rfl) (by kernel_rfl) (by kernel_rfl) (fun _ _ _ h => h) (Or.inl ⟨by kernel_rfl, ?_⟩) hS ?_); rotate_left; (focus (intro w' hSw; obtain ⟨q1, q2, q3, q4⟩ := hSw; go_simp; (try with_reducible rfl))); (try simp only [Act.put, List.getElem_toArray, List.getElem_cons_zero, List.getElem_cons_succ, List.setIfInBounds_toArray, List.set_cons_zero, List.set_cons_succ])
      (refine anyS_take (i := 40) (v := ?_) rfl (by kernel_rfl) (by kernel_rfl) (by kernel_rfl) (fun _ _ _ h => h) (Or.inl ⟨by kernel_rfl, ?_⟩) hS ?_); rotate_left; (focus (intro w' hSw; obtain ⟨q1, q2, q3, q4⟩ := hSw; go_simp; (try with_reducible rfl))); (try simp only [Act.put, List.getElem_toArray, List.getElem_cons_zero, List.getElem_cons_succ, List.setIfInBounds_toArray, List.set_cons_zero, List.set_cons_succ])
      (refine anyS_take (i := 42) (v := ?_) rfl (by kernel_rfl) (by kernel_rfl) (by kernel_rfl) (fun _ _ _ h => h) (Or.inl ⟨by kernel_rfl, ?_⟩) hS ?_); rotate_left; (focus (intro w' hSw; obtain ⟨q1, q2, q3, q4⟩ := hSw; go_simp; (try with_reducible rfl))); (try simp only [Act.put, List.getElem_toArray, List.getElem_cons_zero, List.getElem_cons_succ, List.setIfInBounds_toArray, List.set_cons_zero, List.set_cons_succ])
      (refine anyS_take (i := 43) (v := ?_) rfl (by kernel_rfl) (by kernel_rfl) (by kernel_rfl) (fun _ _ _ h => h) (Or.inl ⟨by kernel_rfl, ?_⟩) hS ?_); rotate_left; (focus (intro w' hSw; obtain ⟨q1, q2, q3, q4⟩ := hSw; go_simp; (try with_reducible rfl))); (try simp only [Act.put, List.getElem_toArray, List.getElem_cons_zero, List.getElem_cons_succ, List.setIfInBounds_toArray, List.set_cons_zero, List.set_cons_succ])
      refine anyS_one (i := 41) (by kernel_rfl) rfl (by kernel_rfl) (fun K hK => ?_)
      go_simp
      refine ⟨trivial, (callsIn_wide.2 csp).mono ?_⟩
      rintro e w' ⟨rfl, hw'⟩
      subst hw'
      refine hK _ _ ⟨hS, ?_⟩
      clear hK K
      (try simp only [Act.put, List.getElem_toArray, List.getElem_cons_zero, List.getElem_cons_succ, List.setIfInBounds_toArray, List.set_cons_zero, List.set_cons_succ])
      (refine anyS_take (i := 44) (v := ?_) rfl (by kernel_rfl) (by kernel_rfl) (by kernel_rfl) (fun _ _ _ h => h) (Or.inl ⟨by kernel_rfl, ?_⟩) hS ?_); rotate_left; (focus (intro w' hSw; obtain ⟨q1, q2, q3, q4⟩ := hSw; go_simp; (try with_reducible rfl))); (try simp only [Act.put, List.getElem_toArray, List.getElem_cons_zero, List.getElem_cons_succ, List.setIfInBounds_toArray, List.set_cons_zero, List.set_cons_succ])
      (refine anyS_take (i := 45) (v := ?_) rfl (by kernel_rfl) (by kernel_rfl) (by kernel_rfl) (fun _ _ _ h => h) (Or.inl ⟨by kernel_rfl, ?_⟩) hS ?_); rotate_left; (focus (intro w' hSw; obtain ⟨q1, q2, q3, q4⟩ := hSw; go_simp; (try with_reducible rfl))); (try simp only [Act.put, List.getElem_toArray, List.getElem_cons_zero, List.getElem_cons_succ, List.setIfInBounds_toArray, List.set_cons_zero, List.set_cons_succ])
      (refine anyS_take (i := 46) (v := ?_) rfl (by kernel_rfl) (by kernel_rfl) (by kernel_rfl) (fun _ _ _ h => h) (Or.inl ⟨by kernel_rfl, ?_⟩) hS ?_); rotate_left; (focus (intro w' hSw; obtain ⟨q1, q2, q3, q4⟩ := hSw; go_simp; (try with_reducible rfl))); (try simp only [Act.put, List.getElem_toArray, List.getElem_cons_zero, List.getElem_cons_succ, List.setIfInBounds_toArray, List.set_cons_zero, List.set_cons_succ])
      refine anyS_done (by kernel_rfl) ?_ _
      obtain ⟨lw2, hx2, bV, x0, x1, x2, x5⟩ := K2.out
      obtain ⟨lw, hx, hzV, hs, hLz, hLe, hD0⟩ := KP.out
      have lw3 := lw2.on (W'' := V2.drew) (Upd.of_below ⟨rfl, rfl, rfl, Nat.le_refl _, fun _ _ => rfl⟩)
      have NX := fun V' h => lw3.next (V' := V') (TT.out.1) (by have := HI.out; omega) (by show _ ≤ V2.heap.size; have := bV.size; omega) h
      have hbV := bV.size
      have hz3 : V2.drew.heap.size = V2.heap.size := rfl
      have hx3 : V2.drew.heap[xb]? = some (.cells t.cells.toArray 60 (0, 0)) := hx2
      have RSV := hid (fun w' (hB : Below W.heap.size W w') => HR.out.below hB)
      have LLT : Hid (i + 1 ≤ l.length) := by
        show i + 1 ≤ l.length
        have e1 := HS.out.lie.cnt
        have e2 := congrArg List.length HR.out.is
        rw [List.length_map, refL_len] at e2
        have := HI.out
        omega
      obtain ⟨li, la, lb, hlc, hla, hcmp⟩ := last_at HS.out.lie TT.out.1
      have hc6 := lw3.c6
      rw [hlc] at hc6
      have q60 : V2.drew.cell? ⟨W.heap.size + 6, 0, none⟩ = some (.int .i64 li) := cell_of_row _ _ 0 _ _ _ hc6
      have q61 : V2.drew.cell? ⟨W.heap.size + 6, 1, none⟩ = some (.int .i64 la) := cell_of_row _ _ 1 _ _ _ hc6
      have q5 : V2.drew.cell? ⟨W.heap.size + 5, 0, none⟩ = some (.int .i64 (endT (T.take i) : Nat)) := cell_of_row _ _ 0 _ _ _ lw3.c5
      have y0 : V2.drew.cell? ⟨xb, 0, none⟩ = some (.int .i64 (t.i : Nat)) := cell_of_row _ _ 0 _ _ _ hx3
      have y1 : V2.drew.cell? ⟨xb, 1, none⟩ = some (.int .i64 (t.p : Nat)) := cell_of_row _ _ 1 _ _ _ hx3
      have y2 : V2.drew.cell? ⟨xb, 2, none⟩ = some (.int .i64 (t.l : Nat)) := cell_of_row _ _ 2 _ _ _ hx3
      have q62 : V2.drew.cell? ⟨W.heap.size + 6, 2, none⟩ = some (.int .i64 lb) := cell_of_row _ _ 2 _ _ _ hc6
      have z5 : V2.drew.frozen? ⟨W.heap.size + 5, 0, none⟩ = false := by simp [World.frozen?, lw3.c5]
      have ws : IntKind.i64.wrap ((t.p : Int) + (t.l : Int)) = ((t.p + t.l : Nat) : Int) := by have := TT.out.2.2.1; rw [IntKind.wrap_i64]; omega
      have FX := hid (And.intro hbV (And.intro hs (And.intro hLz (And.intro hLe (And.intro hD0 (And.intro hzV hx))))))
      have NXH := hid NX
      have CR : Hid (∀ w', Below W.heap.size W w' → World.cell? w' ⟨rb, 0, none⟩ = some (.slice vo l.length vcap)) := by
        show ∀ w', _
        exact fun w' hB => cell_of_row _ _ 0 _ _ _ (HR.out.below hB).top
      have KPL := KP
      have BVV := hid bV
      clear lw lw2 lw3 hx2 hx3 bV x0 x1 x2 x5 hbV hs hLz hLe hD0 hzV hx NX hc6 hlc csp hS a1 a2 a3 a4 a4' a5 a6 K2 KP RSV hz3
      by_cases hgt : ((t.p + t.l : Nat) : Int) > (endT (T.take i) : Nat)
      · have nx := NXH.out (V2.drew.setCell ⟨W.heap.size + 5, 0, none⟩ (.int .i64 ((t.p + t.l : Nat) : Int))) (.inr ⟨rfl, by omega⟩)
        obtain ⟨oo, nn, cc, V6, run, c4', c4L, zL, c46, z46, ⟨f0, f1, f2⟩, lwN, uAll, kk, hnn⟩ := nx
        have uX : Upd (fun k => k = W.heap.size + 5 ∨ k = W.heap.size + 6) V2.drew (setLast (V2.drew.setCell ⟨W.heap.size + 5, 0, none⟩ (.int .i64 ((t.p + t.l : Nat) : Int))) (W.heap.size + 6) t) := by
          unfold setLast
          exact ((((Upd.refl (fun k => k = W.heap.size + 5 ∨ k = W.heap.size + 6) V2.drew).setCell (p := ⟨W.heap.size + 5, 0, none⟩) (.inl (.inl rfl)) _).setCell (p := ⟨W.heap.size + 6, 0, none⟩) (.inl (.inr rfl)) _).setCell (p := ⟨W.heap.size + 6, 1, none⟩) (.inl (.inr rfl)) _).setCell (p := ⟨W.heap.size + 6, 2, none⟩) (.inl (.inr rfl)) _
        have xL : (setLast (V2.drew.setCell ⟨W.heap.size + 5, 0, none⟩ (.int .i64 ((t.p + t.l : Nat) : Int))) (W.heap.size + 6) t).cell? ⟨xb, 0, none⟩ = some (.int .i64 (t.i : Nat)) := (World.cell?_of_block (uX.block xb (by show xb < V2.heap.size; have := FX.out; omega) (by have := FX.out.2.1; omega))).trans y0
        have uE : Upd (fun k => k = W.heap.size + 5) V2.drew (V2.drew.setCell ⟨W.heap.size + 5, 0, none⟩ (.int .i64 ((t.p + t.l : Nat) : Int))) := (Upd.refl (fun k => k = W.heap.size + 5) V2.drew).setCell (p := ⟨W.heap.size + 5, 0, none⟩) (.inl rfl) _
        have yy : ∀ j, (V2.drew.setCell ⟨W.heap.size + 5, 0, none⟩ (.int .i64 ((t.p + t.l : Nat) : Int))).cell? ⟨xb, j, none⟩ = V2.drew.cell? ⟨xb, j, none⟩ := fun j => World.cell?_of_block (uE.block xb (by show xb < V2.heap.size; have := FX.out; omega) (by have := FX.out.2.1; omega))
        have yl : ∀ j, (V2.drew.setCell ⟨W.heap.size + 5, 0, none⟩ (.int .i64 ((t.p + t.l : Nat) : Int))).cell? ⟨W.heap.size + 6, j, none⟩ = V2.drew.cell? ⟨W.heap.size + 6, j, none⟩ := fun j => World.cell?_of_block (uE.block (W.heap.size + 6) (by show W.heap.size + 6 < V2.heap.size; have := FX.out; omega) (by omega))
        have w0 := (yy 0).trans y0
        have w1 := (yy 1).trans y1
        have w2 := (yy 2).trans y2
        have w60 := (yl 0).trans q60
        have w61 := (yl 1).trans q61
        have w62 := (yl 2).trans q62
        clear yy yl uE
        have NN := hid (And.intro lwN (And.intro uAll (And.intro kk hnn)))
        have H3Z : Hid (V2.drew.heap.size = V2.heap.size) := by show _ = _; rfl
        have H3B : Hid (∀ k : Nat, V2.drew.heap[k]? = V2.heap[k]?) := by show ∀ k : Nat, _; exact fun k => rfl
        clear lwN uAll kk hnn NXH uX
        unfold setLast at run c4L zL xL
        generalize ((t.p + t.l : Nat) : Int) = S0 at *
        generalize ((endT (T.take i) : Nat) : Int) = E0 at *
        generalize ((t.p : Nat) : Int) = P0 at *
        generalize ((t.l : Nat) : Int) = L0 at *
        generalize ((t.i : Nat) : Int) = I0 at *
        generalize V2.drew = V3 at *
        rcases hcmp with hc | ⟨hc, hc2⟩
        · gi_upto_region 16 with (simp only [Oper.semAt]; go_simp)
          clear y0 y1 y2 q60 q61 q62 q5 z5 f0 f1 f2 hla ws c4'
          generalize hV5 : World.setCell (World.setCell (World.setCell _ ⟨W.heap.size + 6, 0, none⟩ _) ⟨W.heap.size + 6, 1, none⟩ _) ⟨W.heap.size + 6, 2, none⟩ _ = V5 at *
          rw [← zL] at run
          gi_wp2_with (first | (with_reducible refine gi_append _ (.tmp 106) (.tmp 109) 34 34 rfl _ _ (by simp [Act.eval]) (by simp [Act.eval]) _ _ run ?_) | (simp only [Oper.semAt]; go_simp))
          obtain ⟨lwN, uAll, kk, hnn⟩ := NN.out
          have r4 : (V6.setCell ⟨W.heap.size + 4, 0, none⟩ (.slice oo nn cc)).cell? ⟨W.heap.size + 4, 0, none⟩ = some (.slice oo nn cc) := cell_of_row _ _ 0 _ _ _ lwN.c4
          have r1 : (V6.setCell ⟨W.heap.size + 4, 0, none⟩ (.slice oo nn cc)).cell? ⟨W.heap.size + 1, 0, none⟩ = some (Value.pointer (some ⟨rb, 0, none⟩)) := cell_of_row _ _ 0 _ _ _ lwN.c1
          have rr := CR.out _ lwN.low
          generalize (V6.setCell ⟨W.heap.size + 4, 0, none⟩ (.slice oo nn cc)) = V7 at *
          have hS : V7.drew.cell? ⟨W.heap.size + 4, 0, none⟩ = some (.slice oo nn cc) ∧ V7.drew.cell? ⟨W.heap.size + 1, 0, none⟩ = some (Value.pointer (some ⟨rb, 0, none⟩)) ∧ V7.drew.cell? ⟨rb, 0, none⟩ = some (.slice vo l.length vcap) := ⟨r4, r1, rr⟩
          have n1 : ¬ l.length < nn := by have := LLT.out; omega
          have n2 : ¬ (nn : Int) > (l.length : Nat) := by omega
          refine round_anyS (S := fun w' => w'.cell? ⟨W.heap.size + 4, 0, none⟩ = some (.slice oo nn cc) ∧ w'.cell? ⟨W.heap.size + 1, 0, none⟩ = some (Value.pointer (some ⟨rb, 0, none⟩)) ∧ w'.cell? ⟨rb, 0, none⟩ = some (.slice vo l.length vcap)) (by kernel_rfl) (by kernel_rfl) ?_
          have FN := hid (And.intro lwN (And.intro uAll (And.intro kk hnn)))
          clear lwN uAll kk hnn r4 r1 rr run c4L zL c46 z46 xL hV5 NN CR
          (refine anyS_take (i := 0) (v := ?_) rfl (by kernel_rfl) (by kernel_rfl) (by kernel_rfl) (fun _ _ _ h => h) (Or.inl ⟨by kernel_rfl, ?_⟩) hS ?_); rotate_left; (focus (intro w' hSw; obtain ⟨q1, q2, q3⟩ := hSw; go_simp; (try with_reducible rfl))); (try simp only [Act.put, List.getElem_toArray, List.getElem_cons_zero, List.getElem_cons_succ, List.setIfInBounds_toArray, List.set_cons_zero, List.set_cons_succ])
          (refine anyS_take (i := 1) (v := ?_) rfl (by kernel_rfl) (by kernel_rfl) (by kernel_rfl) (fun _ _ _ h => h) (Or.inl ⟨by kernel_rfl, ?_⟩) hS ?_); rotate_left; (focus (intro w' hSw; obtain ⟨q1, q2, q3⟩ := hSw; go_simp; (try with_reducible rfl))); (try simp only [Act.put, List.getElem_toArray, List.getElem_cons_zero, List.getElem_cons_succ, List.setIfInBounds_toArray, List.set_cons_zero, List.set_cons_succ])
          (refine anyS_take (i := 2) (v := ?_) rfl (by kernel_rfl) (by kernel_rfl) (by kernel_rfl) (fun _ _ _ h => h) (Or.inl ⟨by kernel_rfl, ?_⟩) hS ?_); rotate_left; (focus (intro w' hSw; obtain ⟨q1, q2, q3⟩ := hSw; go_simp; (try with_reducible rfl))); (try simp only [Act.put, List.getElem_toArray, List.getElem_cons_zero, List.getElem_cons_succ, List.setIfInBounds_toArray, List.set_cons_zero, List.set_cons_succ])
          (refine anyS_take (i := 3) (v := ?_) rfl (by kernel_rfl) (by kernel_rfl) (by kernel_rfl) (fun _ _ _ h => h) (Or.inl ⟨by kernel_rfl, ?_⟩) hS ?_); rotate_left; (focus (intro w' hSw; obtain ⟨q1, q2, q3⟩ := hSw; go_simp; (try with_reducible rfl))); (try simp only [Act.put, List.getElem_toArray, List.getElem_cons_zero, List.getElem_cons_succ, List.setIfInBounds_toArray, List.set_cons_zero, List.set_cons_succ])
          (refine anyS_take (i := 4) (v := ?_) rfl (by kernel_rfl) (by kernel_rfl) (by kernel_rfl) (fun _ _ _ h => h) (Or.inl ⟨by kernel_rfl, ?_⟩) hS ?_); rotate_left; (focus (intro w' hSw; obtain ⟨q1, q2, q3⟩ := hSw; go_simp; (try with_reducible rfl))); (try simp only [Act.put, List.getElem_toArray, List.getElem_cons_zero, List.getElem_cons_succ, List.setIfInBounds_toArray, List.set_cons_zero, List.set_cons_succ])
          (refine anyS_take (i := 5) (v := ?_) rfl (by kernel_rfl) (by kernel_rfl) (by kernel_rfl) (fun _ _ _ h => h) (Or.inl ⟨by kernel_rfl, ?_⟩) hS ?_); rotate_left; (focus (intro w' hSw; obtain ⟨q1, q2, q3⟩ := hSw; go_simp; (try with_reducible rfl))); (try simp only [Act.put, List.getElem_toArray, List.getElem_cons_zero, List.getElem_cons_succ, List.setIfInBounds_toArray, List.set_cons_zero, List.set_cons_succ])
          (refine anyS_take (i := 6) (v := ?_) rfl (by kernel_rfl) (by kernel_rfl) (by kernel_rfl) (fun _ _ _ h => h) (Or.inl ⟨by kernel_rfl, ?_⟩) hS ?_); rotate_left; (focus (intro w' hSw; obtain ⟨q1, q2, q3⟩ := hSw; go_simp; (try with_reducible rfl))); (try simp only [Act.put, List.getElem_toArray, List.getElem_cons_zero, List.getElem_cons_succ, List.setIfInBounds_toArray, List.set_cons_zero, List.set_cons_succ])
          (refine anyS_take (i := 7) (v := ?_) rfl (by kernel_rfl) (by kernel_rfl) (by kernel_rfl) (fun _ _ _ h => h) (Or.inl ⟨by kernel_rfl, ?_⟩) hS ?_); rotate_left; (focus (intro w' hSw; obtain ⟨q1, q2, q3⟩ := hSw; go_simp; (try with_reducible rfl))); (try simp only [Act.put, List.getElem_toArray, List.getElem_cons_zero, List.getElem_cons_succ, List.setIfInBounds_toArray, List.set_cons_zero, List.set_cons_succ])
          refine anyS_done (by kernel_rfl) ?_ _
          gi_wp2
          obtain ⟨lwN, uAll, kk, hnn⟩ := FN.out
          obtain ⟨hbV, hs, hLz, hLe, hD0, hzV, hx⟩ := FX.out
          obtain ⟨lw, _⟩ := KPL.out
          have nv : ∀ k, v.ownBlock = some k → W.heap.size + 10 ≤ k := fun k e => (lw.row.lt k e).1
          have l7 : W.heap.size + 7 < V.heap.size := (Array.getElem?_eq_some_iff.1 lw.c7).1
          have g : ∀ k, W.heap.size + 8 ≤ k → k < V.heap.size → ¬ v.ownBlock = some k → V7.drew.heap[k]? = V.heap[k]? := by
            intro k h1 h2 h3
            have e1 := BVV.out.block k h2
            have e2 := uAll.block k (by rw [H3Z.out]; omega) (by rintro (h | h | h | h) <;> first | omega | exact h3 h)
            exact e2.trans ((H3B.out k).trans e1)
          subst hnn
          refine ⟨⟨g L (by omega) (by omega) (fun e => by have := nv _ e; omega), g _ (by rw [Z8.out]; omega) (by rw [Z8.out]; omega) (fun e => by have := nv _ e; rw [Z8.out] at this; omega)⟩, fun k h1 h2 h3 => g k (by rw [Z8.out] at h1; omega) h2 (fun e => h3 ((hD0 k).2 e)), fun k => (Value.slice oo (i + 1) cc).ownBlock = some k, ⟨_, fun k => Iff.rfl, lwN.on (Upd.of_below ⟨rfl, rfl, rfl, Nat.le_refl _, fun _ _ => rfl⟩)⟩, fun k e => ?_⟩
          rcases kk k e with h | h
          · exact .inl ((hD0 k).2 h)
          · right
            rw [H3Z.out] at h
            omega
        · gi_upto_region 16 with (simp only [Oper.semAt]; go_simp)
          clear y0 y1 y2 q60 q61 q62 q5 z5 f0 f1 f2 hla ws c4'
          generalize hV5 : World.setCell (World.setCell (World.setCell _ ⟨W.heap.size + 6, 0, none⟩ _) ⟨W.heap.size + 6, 1, none⟩ _) ⟨W.heap.size + 6, 2, none⟩ _ = V5 at *
          rw [← zL] at run
          gi_wp2_with (first | (with_reducible refine gi_append _ (.tmp 106) (.tmp 109) 34 34 rfl _ _ (by simp [Act.eval]) (by simp [Act.eval]) _ _ run ?_) | (simp only [Oper.semAt]; go_simp))
          obtain ⟨lwN, uAll, kk, hnn⟩ := NN.out
          have r4 : (V6.setCell ⟨W.heap.size + 4, 0, none⟩ (.slice oo nn cc)).cell? ⟨W.heap.size + 4, 0, none⟩ = some (.slice oo nn cc) := cell_of_row _ _ 0 _ _ _ lwN.c4
          have r1 : (V6.setCell ⟨W.heap.size + 4, 0, none⟩ (.slice oo nn cc)).cell? ⟨W.heap.size + 1, 0, none⟩ = some (Value.pointer (some ⟨rb, 0, none⟩)) := cell_of_row _ _ 0 _ _ _ lwN.c1
          have rr := CR.out _ lwN.low
          generalize (V6.setCell ⟨W.heap.size + 4, 0, none⟩ (.slice oo nn cc)) = V7 at *
          have hS : V7.drew.cell? ⟨W.heap.size + 4, 0, none⟩ = some (.slice oo nn cc) ∧ V7.drew.cell? ⟨W.heap.size + 1, 0, none⟩ = some (Value.pointer (some ⟨rb, 0, none⟩)) ∧ V7.drew.cell? ⟨rb, 0, none⟩ = some (.slice vo l.length vcap) := ⟨r4, r1, rr⟩
          have n1 : ¬ l.length < nn := by have := LLT.out; omega
          have n2 : ¬ (nn : Int) > (l.length : Nat) := by omega
          refine round_anyS (S := fun w' => w'.cell? ⟨W.heap.size + 4, 0, none⟩ = some (.slice oo nn cc) ∧ w'.cell? ⟨W.heap.size + 1, 0, none⟩ = some (Value.pointer (some ⟨rb, 0, none⟩)) ∧ w'.cell? ⟨rb, 0, none⟩ = some (.slice vo l.length vcap)) (by kernel_rfl) (by kernel_rfl) ?_
          have FN := hid (And.intro lwN (And.intro uAll (And.intro kk hnn)))
          clear lwN uAll kk hnn r4 r1 rr run c4L zL c46 z46 xL hV5 NN CR
          (refine anyS_take (i := 0) (v := ?_) rfl (by kernel_rfl) (by kernel_rfl) (by kernel_rfl) (fun _ _ _ h => h) (Or.inl ⟨by kernel_rfl, ?_⟩) hS ?_); rotate_left; (focus (intro w' hSw; obtain ⟨q1, q2, q3⟩ := hSw; go_simp; (try with_reducible rfl))); (try simp only [Act.put, List.getElem_toArray, List.getElem_cons_zero, List.getElem_cons_succ, List.setIfInBounds_toArray, List.set_cons_zero, List.set_cons_succ])
          (refine anyS_take (i := 1) (v := ?_) rfl (by kernel_rfl) (by kernel_rfl) (by kernel_rfl) (fun _ _ _ h => h) (Or.inl ⟨by kernel_rfl, ?_⟩) hS ?_); rotate_left; (focus (intro w' hSw; obtain ⟨q1, q2, q3⟩ := hSw; go_simp; (try with_reducible rfl))); (try simp only [Act.put, List.getElem_toArray, List.getElem_cons_zero, List.getElem_cons_succ, List.setIfInBounds_toArray, List.set_cons_zero, List.set_cons_succ])
          (refine anyS_take (i := 2) (v := ?_) rfl (by kernel_rfl) (by kernel_rfl) (by kernel_rfl) (fun _ _ _ h => h) (Or.inl ⟨by kernel_rfl, ?_⟩) hS ?_); rotate_left; (focus (intro w' hSw; obtain ⟨q1, q2, q3⟩ := hSw; go_simp; (try with_reducible rfl))); (try simp only [Act.put, List.getElem_toArray, List.getElem_cons_zero, List.getElem_cons_succ, List.setIfInBounds_toArray, List.set_cons_zero, List.set_cons_succ])
          (refine anyS_take (i := 3) (v := ?_) rfl (by kernel_rfl) (by kernel_rfl) (by kernel_rfl) (fun _ _ _ h => h) (Or.inl ⟨by kernel_rfl, ?_⟩) hS ?_); rotate_left; (focus (intro w' hSw; obtain ⟨q1, q2, q3⟩ := hSw; go_simp; (try with_reducible rfl))); (try simp only [Act.put, List.getElem_toArray, List.getElem_cons_zero, List.getElem_cons_succ, List.setIfInBounds_toArray, List.set_cons_zero, List.set_cons_succ])
          (refine anyS_take (i := 4) (v := ?_) rfl (by kernel_rfl) (by kernel_rfl) (by kernel_rfl) (fun _ _ _ h => h) (Or.inl ⟨by kernel_rfl, ?_⟩) hS ?_); rotate_left; (focus (intro w' hSw; obtain ⟨q1, q2, q3⟩ := hSw; go_simp; (try with_reducible rfl))); (try simp only [Act.put, List.getElem_toArray, List.getElem_cons_zero, List.getElem_cons_succ, List.setIfInBounds_toArray, List.set_cons_zero, List.set_cons_succ])
          (refine anyS_take (i := 5) (v := ?_) rfl (by kernel_rfl) (by kernel_rfl) (by kernel_rfl) (fun _ _ _ h => h) (Or.inl ⟨by kernel_rfl, ?_⟩) hS ?_); rotate_left; (focus (intro w' hSw; obtain ⟨q1, q2, q3⟩ := hSw; go_simp; (try with_reducible rfl))); (try simp only [Act.put, List.getElem_toArray, List.getElem_cons_zero, List.getElem_cons_succ, List.setIfInBounds_toArray, List.set_cons_zero, List.set_cons_succ])
          (refine anyS_take (i := 6) (v := ?_) rfl (by kernel_rfl) (by kernel_rfl) (by kernel_rfl) (fun _ _ _ h => h) (Or.inl ⟨by kernel_rfl, ?_⟩) hS ?_); rotate_left; (focus (intro w' hSw; obtain ⟨q1, q2, q3⟩ := hSw; go_simp; (try with_reducible rfl))); (try simp only [Act.put, List.getElem_toArray, List.getElem_cons_zero, List.getElem_cons_succ, List.setIfInBounds_toArray, List.set_cons_zero, List.set_cons_succ])
          (refine anyS_take (i := 7) (v := ?_) rfl (by kernel_rfl) (by kernel_rfl) (by kernel_rfl) (fun _ _ _ h => h) (Or.inl ⟨by kernel_rfl, ?_⟩) hS ?_); rotate_left; (focus (intro w' hSw; obtain ⟨q1, q2, q3⟩ := hSw; go_simp; (try with_reducible rfl))); (try simp only [Act.put, List.getElem_toArray, List.getElem_cons_zero, List.getElem_cons_succ, List.setIfInBounds_toArray, List.set_cons_zero, List.set_cons_succ])
          refine anyS_done (by kernel_rfl) ?_ _
          gi_wp2
          obtain ⟨lwN, uAll, kk, hnn⟩ := FN.out
          obtain ⟨hbV, hs, hLz, hLe, hD0, hzV, hx⟩ := FX.out
          obtain ⟨lw, _⟩ := KPL.out
          have nv : ∀ k, v.ownBlock = some k → W.heap.size + 10 ≤ k := fun k e => (lw.row.lt k e).1
          have l7 : W.heap.size + 7 < V.heap.size := (Array.getElem?_eq_some_iff.1 lw.c7).1
          have g : ∀ k, W.heap.size + 8 ≤ k → k < V.heap.size → ¬ v.ownBlock = some k → V7.drew.heap[k]? = V.heap[k]? := by
            intro k h1 h2 h3
            have e1 := BVV.out.block k h2
            have e2 := uAll.block k (by rw [H3Z.out]; omega) (by rintro (h | h | h | h) <;> first | omega | exact h3 h)
            exact e2.trans ((H3B.out k).trans e1)
          subst hnn
          refine ⟨⟨g L (by omega) (by omega) (fun e => by have := nv _ e; omega), g _ (by rw [Z8.out]; omega) (by rw [Z8.out]; omega) (fun e => by have := nv _ e; rw [Z8.out] at this; omega)⟩, fun k h1 h2 h3 => g k (by rw [Z8.out] at h1; omega) h2 (fun e => h3 ((hD0 k).2 e)), fun k => (Value.slice oo (i + 1) cc).ownBlock = some k, ⟨_, fun k => Iff.rfl, lwN.on (Upd.of_below ⟨rfl, rfl, rfl, Nat.le_refl _, fun _ _ => rfl⟩)⟩, fun k e => ?_⟩
          rcases kk k e with h | h
          · exact .inl ((hD0 k).2 h)
          · right
            rw [H3Z.out] at h
            omega
      · have nx := NXH.out V2.drew (.inl ⟨rfl, by omega⟩)
        obtain ⟨oo, nn, cc, V6, run, c4', c4L, zL, c46, z46, ⟨f0, f1, f2⟩, lwN, uAll, kk, hnn⟩ := nx
        have uX : Upd (fun k => k = W.heap.size + 5 ∨ k = W.heap.size + 6) V2.drew (setLast V2.drew (W.heap.size + 6) t) := by
          unfold setLast
          exact (((Upd.refl (fun k => k = W.heap.size + 5 ∨ k = W.heap.size + 6) V2.drew).setCell (p := ⟨W.heap.size + 6, 0, none⟩) (.inl (.inr rfl)) _).setCell (p := ⟨W.heap.size + 6, 1, none⟩) (.inl (.inr rfl)) _).setCell (p := ⟨W.heap.size + 6, 2, none⟩) (.inl (.inr rfl)) _
        have xL : (setLast V2.drew (W.heap.size + 6) t).cell? ⟨xb, 0, none⟩ = some (.int .i64 (t.i : Nat)) := (World.cell?_of_block (uX.block xb (by show xb < V2.heap.size; have := FX.out; omega) (by have := FX.out.2.1; omega))).trans y0
        have NN := hid (And.intro lwN (And.intro uAll (And.intro kk hnn)))
        have H3Z : Hid (V2.drew.heap.size = V2.heap.size) := by show _ = _; rfl
        have H3B : Hid (∀ k : Nat, V2.drew.heap[k]? = V2.heap[k]?) := by show ∀ k : Nat, _; exact fun k => rfl
        clear lwN uAll kk hnn NXH uX
        unfold setLast at run c4L zL xL
        generalize ((t.p + t.l : Nat) : Int) = S0 at *
        generalize ((endT (T.take i) : Nat) : Int) = E0 at *
        generalize ((t.p : Nat) : Int) = P0 at *
        generalize ((t.l : Nat) : Int) = L0 at *
        generalize ((t.i : Nat) : Int) = I0 at *
        generalize V2.drew = V3 at *
        rcases hcmp with hc | ⟨hc, hc2⟩
        · gi_upto_region 16 with (simp only [Oper.semAt]; go_simp)
          clear y0 y1 y2 q60 q61 q62 q5 z5 f0 f1 f2 hla ws c4'
          generalize hV5 : World.setCell (World.setCell (World.setCell _ ⟨W.heap.size + 6, 0, none⟩ _) ⟨W.heap.size + 6, 1, none⟩ _) ⟨W.heap.size + 6, 2, none⟩ _ = V5 at *
          rw [← zL] at run
          gi_wp2_with (first | (with_reducible refine gi_append _ (.tmp 106) (.tmp 109) 34 34 rfl _ _ (by simp [Act.eval]) (by simp [Act.eval]) _ _ run ?_) | (simp only [Oper.semAt]; go_simp))
          obtain ⟨lwN, uAll, kk, hnn⟩ := NN.out
          have r4 : (V6.setCell ⟨W.heap.size + 4, 0, none⟩ (.slice oo nn cc)).cell? ⟨W.heap.size + 4, 0, none⟩ = some (.slice oo nn cc) := cell_of_row _ _ 0 _ _ _ lwN.c4
          have r1 : (V6.setCell ⟨W.heap.size + 4, 0, none⟩ (.slice oo nn cc)).cell? ⟨W.heap.size + 1, 0, none⟩ = some (Value.pointer (some ⟨rb, 0, none⟩)) := cell_of_row _ _ 0 _ _ _ lwN.c1
          have rr := CR.out _ lwN.low
          generalize (V6.setCell ⟨W.heap.size + 4, 0, none⟩ (.slice oo nn cc)) = V7 at *
          have hS : V7.drew.cell? ⟨W.heap.size + 4, 0, none⟩ = some (.slice oo nn cc) ∧ V7.drew.cell? ⟨W.heap.size + 1, 0, none⟩ = some (Value.pointer (some ⟨rb, 0, none⟩)) ∧ V7.drew.cell? ⟨rb, 0, none⟩ = some (.slice vo l.length vcap) := ⟨r4, r1, rr⟩
          have n1 : ¬ l.length < nn := by have := LLT.out; omega
          have n2 : ¬ (nn : Int) > (l.length : Nat) := by omega
          refine round_anyS (S := fun w' => w'.cell? ⟨W.heap.size + 4, 0, none⟩ = some (.slice oo nn cc) ∧ w'.cell? ⟨W.heap.size + 1, 0, none⟩ = some (Value.pointer (some ⟨rb, 0, none⟩)) ∧ w'.cell? ⟨rb, 0, none⟩ = some (.slice vo l.length vcap)) (by kernel_rfl) (by kernel_rfl) ?_
          have FN := hid (And.intro lwN (And.intro uAll (And.intro kk hnn)))
          clear lwN uAll kk hnn r4 r1 rr run c4L zL c46 z46 xL hV5 NN CR
          (refine anyS_take (i := 0) (v := ?_) rfl (by kernel_rfl) (by kernel_rfl) (by kernel_rfl) (fun _ _ _ h => h) (Or.inl ⟨by kernel_rfl, ?_⟩) hS ?_); rotate_left; (focus (intro w' hSw; obtain ⟨q1, q2, q3⟩ := hSw; go_simp; (try with_reducible rfl))); (try simp only [Act.put, List.getElem_toArray, List.getElem_cons_zero, List.getElem_cons_succ, List.setIfInBounds_toArray, List.set_cons_zero, List.set_cons_succ])
          (refine anyS_take (i := 1) (v := ?_) rfl (by kernel_rfl) (by kernel_rfl) (by kernel_rfl) (fun _ _ _ h => h) (Or.inl ⟨by kernel_rfl, ?_⟩) hS ?_); rotate_left; (focus (intro w' hSw; obtain ⟨q1, q2, q3⟩ := hSw; go_simp; (try with_reducible rfl))); (try simp only [Act.put, List.getElem_toArray, List.getElem_cons_zero, List.getElem_cons_succ, List.setIfInBounds_toArray, List.set_cons_zero, List.set_cons_succ])
          (refine anyS_take (i := 2) (v := ?_) rfl (by kernel_rfl) (by kernel_rfl) (by kernel_rfl) (fun _ _ _ h => h) (Or.inl ⟨by kernel_rfl, ?_⟩) hS ?_); rotate_left; (focus (intro w' hSw; obtain ⟨q1, q2, q3⟩ := hSw; go_simp; (try with_reducible rfl))); (try simp only [Act.put, List.getElem_toArray, List.getElem_cons_zero, List.getElem_cons_succ, List.setIfInBounds_toArray, List.set_cons_zero, List.set_cons_succ])
          (refine anyS_take (i := 3) (v := ?_) rfl (by kernel_rfl) (by kernel_rfl) (by kernel_rfl) (fun _ _ _ h => h) (Or.inl ⟨by kernel_rfl, ?_⟩) hS ?_); rotate_left; (focus (intro w' hSw; obtain ⟨q1, q2, q3⟩ := hSw; go_simp; (try with_reducible rfl))); (try simp only [Act.put, List.getElem_toArray, List.getElem_cons_zero, List.getElem_cons_succ, List.setIfInBounds_toArray, List.set_cons_zero, List.set_cons_succ])
          (refine anyS_take (i := 4) (v := ?_) rfl (by kernel_rfl) (by kernel_rfl) (by kernel_rfl) (fun _ _ _ h => h) (Or.inl ⟨by kernel_rfl, ?_⟩) hS ?_); rotate_left; (focus (intro w' hSw; obtain ⟨q1, q2, q3⟩ := hSw; go_simp; (try with_reducible rfl))); (try simp only [Act.put, List.getElem_toArray, List.getElem_cons_zero, List.getElem_cons_succ, List.setIfInBounds_toArray, List.set_cons_zero, List.set_cons_succ])
          (refine anyS_take (i := 5) (v := ?_) rfl (by kernel_rfl) (by kernel_rfl) (by kernel_rfl) (fun _ _ _ h => h) (Or.inl ⟨by kernel_rfl, ?_⟩) hS ?_); rotate_left; (focus (intro w' hSw; obtain ⟨q1, q2, q3⟩ := hSw; go_simp; (try with_reducible rfl))); (try simp only [Act.put, List.getElem_toArray, List.getElem_cons_zero, List.getElem_cons_succ, List.setIfInBounds_toArray, List.set_cons_zero, List.set_cons_succ])
          (refine anyS_take (i := 6) (v := ?_) rfl (by kernel_rfl) (by kernel_rfl) (by kernel_rfl) (fun _ _ _ h => h) (Or.inl ⟨by kernel_rfl, ?_⟩) hS ?_); rotate_left; (focus (intro w' hSw; obtain ⟨q1, q2, q3⟩ := hSw; go_simp; (try with_reducible rfl))); (try simp only [Act.put, List.getElem_toArray, List.getElem_cons_zero, List.getElem_cons_succ, List.setIfInBounds_toArray, List.set_cons_zero, List.set_cons_succ])
          (refine anyS_take (i := 7) (v := ?_) rfl (by kernel_rfl) (by kernel_rfl) (by kernel_rfl) (fun _ _ _ h => h) (Or.inl ⟨by kernel_rfl, ?_⟩) hS ?_); rotate_left; (focus (intro w' hSw; obtain ⟨q1, q2, q3⟩ := hSw; go_simp; (try with_reducible rfl))); (try simp only [Act.put, List.getElem_toArray, List.getElem_cons_zero, List.getElem_cons_succ, List.setIfInBounds_toArray, List.set_cons_zero, List.set_cons_succ])
          refine anyS_done (by kernel_rfl) ?_ _
          gi_wp2
          obtain ⟨lwN, uAll, kk, hnn⟩ := FN.out
          obtain ⟨hbV, hs, hLz, hLe, hD0, hzV, hx⟩ := FX.out
          obtain ⟨lw, _⟩ := KPL.out
          have nv : ∀ k, v.ownBlock = some k → W.heap.size + 10 ≤ k := fun k e => (lw.row.lt k e).1
          have l7 : W.heap.size + 7 < V.heap.size := (Array.getElem?_eq_some_iff.1 lw.c7).1
          have g : ∀ k, W.heap.size + 8 ≤ k → k < V.heap.size → ¬ v.ownBlock = some k → V7.drew.heap[k]? = V.heap[k]? := by
            intro k h1 h2 h3
            have e1 := BVV.out.block k h2
            have e2 := uAll.block k (by rw [H3Z.out]; omega) (by rintro (h | h | h | h) <;> first | omega | exact h3 h)
            exact e2.trans ((H3B.out k).trans e1)
          subst hnn
          refine ⟨⟨g L (by omega) (by omega) (fun e => by have := nv _ e; omega), g _ (by rw [Z8.out]; omega) (by rw [Z8.out]; omega) (fun e => by have := nv _ e; rw [Z8.out] at this; omega)⟩, fun k h1 h2 h3 => g k (by rw [Z8.out] at h1; omega) h2 (fun e => h3 ((hD0 k).2 e)), fun k => (Value.slice oo (i + 1) cc).ownBlock = some k, ⟨_, fun k => Iff.rfl, lwN.on (Upd.of_below ⟨rfl, rfl, rfl, Nat.le_refl _, fun _ _ => rfl⟩)⟩, fun k e => ?_⟩
          rcases kk k e with h | h
          · exact .inl ((hD0 k).2 h)
          · right
            rw [H3Z.out] at h
            omega
        · gi_upto_region 16 with (simp only [Oper.semAt]; go_simp)
          clear y0 y1 y2 q60 q61 q62 q5 z5 f0 f1 f2 hla ws c4'
          generalize hV5 : World.setCell (World.setCell (World.setCell _ ⟨W.heap.size + 6, 0, none⟩ _) ⟨W.heap.size + 6, 1, none⟩ _) ⟨W.heap.size + 6, 2, none⟩ _ = V5 at *
          rw [← zL] at run
          gi_wp2_with (first | (with_reducible refine gi_append _ (.tmp 106) (.tmp 109) 34 34 rfl _ _ (by simp [Act.eval]) (by simp [Act.eval]) _ _ run ?_) | (simp only [Oper.semAt]; go_simp))
          obtain ⟨lwN, uAll, kk, hnn⟩ := NN.out
          have r4 : (V6.setCell ⟨W.heap.size + 4, 0, none⟩ (.slice oo nn cc)).cell? ⟨W.heap.size + 4, 0, none⟩ = some (.slice oo nn cc) := cell_of_row _ _ 0 _ _ _ lwN.c4
          have r1 : (V6.setCell ⟨W.heap.size + 4, 0, none⟩ (.slice oo nn cc)).cell? ⟨W.heap.size + 1, 0, none⟩ = some (Value.pointer (some ⟨rb, 0, none⟩)) := cell_of_row _ _ 0 _ _ _ lwN.c1
          have rr := CR.out _ lwN.low
          generalize (V6.setCell ⟨W.heap.size + 4, 0, none⟩ (.slice oo nn cc)) = V7 at *
          have hS : V7.drew.cell? ⟨W.heap.size + 4, 0, none⟩ = some (.slice oo nn cc) ∧ V7.drew.cell? ⟨W.heap.size + 1, 0, none⟩ = some (Value.pointer (some ⟨rb, 0, none⟩)) ∧ V7.drew.cell? ⟨rb, 0, none⟩ = some (.slice vo l.length vcap) := ⟨r4, r1, rr⟩
          have n1 : ¬ l.length < nn := by have := LLT.out; omega
          have n2 : ¬ (nn : Int) > (l.length : Nat) := by omega
          refine round_anyS (S := fun w' => w'.cell? ⟨W.heap.size + 4, 0, none⟩ = some (.slice oo nn cc) ∧ w'.cell? ⟨W.heap.size + 1, 0, none⟩ = some (Value.pointer (some ⟨rb, 0, none⟩)) ∧ w'.cell? ⟨rb, 0, none⟩ = some (.slice vo l.length vcap)) (by kernel_rfl) (by kernel_rfl) ?_
          have FN := hid (And.intro lwN (And.intro uAll (And.intro kk hnn)))
          clear lwN uAll kk hnn r4 r1 rr run c4L zL c46 z46 xL hV5 NN CR
          (refine anyS_take (i := 0) (v := ?_) rfl (by kernel_rfl) (by kernel_rfl) (by kernel_rfl) (fun _ _ _ h => h) (Or.inl ⟨by kernel_rfl, ?_⟩) hS ?_); rotate_left; (focus (intro w' hSw; obtain ⟨q1, q2, q3⟩ := hSw; go_simp; (try with_reducible rfl))); (try simp only [Act.put, List.getElem_toArray, List.getElem_cons_zero, List.getElem_cons_succ, List.setIfInBounds_toArray, List.set_cons_zero, List.set_cons_succ])
          (refine anyS_take (i := 1) (v := ?_) rfl (by kernel_rfl) (by kernel_rfl) (by kernel_rfl) (fun _ _ _ h => h) (Or.inl ⟨by kernel_rfl, ?_⟩) hS ?_); rotate_left; (focus (intro w' hSw; obtain ⟨q1, q2, q3⟩ := hSw; go_simp; (try with_reducible rfl))); (try simp only [Act.put, List.getElem_toArray, List.getElem_cons_zero, List.getElem_cons_succ, List.setIfInBounds_toArray, List.set_cons_zero, List.set_cons_succ])
          (refine anyS_take (i := 2) (v := ?_) rfl (by kernel_rfl) (by kernel_rfl) (by kernel_rfl) (fun _ _ _ h => h) (Or.inl ⟨by kernel_rfl, ?_⟩) hS ?_); rotate_left; (focus (intro w' hSw; obtain ⟨q1, q2, q3⟩ := hSw; go_simp; (try with_reducible rfl))); (try simp only [Act.put, List.getElem_toArray, List.getElem_cons_zero, List.getElem_cons_succ, List.setIfInBounds_toArray, List.set_cons_zero, List.set_cons_succ])
          (refine anyS_take (i := 3) (v := ?_) rfl (by kernel_rfl) (by kernel_rfl) (by kernel_rfl) (fun _ _ _ h => h) (Or.inl ⟨by kernel_rfl, ?_⟩) hS ?_); rotate_left; (focus (intro w' hSw; obtain ⟨q1, q2, q3⟩ := hSw; go_simp; (try with_reducible rfl))); (try simp only [Act.put, List.getElem_toArray, List.getElem_cons_zero, List.getElem_cons_succ, List.setIfInBounds_toArray, List.set_cons_zero, List.set_cons_succ])
          (refine anyS_take (i := 4) (v := ?_) rfl (by kernel_rfl) (by kernel_rfl) (by kernel_rfl) (fun _ _ _ h => h) (Or.inl ⟨by kernel_rfl, ?_⟩) hS ?_); rotate_left; (focus (intro w' hSw; obtain ⟨q1, q2, q3⟩ := hSw; go_simp; (try with_reducible rfl))); (try simp only [Act.put, List.getElem_toArray, List.getElem_cons_zero, List.getElem_cons_succ, List.setIfInBounds_toArray, List.set_cons_zero, List.set_cons_succ])
          (refine anyS_take (i := 5) (v := ?_) rfl (by kernel_rfl) (by kernel_rfl) (by kernel_rfl) (fun _ _ _ h => h) (Or.inl ⟨by kernel_rfl, ?_⟩) hS ?_); rotate_left; (focus (intro w' hSw; obtain ⟨q1, q2, q3⟩ := hSw; go_simp; (try with_reducible rfl))); (try simp only [Act.put, List.getElem_toArray, List.getElem_cons_zero, List.getElem_cons_succ, List.setIfInBounds_toArray, List.set_cons_zero, List.set_cons_succ])
          (refine anyS_take (i := 6) (v := ?_) rfl (by kernel_rfl) (by kernel_rfl) (by kernel_rfl) (fun _ _ _ h => h) (Or.inl ⟨by kernel_rfl, ?_⟩) hS ?_); rotate_left; (focus (intro w' hSw; obtain ⟨q1, q2, q3⟩ := hSw; go_simp; (try with_reducible rfl))); (try simp only [Act.put, List.getElem_toArray, List.getElem_cons_zero, List.getElem_cons_succ, List.setIfInBounds_toArray, List.set_cons_zero, List.set_cons_succ])
          (refine anyS_take (i := 7) (v := ?_) rfl (by kernel_rfl) (by kernel_rfl) (by kernel_rfl) (fun _ _ _ h => h) (Or.inl ⟨by kernel_rfl, ?_⟩) hS ?_); rotate_left; (focus (intro w' hSw; obtain ⟨q1, q2, q3⟩ := hSw; go_simp; (try with_reducible rfl))); (try simp only [Act.put, List.getElem_toArray, List.getElem_cons_zero, List.getElem_cons_succ, List.setIfInBounds_toArray, List.set_cons_zero, List.set_cons_succ])
          refine anyS_done (by kernel_rfl) ?_ _
          gi_wp2
          obtain ⟨lwN, uAll, kk, hnn⟩ := FN.out
          obtain ⟨hbV, hs, hLz, hLe, hD0, hzV, hx⟩ := FX.out
          obtain ⟨lw, _⟩ := KPL.out
          have nv : ∀ k, v.ownBlock = some k → W.heap.size + 10 ≤ k := fun k e => (lw.row.lt k e).1
          have l7 : W.heap.size + 7 < V.heap.size := (Array.getElem?_eq_some_iff.1 lw.c7).1
          have g : ∀ k, W.heap.size + 8 ≤ k → k < V.heap.size → ¬ v.ownBlock = some k → V7.drew.heap[k]? = V.heap[k]? := by
            intro k h1 h2 h3
            have e1 := BVV.out.block k h2
            have e2 := uAll.block k (by rw [H3Z.out]; omega) (by rintro (h | h | h | h) <;> first | omega | exact h3 h)
            exact e2.trans ((H3B.out k).trans e1)
          subst hnn
          refine ⟨⟨g L (by omega) (by omega) (fun e => by have := nv _ e; omega), g _ (by rw [Z8.out]; omega) (by rw [Z8.out]; omega) (fun e => by have := nv _ e; rw [Z8.out] at this; omega)⟩, fun k h1 h2 h3 => g k (by rw [Z8.out] at h1; omega) h2 (fun e => h3 ((hD0 k).2 e)), fun k => (Value.slice oo (i + 1) cc).ownBlock = some k, ⟨_, fun k => Iff.rfl, lwN.on (Upd.of_below ⟨rfl, rfl, rfl, Nat.le_refl _, fun _ _ => rfl⟩)⟩, fun k e => ?_⟩
          rcases kk k e with h | h
          · exact .inl ((hD0 k).2 h)
          · right
            rw [H3Z.out] at h
            omega
    · have a7 : ¬ (t.l : Int) > 0 := by omega
      clear hend
      (refine anyS_take (i := 0) (v := ?_) rfl (by kernel_rfl) (by kernel_rfl) (by kernel_rfl) (fun _ _ _ h => h) (Or.inl ⟨by kernel_rfl, ?_⟩) hS ?_); rotate_left; (focus (intro w' hSw; obtain ⟨q1, q2, q3, q4⟩ := hSw; go_simp; (try with_reducible rfl))); (try simp only [Act.put, List.getElem_toArray, List.getElem_cons_zero, List.getElem_cons_succ, List.setIfInBounds_toArray, List.set_cons_zero, List.set_cons_succ])
      (refine anyS_take (i := 1) (v := ?_) rfl (by kernel_rfl) (by kernel_rfl) (by kernel_rfl) (fun _ _ _ h => h) (Or.inl ⟨by kernel_rfl, ?_⟩) hS ?_); rotate_left; (focus (intro w' hSw; obtain ⟨q1, q2, q3, q4⟩ := hSw; go_simp; (try with_reducible rfl))); (try simp only [Act.put, List.getElem_toArray, List.getElem_cons_zero, List.getElem_cons_succ, List.setIfInBounds_toArray, List.set_cons_zero, List.set_cons_succ])
      (refine anyS_take (i := 2) (v := ?_) rfl (by kernel_rfl) (by kernel_rfl) (by kernel_rfl) (fun _ _ _ h => h) (Or.inl ⟨by kernel_rfl, ?_⟩) hS ?_); rotate_left; (focus (intro w' hSw; obtain ⟨q1, q2, q3, q4⟩ := hSw; go_simp; (try with_reducible rfl))); (try simp only [Act.put, List.getElem_toArray, List.getElem_cons_zero, List.getElem_cons_succ, List.setIfInBounds_toArray, List.set_cons_zero, List.set_cons_succ])
      (refine anyS_take (i := 3) (v := ?_) rfl (by kernel_rfl) (by kernel_rfl) (by kernel_rfl) (fun _ _ _ h => h) (Or.inl ⟨by kernel_rfl, ?_⟩) hS ?_); rotate_left; (focus (intro w' hSw; obtain ⟨q1, q2, q3, q4⟩ := hSw; go_simp; (try with_reducible rfl))); (try simp only [Act.put, List.getElem_toArray, List.getElem_cons_zero, List.getElem_cons_succ, List.setIfInBounds_toArray, List.set_cons_zero, List.set_cons_succ])
      (refine anyS_take (i := 4) (v := ?_) rfl (by kernel_rfl) (by kernel_rfl) (by kernel_rfl) (fun _ _ _ h => h) (Or.inl ⟨by kernel_rfl, ?_⟩) hS ?_); rotate_left; (focus (intro w' hSw; obtain ⟨q1, q2, q3, q4⟩ := hSw; go_simp; (try with_reducible rfl))); (try simp only [Act.put, List.getElem_toArray, List.getElem_cons_zero, List.getElem_cons_succ, List.setIfInBounds_toArray, List.set_cons_zero, List.set_cons_succ])
      (refine anyS_take (i := 5) (v := ?_) rfl (by kernel_rfl) (by kernel_rfl) (by kernel_rfl) (fun _ _ _ h => h) (Or.inl ⟨by kernel_rfl, ?_⟩) hS ?_); rotate_left; (focus (intro w' hSw; obtain ⟨q1, q2, q3, q4⟩ := hSw; go_simp; (try with_reducible rfl))); (try simp only [Act.put, List.getElem_toArray, List.getElem_cons_zero, List.getElem_cons_succ, List.setIfInBounds_toArray, List.set_cons_zero, List.set_cons_succ])
      (refine anyS_take (i := 6) (v := ?_) rfl (by kernel_rfl) (by kernel_rfl) (by kernel_rfl) (fun _ _ _ h => h) (Or.inl ⟨by kernel_rfl, ?_⟩) hS ?_); rotate_left; (focus (intro w' hSw; obtain ⟨q1, q2, q3, q4⟩ := hSw; go_simp; (try with_reducible rfl))); (try simp only [Act.put, List.getElem_toArray, List.getElem_cons_zero, List.getElem_cons_succ, List.setIfInBounds_toArray, List.set_cons_zero, List.set_cons_succ])
      (refine anyS_take (i := 7) (v := ?_) rfl (by kernel_rfl) (by kernel_rfl) (by kernel_rfl) (fun _ _ _ h => h) (Or.inl ⟨by kernel_rfl, ?_⟩) hS ?_); rotate_left; (focus (intro w' hSw; obtain ⟨q1, q2, q3, q4⟩ := hSw; go_simp; (try with_reducible rfl))); (try simp only [Act.put, List.getElem_toArray, List.getElem_cons_zero, List.getElem_cons_succ, List.setIfInBounds_toArray, List.set_cons_zero, List.set_cons_succ])
      (refine anyS_take (i := 8) (v := ?_) rfl (by kernel_rfl) (by kernel_rfl) (by kernel_rfl) (fun _ _ _ h => h) (Or.inl ⟨by kernel_rfl, ?_⟩) hS ?_); rotate_left; (focus (intro w' hSw; obtain ⟨q1, q2, q3, q4⟩ := hSw; go_simp; (try with_reducible rfl))); (try simp only [Act.put, List.getElem_toArray, List.getElem_cons_zero, List.getElem_cons_succ, List.setIfInBounds_toArray, List.set_cons_zero, List.set_cons_succ])
      (refine anyS_take (i := 9) (v := ?_) rfl (by kernel_rfl) (by kernel_rfl) (by kernel_rfl) (fun _ _ _ h => h) (Or.inl ⟨by kernel_rfl, ?_⟩) hS ?_); rotate_left; (focus (intro w' hSw; obtain ⟨q1, q2, q3, q4⟩ := hSw; go_simp; (try with_reducible rfl))); (try simp only [Act.put, List.getElem_toArray, List.getElem_cons_zero, List.getElem_cons_succ, List.setIfInBounds_toArray, List.set_cons_zero, List.set_cons_succ])
      (refine anyS_take (i := 10) (v := ?_) rfl (by kernel_rfl) (by kernel_rfl) (by kernel_rfl) (fun _ _ _ h => h) (Or.inl ⟨by kernel_rfl, ?_⟩) hS ?_); rotate_left; (focus (intro w' hSw; obtain ⟨q1, q2, q3, q4⟩ := hSw; go_simp; (try with_reducible rfl))); (try simp only [Act.put, List.getElem_toArray, List.getElem_cons_zero, List.getElem_cons_succ, List.setIfInBounds_toArray, List.set_cons_zero, List.set_cons_succ])
      (refine anyS_take (i := 11) (v := ?_) rfl (by kernel_rfl) (by kernel_rfl) (by kernel_rfl) (fun _ _ _ h => h) (Or.inl ⟨by kernel_rfl, ?_⟩) hS ?_); rotate_left; (focus (intro w' hSw; obtain ⟨q1, q2, q3, q4⟩ := hSw; go_simp; (try with_reducible rfl))); (try simp only [Act.put, List.getElem_toArray, List.getElem_cons_zero, List.getElem_cons_succ, List.setIfInBounds_toArray, List.set_cons_zero, List.set_cons_succ])
      (refine anyS_take (i := 12) (v := ?_) rfl (by kernel_rfl) (by kernel_rfl) (by kernel_rfl) (fun _ _ _ h => h) (Or.inl ⟨by kernel_rfl, ?_⟩) hS ?_); rotate_left; (focus (intro w' hSw; obtain ⟨q1, q2, q3, q4⟩ := hSw; go_simp; (try with_reducible rfl))); (try simp only [Act.put, List.getElem_toArray, List.getElem_cons_zero, List.getElem_cons_succ, List.setIfInBounds_toArray, List.set_cons_zero, List.set_cons_succ])
      (refine anyS_take (i := 13) (v := ?_) rfl (by kernel_rfl) (by kernel_rfl) (by kernel_rfl) (fun _ _ _ h => h) (Or.inl ⟨by kernel_rfl, ?_⟩) hS ?_); rotate_left; (focus (intro w' hSw; obtain ⟨q1, q2, q3, q4⟩ := hSw; go_simp; (try with_reducible rfl))); (try simp only [Act.put, List.getElem_toArray, List.getElem_cons_zero, List.getElem_cons_succ, List.setIfInBounds_toArray, List.set_cons_zero, List.set_cons_succ])
      (refine anyS_take (i := 14) (v := ?_) rfl (by kernel_rfl) (by kernel_rfl) (by kernel_rfl) (fun _ _ _ h => h) (Or.inl ⟨by kernel_rfl, ?_⟩) hS ?_); rotate_left; (focus (intro w' hSw; obtain ⟨q1, q2, q3, q4⟩ := hSw; go_simp; (try with_reducible rfl))); (try simp only [Act.put, List.getElem_toArray, List.getElem_cons_zero, List.getElem_cons_succ, List.setIfInBounds_toArray, List.set_cons_zero, List.set_cons_succ])
      (refine anyS_take (i := 15) (v := ?_) rfl (by kernel_rfl) (by kernel_rfl) (by kernel_rfl) (fun _ _ _ h => h) (Or.inl ⟨by kernel_rfl, ?_⟩) hS ?_); rotate_left; (focus (intro w' hSw; obtain ⟨q1, q2, q3, q4⟩ := hSw; go_simp; (try with_reducible rfl))); (try simp only [Act.put, List.getElem_toArray, List.getElem_cons_zero, List.getElem_cons_succ, List.setIfInBounds_toArray, List.set_cons_zero, List.set_cons_succ])
      (refine anyS_take (i := 16) (v := ?_) rfl (by kernel_rfl) (by kernel_rfl) (by kernel_rfl) (fun _ _ _ h => h) (Or.inl ⟨by kernel_rfl, ?_⟩) hS ?_); rotate_left; (focus (intro w' hSw; obtain ⟨q1, q2, q3, q4⟩ := hSw; go_simp; (try with_reducible rfl))); (try simp only [Act.put, List.getElem_toArray, List.getElem_cons_zero, List.getElem_cons_succ, List.setIfInBounds_toArray, List.set_cons_zero, List.set_cons_succ])
      (refine anyS_take (i := 17) (v := ?_) rfl (by kernel_rfl) (by kernel_rfl) (by kernel_rfl) (fun _ _ _ h => h) (Or.inl ⟨by kernel_rfl, ?_⟩) hS ?_); rotate_left; (focus (intro w' hSw; obtain ⟨q1, q2, q3, q4⟩ := hSw; go_simp; (try with_reducible rfl))); (try simp only [Act.put, List.getElem_toArray, List.getElem_cons_zero, List.getElem_cons_succ, List.setIfInBounds_toArray, List.set_cons_zero, List.set_cons_succ])
      (refine anyS_take (i := 18) (v := ?_) rfl (by kernel_rfl) (by kernel_rfl) (by kernel_rfl) (fun _ _ _ h => h) (Or.inl ⟨by kernel_rfl, ?_⟩) hS ?_); rotate_left; (focus (intro w' hSw; obtain ⟨q1, q2, q3, q4⟩ := hSw; go_simp; (try with_reducible rfl))); (try simp only [Act.put, List.getElem_toArray, List.getElem_cons_zero, List.getElem_cons_succ, List.setIfInBounds_toArray, List.set_cons_zero, List.set_cons_succ])
      (refine anyS_take (i := 19) (v := ?_) rfl (by kernel_rfl) (by kernel_rfl) (by kernel_rfl) (fun _ _ _ h => h) (Or.inl ⟨by kernel_rfl, ?_⟩) hS ?_); rotate_left; (focus (intro w' hSw; obtain ⟨q1, q2, q3, q4⟩ := hSw; go_simp; (try with_reducible rfl))); (try simp only [Act.put, List.getElem_toArray, List.getElem_cons_zero, List.getElem_cons_succ, List.setIfInBounds_toArray, List.set_cons_zero, List.set_cons_succ])
      (refine anyS_take (i := 20) (v := ?_) rfl (by kernel_rfl) (by kernel_rfl) (by kernel_rfl) (fun _ _ _ h => h) (Or.inl ⟨by kernel_rfl, ?_⟩) hS ?_); rotate_left; (focus (intro w' hSw; obtain ⟨q1, q2, q3, q4⟩ := hSw; go_simp; (try with_reducible rfl))); (try simp only [Act.put, List.getElem_toArray, List.getElem_cons_zero, List.getElem_cons_succ, List.setIfInBounds_toArray, List.set_cons_zero, List.set_cons_succ])
      (refine anyS_take (i := 21) (v := ?_) rfl (by kernel_rfl) (by kernel_rfl) (by kernel_rfl) (fun _ _ _ h => h) (Or.inl ⟨by kernel_rfl, ?_⟩) hS ?_); rotate_left; (focus (intro w' hSw; obtain ⟨q1, q2, q3, q4⟩ := hSw; go_simp; (try with_reducible rfl))); (try simp only [Act.put, List.getElem_toArray, List.getElem_cons_zero, List.getElem_cons_succ, List.setIfInBounds_toArray, List.set_cons_zero, List.set_cons_succ])
      (refine anyS_take (i := 22) (v := ?_) rfl (by kernel_rfl) (by kernel_rfl) (by kernel_rfl) (fun _ _ _ h => h) (Or.inl ⟨by kernel_rfl, ?_⟩) hS ?_); rotate_left; (focus (intro w' hSw; obtain ⟨q1, q2, q3, q4⟩ := hSw; go_simp; (try with_reducible rfl))); (try simp only [Act.put, List.getElem_toArray, List.getElem_cons_zero, List.getElem_cons_succ, List.setIfInBounds_toArray, List.set_cons_zero, List.set_cons_succ])
      (refine anyS_take (i := 23) (v := ?_) rfl (by kernel_rfl) (by kernel_rfl) (by kernel_rfl) (fun _ _ _ h => h) (Or.inl ⟨by kernel_rfl, ?_⟩) hS ?_); rotate_left; (focus (intro w' hSw; obtain ⟨q1, q2, q3, q4⟩ := hSw; go_simp; (try with_reducible rfl))); (try simp only [Act.put, List.getElem_toArray, List.getElem_cons_zero, List.getElem_cons_succ, List.setIfInBounds_toArray, List.set_cons_zero, List.set_cons_succ])
      (refine anyS_take (i := 24) (v := undef) rfl (by kernel_rfl) (by kernel_rfl) (by kernel_rfl) (fun _ _ _ h => h) (Or.inr ⟨by kernel_rfl, rfl⟩) hS ?_); (try simp only [Act.put, List.getElem_toArray, List.getElem_cons_zero, List.getElem_cons_succ, List.setIfInBounds_toArray, List.set_cons_zero, List.set_cons_succ])
      (refine anyS_take (i := 25) (v := undef) rfl (by kernel_rfl) (by kernel_rfl) (by kernel_rfl) (fun _ _ _ h => h) (Or.inr ⟨by kernel_rfl, rfl⟩) hS ?_); (try simp only [Act.put, List.getElem_toArray, List.getElem_cons_zero, List.getElem_cons_succ, List.setIfInBounds_toArray, List.set_cons_zero, List.set_cons_succ])
      (refine anyS_take (i := 26) (v := undef) rfl (by kernel_rfl) (by kernel_rfl) (by kernel_rfl) (fun _ _ _ h => h) (Or.inr ⟨by kernel_rfl, rfl⟩) hS ?_); (try simp only [Act.put, List.getElem_toArray, List.getElem_cons_zero, List.getElem_cons_succ, List.setIfInBounds_toArray, List.set_cons_zero, List.set_cons_succ])
      (refine anyS_take (i := 27) (v := undef) rfl (by kernel_rfl) (by kernel_rfl) (by kernel_rfl) (fun _ _ _ h => h) (Or.inr ⟨by kernel_rfl, rfl⟩) hS ?_); (try simp only [Act.put, List.getElem_toArray, List.getElem_cons_zero, List.getElem_cons_succ, List.setIfInBounds_toArray, List.set_cons_zero, List.set_cons_succ])
      (refine anyS_take (i := 28) (v := ?_) rfl (by kernel_rfl) (by kernel_rfl) (by kernel_rfl) (fun _ _ _ h => h) (Or.inl ⟨by kernel_rfl, ?_⟩) hS ?_); rotate_left; (focus (intro w' hSw; obtain ⟨q1, q2, q3, q4⟩ := hSw; go_simp; (try with_reducible rfl))); (try simp only [Act.put, List.getElem_toArray, List.getElem_cons_zero, List.getElem_cons_succ, List.setIfInBounds_toArray, List.set_cons_zero, List.set_cons_succ])
      (refine anyS_take (i := 29) (v := ?_) rfl (by kernel_rfl) (by kernel_rfl) (by kernel_rfl) (fun _ _ _ h => h) (Or.inl ⟨by kernel_rfl, ?_⟩) hS ?_); rotate_left; (focus (intro w' hSw; obtain ⟨q1, q2, q3, q4⟩ := hSw; go_simp; (try with_reducible rfl))); (try simp only [Act.put, List.getElem_toArray, List.getElem_cons_zero, List.getElem_cons_succ, List.setIfInBounds_toArray, List.set_cons_zero, List.set_cons_succ])
      (refine anyS_take (i := 30) (v := ?_) rfl (by kernel_rfl) (by kernel_rfl) (by kernel_rfl) (fun _ _ _ h => h) (Or.inl ⟨by kernel_rfl, ?_⟩) hS ?_); rotate_left; (focus (intro w' hSw; obtain ⟨q1, q2, q3, q4⟩ := hSw; go_simp; (try with_reducible rfl))); (try simp only [Act.put, List.getElem_toArray, List.getElem_cons_zero, List.getElem_cons_succ, List.setIfInBounds_toArray, List.set_cons_zero, List.set_cons_succ])
      (refine anyS_take (i := 31) (v := ?_) rfl (by kernel_rfl) (by kernel_rfl) (by kernel_rfl) (fun _ _ _ h => h) (Or.inl ⟨by kernel_rfl, ?_⟩) hS ?_); rotate_left; (focus (intro w' hSw; obtain ⟨q1, q2, q3, q4⟩ := hSw; go_simp; (try with_reducible rfl))); (try simp only [Act.put, List.getElem_toArray, List.getElem_cons_zero, List.getElem_cons_succ, List.setIfInBounds_toArray, List.set_cons_zero, List.set_cons_succ])
      (refine anyS_take (i := 32) (v := ?_) rfl (by kernel_rfl) (by kernel_rfl) (by kernel_rfl) (fun _ _ _ h => h) (Or.inl ⟨by kernel_rfl, ?_⟩) hS ?_); rotate_left; (focus (intro w' hSw; obtain ⟨q1, q2, q3, q4⟩ := hSw; go_simp; (try with_reducible rfl))); (try simp only [Act.put, List.getElem_toArray, List.getElem_cons_zero, List.getElem_cons_succ, List.setIfInBounds_toArray, List.set_cons_zero, List.set_cons_succ])
      (refine anyS_take (i := 33) (v := ?_) rfl (by kernel_rfl) (by kernel_rfl) (by kernel_rfl) (fun _ _ _ h => h) (Or.inl ⟨by kernel_rfl, ?_⟩) hS ?_); rotate_left; (focus (intro w' hSw; obtain ⟨q1, q2, q3, q4⟩ := hSw; go_simp; (try with_reducible rfl))); (try simp only [Act.put, List.getElem_toArray, List.getElem_cons_zero, List.getElem_cons_succ, List.setIfInBounds_toArray, List.set_cons_zero, List.set_cons_succ])
      refine anyS_one (i := 34) (by kernel_rfl) rfl (by kernel_rfl) (fun K hK => ?_)
      go_simp
      refine ⟨trivial, (callsIn_wide.2 csp).mono ?_⟩
      rintro e w' ⟨rfl, hw'⟩
      subst hw'
      refine hK _ _ ⟨hS, ?_⟩
      clear hK K
      (try simp only [Act.put, List.getElem_toArray, List.getElem_cons_zero, List.getElem_cons_succ, List.setIfInBounds_toArray, List.set_cons_zero, List.set_cons_succ])
      (refine anyS_take (i := 35) (v := ?_) rfl (by kernel_rfl) (by kernel_rfl) (by kernel_rfl) (fun _ _ _ h => h) (Or.inl ⟨by kernel_rfl, ?_⟩) hS ?_); rotate_left; (focus (intro w' hSw; obtain ⟨q1, q2, q3, q4⟩ := hSw; go_simp; (try with_reducible rfl))); (try simp only [Act.put, List.getElem_toArray, List.getElem_cons_zero, List.getElem_cons_succ, List.setIfInBounds_toArray, List.set_cons_zero, List.set_cons_succ])
      (refine anyS_take (i := 36) (v := ?_) rfl (by kernel_rfl) (by kernel_rfl) (by kernel_rfl) (fun _ _ _ h => h) (Or.inl ⟨by kernel_rfl, ?_⟩) hS ?_); rotate_left; (focus (intro w' hSw; obtain ⟨q1, q2, q3, q4⟩ := hSw; go_simp; (try with_reducible rfl))); (try simp only [Act.put, List.getElem_toArray, List.getElem_cons_zero, List.getElem_cons_succ, List.setIfInBounds_toArray, List.set_cons_zero, List.set_cons_succ])
      (refine anyS_take (i := 37) (v := ?_) rfl (by kernel_rfl) (by kernel_rfl) (by kernel_rfl) (fun _ _ _ h => h) (Or.inl ⟨by kernel_rfl, ?_⟩) hS ?_); rotate_left; (focus (intro w' hSw; obtain ⟨q1, q2, q3, q4⟩ := hSw; go_simp; (try with_reducible rfl))); (try simp only [Act.put, List.getElem_toArray, List.getElem_cons_zero, List.getElem_cons_succ, List.setIfInBounds_toArray, List.set_cons_zero, List.set_cons_succ])
      (refine anyS_take (i := 38) (v := ?_) rfl (by kernel_rfl) (by kernel_rfl) (by kernel_rfl) (fun _ _ _ h => h) (Or.inl ⟨by kernel_rfl, ?_⟩) hS ?_); rotate_left; (focus (intro w' hSw; obtain ⟨q1, q2, q3, q4⟩ := hSw; go_simp; (try with_reducible rfl))); (try simp only [Act.put, List.getElem_toArray, List.getElem_cons_zero, List.getElem_cons_succ, List.setIfInBounds_toArray, List.set_cons_zero, List.set_cons_succ])
      (refine anyS_take (i := 39) (v := ?_) rfl (by kernel_rfl) (by kernel_rfl) (by kernel_rfl) (fun _ _ _ h => h) (Or.inl ⟨by kernel_rfl, ?_⟩) hS ?_); rotate_left; (focus (intro w' hSw; obtain ⟨q1, q2, q3, q4⟩ := hSw; go_simp; (try with_reducible rfl))); (try simp only [Act.put, List.getElem_toArray, List.getElem_cons_zero, List.getElem_cons_succ, List.setIfInBounds_toArray, List.set_cons_zero, List.set_cons_succ])
      (refine anyS_take (i := 40) (v := ?_) rfl (by kernel_rfl) (by kernel_rfl) (by kernel_rfl) (fun _ _ _ h => h) (Or.inl ⟨by kernel_rfl, ?_⟩) hS ?_); rotate_left; (focus (intro w' hSw; obtain ⟨q1, q2, q3, q4⟩ := hSw; go_simp; (try with_reducible rfl))); (try simp only [Act.put, List.getElem_toArray, List.getElem_cons_zero, List.getElem_cons_succ, List.setIfInBounds_toArray, List.set_cons_zero, List.set_cons_succ])
      (refine anyS_take (i := 42) (v := ?_) rfl (by kernel_rfl) (by kernel_rfl) (by kernel_rfl) (fun _ _ _ h => h) (Or.inl ⟨by kernel_rfl, ?_⟩) hS ?_); rotate_left; (focus (intro w' hSw; obtain ⟨q1, q2, q3, q4⟩ := hSw; go_simp; (try with_reducible rfl))); (try simp only [Act.put, List.getElem_toArray, List.getElem_cons_zero, List.getElem_cons_succ, List.setIfInBounds_toArray, List.set_cons_zero, List.set_cons_succ])
      (refine anyS_take (i := 43) (v := ?_) rfl (by kernel_rfl) (by kernel_rfl) (by kernel_rfl) (fun _ _ _ h => h) (Or.inl ⟨by kernel_rfl, ?_⟩) hS ?_); rotate_left; (focus (intro w' hSw; obtain ⟨q1, q2, q3, q4⟩ := hSw; go_simp; (try with_reducible rfl))); (try simp only [Act.put, List.getElem_toArray, List.getElem_cons_zero, List.getElem_cons_succ, List.setIfInBounds_toArray, List.set_cons_zero, List.set_cons_succ])
      refine anyS_one (i := 41) (by kernel_rfl) rfl (by kernel_rfl) (fun K hK => ?_)
      go_simp
      refine ⟨trivial, (callsIn_wide.2 csp).mono ?_⟩
      rintro e w' ⟨rfl, hw'⟩
      subst hw'
      refine hK _ _ ⟨hS, ?_⟩
      clear hK K
      (try simp only [Act.put, List.getElem_toArray, List.getElem_cons_zero, List.getElem_cons_succ, List.setIfInBounds_toArray, List.set_cons_zero, List.set_cons_succ])
      (refine anyS_take (i := 44) (v := ?_) rfl (by kernel_rfl) (by kernel_rfl) (by kernel_rfl) (fun _ _ _ h => h) (Or.inl ⟨by kernel_rfl, ?_⟩) hS ?_); rotate_left; (focus (intro w' hSw; obtain ⟨q1, q2, q3, q4⟩ := hSw; go_simp; (try with_reducible rfl))); (try simp only [Act.put, List.getElem_toArray, List.getElem_cons_zero, List.getElem_cons_succ, List.setIfInBounds_toArray, List.set_cons_zero, List.set_cons_succ])
      (refine anyS_take (i := 45) (v := ?_) rfl (by kernel_rfl) (by kernel_rfl) (by kernel_rfl) (fun _ _ _ h => h) (Or.inl ⟨by kernel_rfl, ?_⟩) hS ?_); rotate_left; (focus (intro w' hSw; obtain ⟨q1, q2, q3, q4⟩ := hSw; go_simp; (try with_reducible rfl))); (try simp only [Act.put, List.getElem_toArray, List.getElem_cons_zero, List.getElem_cons_succ, List.setIfInBounds_toArray, List.set_cons_zero, List.set_cons_succ])
      (refine anyS_take (i := 46) (v := ?_) rfl (by kernel_rfl) (by kernel_rfl) (by kernel_rfl) (fun _ _ _ h => h) (Or.inl ⟨by kernel_rfl, ?_⟩) hS ?_); rotate_left; (focus (intro w' hSw; obtain ⟨q1, q2, q3, q4⟩ := hSw; go_simp; (try with_reducible rfl))); (try simp only [Act.put, List.getElem_toArray, List.getElem_cons_zero, List.getElem_cons_succ, List.setIfInBounds_toArray, List.set_cons_zero, List.set_cons_succ])
      refine anyS_done (by kernel_rfl) ?_ _
      obtain ⟨lw2, hx2, bV, x0, x1, x2, x5⟩ := K2.out
      obtain ⟨lw, hx, hzV, hs, hLz, hLe, hD0⟩ := KP.out
      have lw3 := lw2.on (W'' := V2.drew) (Upd.of_below ⟨rfl, rfl, rfl, Nat.le_refl _, fun _ _ => rfl⟩)
      have NX := fun V' h => lw3.next (V' := V') (TT.out.1) (by have := HI.out; omega) (by show _ ≤ V2.heap.size; have := bV.size; omega) h
      have hbV := bV.size
      have hz3 : V2.drew.heap.size = V2.heap.size := rfl
      have hx3 : V2.drew.heap[xb]? = some (.cells t.cells.toArray 60 (0, 0)) := hx2
      have RSV := hid (fun w' (hB : Below W.heap.size W w') => HR.out.below hB)
      have LLT : Hid (i + 1 ≤ l.length) := by
        show i + 1 ≤ l.length
        have e1 := HS.out.lie.cnt
        have e2 := congrArg List.length HR.out.is
        rw [List.length_map, refL_len] at e2
        have := HI.out
        omega
      obtain ⟨li, la, lb, hlc, hla, hcmp⟩ := last_at HS.out.lie TT.out.1
      have hc6 := lw3.c6
      rw [hlc] at hc6
      have q60 : V2.drew.cell? ⟨W.heap.size + 6, 0, none⟩ = some (.int .i64 li) := cell_of_row _ _ 0 _ _ _ hc6
      have q61 : V2.drew.cell? ⟨W.heap.size + 6, 1, none⟩ = some (.int .i64 la) := cell_of_row _ _ 1 _ _ _ hc6
      have q5 : V2.drew.cell? ⟨W.heap.size + 5, 0, none⟩ = some (.int .i64 (endT (T.take i) : Nat)) := cell_of_row _ _ 0 _ _ _ lw3.c5
      have y0 : V2.drew.cell? ⟨xb, 0, none⟩ = some (.int .i64 (t.i : Nat)) := cell_of_row _ _ 0 _ _ _ hx3
      have y1 : V2.drew.cell? ⟨xb, 1, none⟩ = some (.int .i64 (t.p : Nat)) := cell_of_row _ _ 1 _ _ _ hx3
      have y2 : V2.drew.cell? ⟨xb, 2, none⟩ = some (.int .i64 (t.l : Nat)) := cell_of_row _ _ 2 _ _ _ hx3
      have q62 : V2.drew.cell? ⟨W.heap.size + 6, 2, none⟩ = some (.int .i64 lb) := cell_of_row _ _ 2 _ _ _ hc6
      have z5 : V2.drew.frozen? ⟨W.heap.size + 5, 0, none⟩ = false := by simp [World.frozen?, lw3.c5]
      have ws : IntKind.i64.wrap ((t.p : Int) + (t.l : Int)) = ((t.p + t.l : Nat) : Int) := by have := TT.out.2.2.1; rw [IntKind.wrap_i64]; omega
      have FX := hid (And.intro hbV (And.intro hs (And.intro hLz (And.intro hLe (And.intro hD0 (And.intro hzV hx))))))
      have NXH := hid NX
      have CR : Hid (∀ w', Below W.heap.size W w' → World.cell? w' ⟨rb, 0, none⟩ = some (.slice vo l.length vcap)) := by
        show ∀ w', _
        exact fun w' hB => cell_of_row _ _ 0 _ _ _ (HR.out.below hB).top
      have KPL := KP
      have BVV := hid bV
      clear lw lw2 lw3 hx2 hx3 bV x0 x1 x2 x5 hbV hs hLz hLe hD0 hzV hx NX hc6 hlc csp hS a1 a2 a3 a4 a4' a5 a6 K2 KP RSV hz3
      by_cases hgt : ((t.p + t.l : Nat) : Int) > (endT (T.take i) : Nat)
      · have nx := NXH.out (V2.drew.setCell ⟨W.heap.size + 5, 0, none⟩ (.int .i64 ((t.p + t.l : Nat) : Int))) (.inr ⟨rfl, by omega⟩)
        obtain ⟨oo, nn, cc, V6, run, c4', c4L, zL, c46, z46, ⟨f0, f1, f2⟩, lwN, uAll, kk, hnn⟩ := nx
        have uX : Upd (fun k => k = W.heap.size + 5 ∨ k = W.heap.size + 6) V2.drew (setLast (V2.drew.setCell ⟨W.heap.size + 5, 0, none⟩ (.int .i64 ((t.p + t.l : Nat) : Int))) (W.heap.size + 6) t) := by
          unfold setLast
          exact ((((Upd.refl (fun k => k = W.heap.size + 5 ∨ k = W.heap.size + 6) V2.drew).setCell (p := ⟨W.heap.size + 5, 0, none⟩) (.inl (.inl rfl)) _).setCell (p := ⟨W.heap.size + 6, 0, none⟩) (.inl (.inr rfl)) _).setCell (p := ⟨W.heap.size + 6, 1, none⟩) (.inl (.inr rfl)) _).setCell (p := ⟨W.heap.size + 6, 2, none⟩) (.inl (.inr rfl)) _
        have xL : (setLast (V2.drew.setCell ⟨W.heap.size + 5, 0, none⟩ (.int .i64 ((t.p + t.l : Nat) : Int))) (W.heap.size + 6) t).cell? ⟨xb, 0, none⟩ = some (.int .i64 (t.i : Nat)) := (World.cell?_of_block (uX.block xb (by show xb < V2.heap.size; have := FX.out; omega) (by have := FX.out.2.1; omega))).trans y0
        have uE : Upd (fun k => k = W.heap.size + 5) V2.drew (V2.drew.setCell ⟨W.heap.size + 5, 0, none⟩ (.int .i64 ((t.p + t.l : Nat) : Int))) := (Upd.refl (fun k => k = W.heap.size + 5) V2.drew).setCell (p := ⟨W.heap.size + 5, 0, none⟩) (.inl rfl) _
        have yy : ∀ j, (V2.drew.setCell ⟨W.heap.size + 5, 0, none⟩ (.int .i64 ((t.p + t.l : Nat) : Int))).cell? ⟨xb, j, none⟩ = V2.drew.cell? ⟨xb, j, none⟩ := fun j => World.cell?_of_block (uE.block xb (by show xb < V2.heap.size; have := FX.out; omega) (by have := FX.out.2.1; omega))
        have yl : ∀ j, (V2.drew.setCell ⟨W.heap.size + 5, 0, none⟩ (.int .i64 ((t.p + t.l : Nat) : Int))).cell? ⟨W.heap.size + 6, j, none⟩ = V2.drew.cell? ⟨W.heap.size + 6, j, none⟩ := fun j => World.cell?_of_block (uE.block (W.heap.size + 6) (by show W.heap.size + 6 < V2.heap.size; have := FX.out; omega) (by omega))
        have w0 := (yy 0).trans y0
        have w1 := (yy 1).trans y1
        have w2 := (yy 2).trans y2
        have w60 := (yl 0).trans q60
        have w61 := (yl 1).trans q61
        have w62 := (yl 2).trans q62
        clear yy yl uE
        have NN := hid (And.intro lwN (And.intro uAll (And.intro kk hnn)))
        have H3Z : Hid (V2.drew.heap.size = V2.heap.size) := by show _ = _; rfl
        have H3B : Hid (∀ k : Nat, V2.drew.heap[k]? = V2.heap[k]?) := by show ∀ k : Nat, _; exact fun k => rfl
        clear lwN uAll kk hnn NXH uX
        unfold setLast at run c4L zL xL
        generalize ((t.p + t.l : Nat) : Int) = S0 at *
        generalize ((endT (T.take i) : Nat) : Int) = E0 at *
        generalize ((t.p : Nat) : Int) = P0 at *
        generalize ((t.l : Nat) : Int) = L0 at *
        generalize ((t.i : Nat) : Int) = I0 at *
        generalize V2.drew = V3 at *
        rcases hcmp with hc | ⟨hc, hc2⟩
        · gi_upto_region 16 with (simp only [Oper.semAt]; go_simp)
          clear y0 y1 y2 q60 q61 q62 q5 z5 f0 f1 f2 hla ws c4'
          generalize hV5 : World.setCell (World.setCell (World.setCell _ ⟨W.heap.size + 6, 0, none⟩ _) ⟨W.heap.size + 6, 1, none⟩ _) ⟨W.heap.size + 6, 2, none⟩ _ = V5 at *
          rw [← zL] at run
          gi_wp2_with (first | (with_reducible refine gi_append _ (.tmp 106) (.tmp 109) 34 34 rfl _ _ (by simp [Act.eval]) (by simp [Act.eval]) _ _ run ?_) | (simp only [Oper.semAt]; go_simp))
          obtain ⟨lwN, uAll, kk, hnn⟩ := NN.out
          have r4 : (V6.setCell ⟨W.heap.size + 4, 0, none⟩ (.slice oo nn cc)).cell? ⟨W.heap.size + 4, 0, none⟩ = some (.slice oo nn cc) := cell_of_row _ _ 0 _ _ _ lwN.c4
          have r1 : (V6.setCell ⟨W.heap.size + 4, 0, none⟩ (.slice oo nn cc)).cell? ⟨W.heap.size + 1, 0, none⟩ = some (Value.pointer (some ⟨rb, 0, none⟩)) := cell_of_row _ _ 0 _ _ _ lwN.c1
          have rr := CR.out _ lwN.low
          generalize (V6.setCell ⟨W.heap.size + 4, 0, none⟩ (.slice oo nn cc)) = V7 at *
          have hS : V7.drew.cell? ⟨W.heap.size + 4, 0, none⟩ = some (.slice oo nn cc) ∧ V7.drew.cell? ⟨W.heap.size + 1, 0, none⟩ = some (Value.pointer (some ⟨rb, 0, none⟩)) ∧ V7.drew.cell? ⟨rb, 0, none⟩ = some (.slice vo l.length vcap) := ⟨r4, r1, rr⟩
          have n1 : ¬ l.length < nn := by have := LLT.out; omega
          have n2 : ¬ (nn : Int) > (l.length : Nat) := by omega
          refine round_anyS (S := fun w' => w'.cell? ⟨W.heap.size + 4, 0, none⟩ = some (.slice oo nn cc) ∧ w'.cell? ⟨W.heap.size + 1, 0, none⟩ = some (Value.pointer (some ⟨rb, 0, none⟩)) ∧ w'.cell? ⟨rb, 0, none⟩ = some (.slice vo l.length vcap)) (by kernel_rfl) (by kernel_rfl) ?_
          have FN := hid (And.intro lwN (And.intro uAll (And.intro kk hnn)))
          clear lwN uAll kk hnn r4 r1 rr run c4L zL c46 z46 xL hV5 NN CR
          (refine anyS_take (i := 0) (v := ?_) rfl (by kernel_rfl) (by kernel_rfl) (by kernel_rfl) (fun _ _ _ h => h) (Or.inl ⟨by kernel_rfl, ?_⟩) hS ?_); rotate_left; (focus (intro w' hSw; obtain ⟨q1, q2, q3⟩ := hSw; go_simp; (try with_reducible rfl))); (try simp only [Act.put, List.getElem_toArray, List.getElem_cons_zero, List.getElem_cons_succ, List.setIfInBounds_toArray, List.set_cons_zero, List.set_cons_succ])
          (refine anyS_take (i := 1) (v := ?_) rfl (by kernel_rfl) (by kernel_rfl) (by kernel_rfl) (fun _ _ _ h => h) (Or.inl ⟨by kernel_rfl, ?_⟩) hS ?_); rotate_left; (focus (intro w' hSw; obtain ⟨q1, q2, q3⟩ := hSw; go_simp; (try with_reducible rfl))); (try simp only [Act.put, List.getElem_toArray, List.getElem_cons_zero, List.getElem_cons_succ, List.setIfInBounds_toArray, List.set_cons_zero, List.set_cons_succ])
          (refine anyS_take (i := 2) (v := ?_) rfl (by kernel_rfl) (by kernel_rfl) (by kernel_rfl) (fun _ _ _ h => h) (Or.inl ⟨by kernel_rfl, ?_⟩) hS ?_); rotate_left; (focus (intro w' hSw; obtain ⟨q1, q2, q3⟩ := hSw; go_simp; (try with_reducible rfl))); (try simp only [Act.put, List.getElem_toArray, List.getElem_cons_zero, List.getElem_cons_succ, List.setIfInBounds_toArray, List.set_cons_zero, List.set_cons_succ])
          (refine anyS_take (i := 3) (v := ?_) rfl (by kernel_rfl) (by kernel_rfl) (by kernel_rfl) (fun _ _ _ h => h) (Or.inl ⟨by kernel_rfl, ?_⟩) hS ?_); rotate_left; (focus (intro w' hSw; obtain ⟨q1, q2, q3⟩ := hSw; go_simp; (try with_reducible rfl))); (try simp only [Act.put, List.getElem_toArray, List.getElem_cons_zero, List.getElem_cons_succ, List.setIfInBounds_toArray, List.set_cons_zero, List.set_cons_succ])
          (refine anyS_take (i := 4) (v := ?_) rfl (by kernel_rfl) (by kernel_rfl) (by kernel_rfl) (fun _ _ _ h => h) (Or.inl ⟨by kernel_rfl, ?_⟩) hS ?_); rotate_left; (focus (intro w' hSw; obtain ⟨q1, q2, q3⟩ := hSw; go_simp; (try with_reducible rfl))); (try simp only [Act.put, List.getElem_toArray, List.getElem_cons_zero, List.getElem_cons_succ, List.setIfInBounds_toArray, List.set_cons_zero, List.set_cons_succ])
          (refine anyS_take (i := 5) (v := ?_) rfl (by kernel_rfl) (by kernel_rfl) (by kernel_rfl) (fun _ _ _ h => h) (Or.inl ⟨by kernel_rfl, ?_⟩) hS ?_); rotate_left; (focus (intro w' hSw; obtain ⟨q1, q2, q3⟩ := hSw; go_simp; (try with_reducible rfl))); (try simp only [Act.put, List.getElem_toArray, List.getElem_cons_zero, List.getElem_cons_succ, List.setIfInBounds_toArray, List.set_cons_zero, List.set_cons_succ])
          (refine anyS_take (i := 6) (v := ?_) rfl (by kernel_rfl) (by kernel_rfl) (by kernel_rfl) (fun _ _ _ h => h) (Or.inl ⟨by kernel_rfl, ?_⟩) hS ?_); rotate_left; (focus (intro w' hSw; obtain ⟨q1, q2, q3⟩ := hSw; go_simp; (try with_reducible rfl))); (try simp only [Act.put, List.getElem_toArray, List.getElem_cons_zero, List.getElem_cons_succ, List.setIfInBounds_toArray, List.set_cons_zero, List.set_cons_succ])
          (refine anyS_take (i := 7) (v := ?_) rfl (by kernel_rfl) (by kernel_rfl) (by kernel_rfl) (fun _ _ _ h => h) (Or.inl ⟨by kernel_rfl, ?_⟩) hS ?_); rotate_left; (focus (intro w' hSw; obtain ⟨q1, q2, q3⟩ := hSw; go_simp; (try with_reducible rfl))); (try simp only [Act.put, List.getElem_toArray, List.getElem_cons_zero, List.getElem_cons_succ, List.setIfInBounds_toArray, List.set_cons_zero, List.set_cons_succ])
          refine anyS_done (by kernel_rfl) ?_ _
          gi_wp2
          obtain ⟨lwN, uAll, kk, hnn⟩ := FN.out
          obtain ⟨hbV, hs, hLz, hLe, hD0, hzV, hx⟩ := FX.out
          obtain ⟨lw, _⟩ := KPL.out
          have nv : ∀ k, v.ownBlock = some k → W.heap.size + 10 ≤ k := fun k e => (lw.row.lt k e).1
          have l7 : W.heap.size + 7 < V.heap.size := (Array.getElem?_eq_some_iff.1 lw.c7).1
          have g : ∀ k, W.heap.size + 8 ≤ k → k < V.heap.size → ¬ v.ownBlock = some k → V7.drew.heap[k]? = V.heap[k]? := by
            intro k h1 h2 h3
            have e1 := BVV.out.block k h2
            have e2 := uAll.block k (by rw [H3Z.out]; omega) (by rintro (h | h | h | h) <;> first | omega | exact h3 h)
            exact e2.trans ((H3B.out k).trans e1)
          subst hnn
          refine ⟨⟨g L (by omega) (by omega) (fun e => by have := nv _ e; omega), g _ (by rw [Z8.out]; omega) (by rw [Z8.out]; omega) (fun e => by have := nv _ e; rw [Z8.out] at this; omega)⟩, fun k h1 h2 h3 => g k (by rw [Z8.out] at h1; omega) h2 (fun e => h3 ((hD0 k).2 e)), fun k => (Value.slice oo (i + 1) cc).ownBlock = some k, ⟨_, fun k => Iff.rfl, lwN.on (Upd.of_below ⟨rfl, rfl, rfl, Nat.le_refl _, fun _ _ => rfl⟩)⟩, fun k e => ?_⟩
          rcases kk k e with h | h
          · exact .inl ((hD0 k).2 h)
          · right
            rw [H3Z.out] at h
            omega
        · gi_upto_region 16 with (simp only [Oper.semAt]; go_simp)
          clear y0 y1 y2 q60 q61 q62 q5 z5 f0 f1 f2 hla ws c4'
          generalize hV5 : World.setCell (World.setCell (World.setCell _ ⟨W.heap.size + 6, 0, none⟩ _) ⟨W.heap.size + 6, 1, none⟩ _) ⟨W.heap.size + 6, 2, none⟩ _ = V5 at *
          rw [← zL] at run
          gi_wp2_with (first | (with_reducible refine gi_append _ (.tmp 106) (.tmp 109) 34 34 rfl _ _ (by simp [Act.eval]) (by simp [Act.eval]) _ _ run ?_) | (simp only [Oper.semAt]; go_simp))
          obtain ⟨lwN, uAll, kk, hnn⟩ := NN.out
          have r4 : (V6.setCell ⟨W.heap.size + 4, 0, none⟩ (.slice oo nn cc)).cell? ⟨W.heap.size + 4, 0, none⟩ = some (.slice oo nn cc) := cell_of_row _ _ 0 _ _ _ lwN.c4
          have r1 : (V6.setCell ⟨W.heap.size + 4, 0, none⟩ (.slice oo nn cc)).cell? ⟨W.heap.size + 1, 0, none⟩ = some (Value.pointer (some ⟨rb, 0, none⟩)) := cell_of_row _ _ 0 _ _ _ lwN.c1
          have rr := CR.out _ lwN.low
          generalize (V6.setCell ⟨W.heap.size + 4, 0, none⟩ (.slice oo nn cc)) = V7 at *
          have hS : V7.drew.cell? ⟨W.heap.size + 4, 0, none⟩ = some (.slice oo nn cc) ∧ V7.drew.cell? ⟨W.heap.size + 1, 0, none⟩ = some (Value.pointer (some ⟨rb, 0, none⟩)) ∧ V7.drew.cell? ⟨rb, 0, none⟩ = some (.slice vo l.length vcap) := ⟨r4, r1, rr⟩
          have n1 : ¬ l.length < nn := by have := LLT.out; omega
          have n2 : ¬ (nn : Int) > (l.length : Nat) := by omega
          refine round_anyS (S := fun w' => w'.cell? ⟨W.heap.size + 4, 0, none⟩ = some (.slice oo nn cc) ∧ w'.cell? ⟨W.heap.size + 1, 0, none⟩ = some (Value.pointer (some ⟨rb, 0, none⟩)) ∧ w'.cell? ⟨rb, 0, none⟩ = some (.slice vo l.length vcap)) (by kernel_rfl) (by kernel_rfl) ?_
          have FN := hid (And.intro lwN (And.intro uAll (And.intro kk hnn)))
          clear lwN uAll kk hnn r4 r1 rr run c4L zL c46 z46 xL hV5 NN CR
          (refine anyS_take (i := 0) (v := ?_) rfl (by kernel_rfl) (by kernel_rfl) (by kernel_rfl) (fun _ _ _ h => h) (Or.inl ⟨by kernel_rfl, ?_⟩) hS ?_); rotate_left; (focus (intro w' hSw; obtain ⟨q1, q2, q3⟩ := hSw; go_simp; (try with_reducible rfl))); (try simp only [Act.put, List.getElem_toArray, List.getElem_cons_zero, List.getElem_cons_succ, List.setIfInBounds_toArray, List.set_cons_zero, List.set_cons_succ])
          (refine anyS_take (i := 1) (v := ?_) rfl (by kernel_rfl) (by kernel_rfl) (by kernel_rfl) (fun _ _ _ h => h) (Or.inl ⟨by kernel_rfl, ?_⟩) hS ?_); rotate_left; (focus (intro w' hSw; obtain ⟨q1, q2, q3⟩ := hSw; go_simp; (try with_reducible rfl))); (try simp only [Act.put, List.getElem_toArray, List.getElem_cons_zero, List.getElem_cons_succ, List.setIfInBounds_toArray, List.set_cons_zero, List.set_cons_succ])
          (refine anyS_take (i := 2) (v := ?_) rfl (by kernel_rfl) (by kernel_rfl) (by kernel_rfl) (fun _ _ _ h => h) (Or.inl ⟨by kernel_rfl, ?_⟩) hS ?_); rotate_left; (focus (intro w' hSw; obtain ⟨q1, q2, q3⟩ := hSw; go_simp; (try with_reducible rfl))); (try simp only [Act.put, List.getElem_toArray, List.getElem_cons_zero, List.getElem_cons_succ, List.setIfInBounds_toArray, List.set_cons_zero, List.set_cons_succ])
          (refine anyS_take (i := 3) (v := ?_) rfl (by kernel_rfl) (by kernel_rfl) (by kernel_rfl) (fun _ _ _ h => h) (Or.inl ⟨by kernel_rfl, ?_⟩) hS ?_); rotate_left; (focus (intro w' hSw; obtain ⟨q1, q2, q3⟩ := hSw; go_simp; (try with_reducible rfl))); (try simp only [Act.put, List.getElem_toArray, List.getElem_cons_zero, List.getElem_cons_succ, List.setIfInBounds_toArray, List.set_cons_zero, List.set_cons_succ])
          (refine anyS_take (i := 4) (v := ?_) rfl (by kernel_rfl) (by kernel_rfl) (by kernel_rfl) (fun _ _ _ h => h) (Or.inl ⟨by kernel_rfl, ?_⟩) hS ?_); rotate_left; (focus (intro w' hSw; obtain ⟨q1, q2, q3⟩ := hSw; go_simp; (try with_reducible rfl))); (try simp only [Act.put, List.getElem_toArray, List.getElem_cons_zero, List.getElem_cons_succ, List.setIfInBounds_toArray, List.set_cons_zero, List.set_cons_succ])
          (refine anyS_take (i := 5) (v := ?_) rfl (by kernel_rfl) (by kernel_rfl) (by kernel_rfl) (fun _ _ _ h => h) (Or.inl ⟨by kernel_rfl, ?_⟩) hS ?_); rotate_left; (focus (intro w' hSw; obtain ⟨q1, q2, q3⟩ := hSw; go_simp; (try with_reducible rfl))); (try simp only [Act.put, List.getElem_toArray, List.getElem_cons_zero, List.getElem_cons_succ, List.setIfInBounds_toArray, List.set_cons_zero, List.set_cons_succ])
          (refine anyS_take (i := 6) (v := ?_) rfl (by kernel_rfl) (by kernel_rfl) (by kernel_rfl) (fun _ _ _ h => h) (Or.inl ⟨by kernel_rfl, ?_⟩) hS ?_); rotate_left; (focus (intro w' hSw; obtain ⟨q1, q2, q3⟩ := hSw; go_simp; (try with_reducible rfl))); (try simp only [Act.put, List.getElem_toArray, List.getElem_cons_zero, List.getElem_cons_succ, List.setIfInBounds_toArray, List.set_cons_zero, List.set_cons_succ])
          (refine anyS_take (i := 7) (v := ?_) rfl (by kernel_rfl) (by kernel_rfl) (by kernel_rfl) (fun _ _ _ h => h) (Or.inl ⟨by kernel_rfl, ?_⟩) hS ?_); rotate_left; (focus (intro w' hSw; obtain ⟨q1, q2, q3⟩ := hSw; go_simp; (try with_reducible rfl))); (try simp only [Act.put, List.getElem_toArray, List.getElem_cons_zero, List.getElem_cons_succ, List.setIfInBounds_toArray, List.set_cons_zero, List.set_cons_succ])
          refine anyS_done (by kernel_rfl) ?_ _
          gi_wp2
          obtain ⟨lwN, uAll, kk, hnn⟩ := FN.out
          obtain ⟨hbV, hs, hLz, hLe, hD0, hzV, hx⟩ := FX.out
          obtain ⟨lw, _⟩ := KPL.out
          have nv : ∀ k, v.ownBlock = some k → W.heap.size + 10 ≤ k := fun k e => (lw.row.lt k e).1
          have l7 : W.heap.size + 7 < V.heap.size := (Array.getElem?_eq_some_iff.1 lw.c7).1
          have g : ∀ k, W.heap.size + 8 ≤ k → k < V.heap.size → ¬ v.ownBlock = some k → V7.drew.heap[k]? = V.heap[k]? := by
            intro k h1 h2 h3
            have e1 := BVV.out.block k h2
            have e2 := uAll.block k (by rw [H3Z.out]; omega) (by rintro (h | h | h | h) <;> first | omega | exact h3 h)
            exact e2.trans ((H3B.out k).trans e1)
          subst hnn
          refine ⟨⟨g L (by omega) (by omega) (fun e => by have := nv _ e; omega), g _ (by rw [Z8.out]; omega) (by rw [Z8.out]; omega) (fun e => by have := nv _ e; rw [Z8.out] at this; omega)⟩, fun k h1 h2 h3 => g k (by rw [Z8.out] at h1; omega) h2 (fun e => h3 ((hD0 k).2 e)), fun k => (Value.slice oo (i + 1) cc).ownBlock = some k, ⟨_, fun k => Iff.rfl, lwN.on (Upd.of_below ⟨rfl, rfl, rfl, Nat.le_refl _, fun _ _ => rfl⟩)⟩, fun k e => ?_⟩
          rcases kk k e with h | h
          · exact .inl ((hD0 k).2 h)
          · right
            rw [H3Z.out] at h
            omega
      · have nx := NXH.out V2.drew (.inl ⟨rfl, by omega⟩)
        obtain ⟨oo, nn, cc, V6, run, c4', c4L, zL, c46, z46, ⟨f0, f1, f2⟩, lwN, uAll, kk, hnn⟩ := nx
        have uX : Upd (fun k => k = W.heap.size + 5 ∨ k = W.heap.size + 6) V2.drew (setLast V2.drew (W.heap.size + 6) t) := by
          unfold setLast
          exact (((Upd.refl (fun k => k = W.heap.size + 5 ∨ k = W.heap.size + 6) V2.drew).setCell (p := ⟨W.heap.size + 6, 0, none⟩) (.inl (.inr rfl)) _).setCell (p := ⟨W.heap.size + 6, 1, none⟩) (.inl (.inr rfl)) _).setCell (p := ⟨W.heap.size + 6, 2, none⟩) (.inl (.inr rfl)) _
        have xL : (setLast V2.drew (W.heap.size + 6) t).cell? ⟨xb, 0, none⟩ = some (.int .i64 (t.i : Nat)) := (World.cell?_of_block (uX.block xb (by show xb < V2.heap.size; have := FX.out; omega) (by have := FX.out.2.1; omega))).trans y0
        have NN := hid (And.intro lwN (And.intro uAll (And.intro kk hnn)))
        have H3Z : Hid (V2.drew.heap.size = V2.heap.size) := by show _ = _; rfl
        have H3B : Hid (∀ k : Nat, V2.drew.heap[k]? = V2.heap[k]?) := by show ∀ k : Nat, _; exact fun k => rfl
        clear lwN uAll kk hnn NXH uX
        unfold setLast at run c4L zL xL
        generalize ((t.p + t.l : Nat) : Int) = S0 at *
        generalize ((endT (T.take i) : Nat) : Int) = E0 at *
        generalize ((t.p : Nat) : Int) = P0 at *
        generalize ((t.l : Nat) : Int) = L0 at *
        generalize ((t.i : Nat) : Int) = I0 at *
        generalize V2.drew = V3 at *
        rcases hcmp with hc | ⟨hc, hc2⟩
        · gi_upto_region 16 with (simp only [Oper.semAt]; go_simp)
          clear y0 y1 y2 q60 q61 q62 q5 z5 f0 f1 f2 hla ws c4'
          generalize hV5 : World.setCell (World.setCell (World.setCell _ ⟨W.heap.size + 6, 0, none⟩ _) ⟨W.heap.size + 6, 1, none⟩ _) ⟨W.heap.size + 6, 2, none⟩ _ = V5 at *
          rw [← zL] at run
          gi_wp2_with (first | (with_reducible refine gi_append _ (.tmp 106) (.tmp 109) 34 34 rfl _ _ (by simp [Act.eval]) (by simp [Act.eval]) _ _ run ?_) | (simp only [Oper.semAt]; go_simp))
          obtain ⟨lwN, uAll, kk, hnn⟩ := NN.out
          have r4 : (V6.setCell ⟨W.heap.size + 4, 0, none⟩ (.slice oo nn cc)).cell? ⟨W.heap.size + 4, 0, none⟩ = some (.slice oo nn cc) := cell_of_row _ _ 0 _ _ _ lwN.c4
          have r1 : (V6.setCell ⟨W.heap.size + 4, 0, none⟩ (.slice oo nn cc)).cell? ⟨W.heap.size + 1, 0, none⟩ = some (Value.pointer (some ⟨rb, 0, none⟩)) := cell_of_row _ _ 0 _ _ _ lwN.c1
          have rr := CR.out _ lwN.low
          generalize (V6.setCell ⟨W.heap.size + 4, 0, none⟩ (.slice oo nn cc)) = V7 at *
          have hS : V7.drew.cell? ⟨W.heap.size + 4, 0, none⟩ = some (.slice oo nn cc) ∧ V7.drew.cell? ⟨W.heap.size + 1, 0, none⟩ = some (Value.pointer (some ⟨rb, 0, none⟩)) ∧ V7.drew.cell? ⟨rb, 0, none⟩ = some (.slice vo l.length vcap) := ⟨r4, r1, rr⟩
          have n1 : ¬ l.length < nn := by have := LLT.out; omega
          have n2 : ¬ (nn : Int) > (l.length : Nat) := by omega
          refine round_anyS (S := fun w' => w'.cell? ⟨W.heap.size + 4, 0, none⟩ = some (.slice oo nn cc) ∧ w'.cell? ⟨W.heap.size + 1, 0, none⟩ = some (Value.pointer (some ⟨rb, 0, none⟩)) ∧ w'.cell? ⟨rb, 0, none⟩ = some (.slice vo l.length vcap)) (by kernel_rfl) (by kernel_rfl) ?_
          have FN := hid (And.intro lwN (And.intro uAll (And.intro kk hnn)))
          clear lwN uAll kk hnn r4 r1 rr run c4L zL c46 z46 xL hV5 NN CR
          (refine anyS_take (i := 0) (v := ?_) rfl (by kernel_rfl) (by kernel_rfl) (by kernel_rfl) (fun _ _ _ h => h) (Or.inl ⟨by kernel_rfl, ?_⟩) hS ?_); rotate_left; (focus (intro w' hSw; obtain ⟨q1, q2, q3⟩ := hSw; go_simp; (try with_reducible rfl))); (try simp only [Act.put, List.getElem_toArray, List.getElem_cons_zero, List.getElem_cons_succ, List.setIfInBounds_toArray, List.set_cons_zero, List.set_cons_succ])
          (refine anyS_take (i := 1) (v := ?_) rfl (by kernel_rfl) (by kernel_rfl) (by kernel_rfl) (fun _ _ _ h => h) (Or.inl ⟨by kernel_rfl, ?_⟩) hS ?_); rotate_left; (focus (intro w' hSw; obtain ⟨q1, q2, q3⟩ := hSw; go_simp; (try with_reducible rfl))); (try simp only [Act.put, List.getElem_toArray, List.getElem_cons_zero, List.getElem_cons_succ, List.setIfInBounds_toArray, List.set_cons_zero, List.set_cons_succ])
          (refine anyS_take (i := 2) (v := ?_) rfl (by kernel_rfl) (by kernel_rfl) (by kernel_rfl) (fun _ _ _ h => h) (Or.inl ⟨by kernel_rfl, ?_⟩) hS ?_); rotate_left; (focus (intro w' hSw; obtain ⟨q1, q2, q3⟩ := hSw; go_simp; (try with_reducible rfl))); (try simp only [Act.put, List.getElem_toArray, List.getElem_cons_zero, List.getElem_cons_succ, List.setIfInBounds_toArray, List.set_cons_zero, List.set_cons_succ])
          (refine anyS_take (i := 3) (v := ?_) rfl (by kernel_rfl) (by kernel_rfl) (by kernel_rfl) (fun _ _ _ h => h) (Or.inl ⟨by kernel_rfl, ?_⟩) hS ?_); rotate_left; (focus (intro w' hSw; obtain ⟨q1, q2, q3⟩ := hSw; go_simp; (try with_reducible rfl))); (try simp only [Act.put, List.getElem_toArray, List.getElem_cons_zero, List.getElem_cons_succ, List.setIfInBounds_toArray, List.set_cons_zero, List.set_cons_succ])
          (refine anyS_take (i := 4) (v := ?_) rfl (by kernel_rfl) (by kernel_rfl) (by kernel_rfl) (fun _ _ _ h => h) (Or.inl ⟨by kernel_rfl, ?_⟩) hS ?_); rotate_left; (focus (intro w' hSw; obtain ⟨q1, q2, q3⟩ := hSw; go_simp; (try with_reducible rfl))); (try simp only [Act.put, List.getElem_toArray, List.getElem_cons_zero, List.getElem_cons_succ, List.setIfInBounds_toArray, List.set_cons_zero, List.set_cons_succ])
          (refine anyS_take (i := 5) (v := ?_) rfl (by kernel_rfl) (by kernel_rfl) (by kernel_rfl) (fun _ _ _ h => h) (Or.inl ⟨by kernel_rfl, ?_⟩) hS ?_); rotate_left; (focus (intro w' hSw; obtain ⟨q1, q2, q3⟩ := hSw; go_simp; (try with_reducible rfl))); (try simp only [Act.put, List.getElem_toArray, List.getElem_cons_zero, List.getElem_cons_succ, List.setIfInBounds_toArray, List.set_cons_zero, List.set_cons_succ])
          (refine anyS_take (i := 6) (v := ?_) rfl (by kernel_rfl) (by kernel_rfl) (by kernel_rfl) (fun _ _ _ h => h) (Or.inl ⟨by kernel_rfl, ?_⟩) hS ?_); rotate_left; (focus (intro w' hSw; obtain ⟨q1, q2, q3⟩ := hSw; go_simp; (try with_reducible rfl))); (try simp only [Act.put, List.getElem_toArray, List.getElem_cons_zero, List.getElem_cons_succ, List.setIfInBounds_toArray, List.set_cons_zero, List.set_cons_succ])
          (refine anyS_take (i := 7) (v := ?_) rfl (by kernel_rfl) (by kernel_rfl) (by kernel_rfl) (fun _ _ _ h => h) (Or.inl ⟨by kernel_rfl, ?_⟩) hS ?_); rotate_left; (focus (intro w' hSw; obtain ⟨q1, q2, q3⟩ := hSw; go_simp; (try with_reducible rfl))); (try simp only [Act.put, List.getElem_toArray, List.getElem_cons_zero, List.getElem_cons_succ, List.setIfInBounds_toArray, List.set_cons_zero, List.set_cons_succ])
          refine anyS_done (by kernel_rfl) ?_ _
          gi_wp2
          obtain ⟨lwN, uAll, kk, hnn⟩ := FN.out
          obtain ⟨hbV, hs, hLz, hLe, hD0, hzV, hx⟩ := FX.out
          obtain ⟨lw, _⟩ := KPL.out
          have nv : ∀ k, v.ownBlock = some k → W.heap.size + 10 ≤ k := fun k e => (lw.row.lt k e).1
          have l7 : W.heap.size + 7 < V.heap.size := (Array.getElem?_eq_some_iff.1 lw.c7).1
          have g : ∀ k, W.heap.size + 8 ≤ k → k < V.heap.size → ¬ v.ownBlock = some k → V7.drew.heap[k]? = V.heap[k]? := by
            intro k h1 h2 h3
            have e1 := BVV.out.block k h2
            have e2 := uAll.block k (by rw [H3Z.out]; omega) (by rintro (h | h | h | h) <;> first | omega | exact h3 h)
            exact e2.trans ((H3B.out k).trans e1)
          subst hnn
          refine ⟨⟨g L (by omega) (by omega) (fun e => by have := nv _ e; omega), g _ (by rw [Z8.out]; omega) (by rw [Z8.out]; omega) (fun e => by have := nv _ e; rw [Z8.out] at this; omega)⟩, fun k h1 h2 h3 => g k (by rw [Z8.out] at h1; omega) h2 (fun e => h3 ((hD0 k).2 e)), fun k => (Value.slice oo (i + 1) cc).ownBlock = some k, ⟨_, fun k => Iff.rfl, lwN.on (Upd.of_below ⟨rfl, rfl, rfl, Nat.le_refl _, fun _ _ => rfl⟩)⟩, fun k e => ?_⟩
          rcases kk k e with h | h
          · exact .inl ((hD0 k).2 h)
          · right
            rw [H3Z.out] at h
            omega
        · gi_upto_region 16 with (simp only [Oper.semAt]; go_simp)
          clear y0 y1 y2 q60 q61 q62 q5 z5 f0 f1 f2 hla ws c4'
          generalize hV5 : World.setCell (World.setCell (World.setCell _ ⟨W.heap.size + 6, 0, none⟩ _) ⟨W.heap.size + 6, 1, none⟩ _) ⟨W.heap.size + 6, 2, none⟩ _ = V5 at *
          rw [← zL] at run
          gi_wp2_with (first | (with_reducible refine gi_append _ (.tmp 106) (.tmp 109) 34 34 rfl _ _ (by simp [Act.eval]) (by simp [Act.eval]) _ _ run ?_) | (simp only [Oper.semAt]; go_simp))
          obtain ⟨lwN, uAll, kk, hnn⟩ := NN.out
          have r4 : (V6.setCell ⟨W.heap.size + 4, 0, none⟩ (.slice oo nn cc)).cell? ⟨W.heap.size + 4, 0, none⟩ = some (.slice oo nn cc) := cell_of_row _ _ 0 _ _ _ lwN.c4
          have r1 : (V6.setCell ⟨W.heap.size + 4, 0, none⟩ (.slice oo nn cc)).cell? ⟨W.heap.size + 1, 0, none⟩ = some (Value.pointer (some ⟨rb, 0, none⟩)) := cell_of_row _ _ 0 _ _ _ lwN.c1
          have rr := CR.out _ lwN.low
          generalize (V6.setCell ⟨W.heap.size + 4, 0, none⟩ (.slice oo nn cc)) = V7 at *
          have hS : V7.drew.cell? ⟨W.heap.size + 4, 0, none⟩ = some (.slice oo nn cc) ∧ V7.drew.cell? ⟨W.heap.size + 1, 0, none⟩ = some (Value.pointer (some ⟨rb, 0, none⟩)) ∧ V7.drew.cell? ⟨rb, 0, none⟩ = some (.slice vo l.length vcap) := ⟨r4, r1, rr⟩
          have n1 : ¬ l.length < nn := by have := LLT.out; omega
          have n2 : ¬ (nn : Int) > (l.length : Nat) := by omega
          refine round_anyS (S := fun w' => w'.cell? ⟨W.heap.size + 4, 0, none⟩ = some (.slice oo nn cc) ∧ w'.cell? ⟨W.heap.size + 1, 0, none⟩ = some (Value.pointer (some ⟨rb, 0, none⟩)) ∧ w'.cell? ⟨rb, 0, none⟩ = some (.slice vo l.length vcap)) (by kernel_rfl) (by kernel_rfl) ?_
          have FN := hid (And.intro lwN (And.intro uAll (And.intro kk hnn)))
          clear lwN uAll kk hnn r4 r1 rr run c4L zL c46 z46 xL hV5 NN CR
          (refine anyS_take (i := 0) (v := ?_) rfl (by kernel_rfl) (by kernel_rfl) (by kernel_rfl) (fun _ _ _ h => h) (Or.inl ⟨by kernel_rfl, ?_⟩) hS ?_); rotate_left; (focus (intro w' hSw; obtain ⟨q1, q2, q3⟩ := hSw; go_simp; (try with_reducible rfl))); (try simp only [Act.put, List.getElem_toArray, List.getElem_cons_zero, List.getElem_cons_succ, List.setIfInBounds_toArray, List.set_cons_zero, List.set_cons_succ])
          (refine anyS_take (i := 1) (v := ?_) rfl (by kernel_rfl) (by kernel_rfl) (by kernel_rfl) (fun _ _ _ h => h) (Or.inl ⟨by kernel_rfl, ?_⟩) hS ?_); rotate_left; (focus (intro w' hSw; obtain ⟨q1, q2, q3⟩ := hSw; go_simp; (try with_reducible rfl))); (try simp only [Act.put, List.getElem_toArray, List.getElem_cons_zero, List.getElem_cons_succ, List.setIfInBounds_toArray, List.set_cons_zero, List.set_cons_succ])
          (refine anyS_take (i := 2) (v := ?_) rfl (by kernel_rfl) (by kernel_rfl) (by kernel_rfl) (fun _ _ _ h => h) (Or.inl ⟨by kernel_rfl, ?_⟩) hS ?_); rotate_left; (focus (intro w' hSw; obtain ⟨q1, q2, q3⟩ := hSw; go_simp; (try with_reducible rfl))); (try simp only [Act.put, List.getElem_toArray, List.getElem_cons_zero, List.getElem_cons_succ, List.setIfInBounds_toArray, List.set_cons_zero, List.set_cons_succ])
          (refine anyS_take (i := 3) (v := ?_) rfl (by kernel_rfl) (by kernel_rfl) (by kernel_rfl) (fun _ _ _ h => h) (Or.inl ⟨by kernel_rfl, ?_⟩) hS ?_); rotate_left; (focus (intro w' hSw; obtain ⟨q1, q2, q3⟩ := hSw; go_simp; (try with_reducible rfl))); (try simp only [Act.put, List.getElem_toArray, List.getElem_cons_zero, List.getElem_cons_succ, List.setIfInBounds_toArray, List.set_cons_zero, List.set_cons_succ])
          (refine anyS_take (i := 4) (v := ?_) rfl (by kernel_rfl) (by kernel_rfl) (by kernel_rfl) (fun _ _ _ h => h) (Or.inl ⟨by kernel_rfl, ?_⟩) hS ?_); rotate_left; (focus (intro w' hSw; obtain ⟨q1, q2, q3⟩ := hSw; go_simp; (try with_reducible rfl))); (try simp only [Act.put, List.getElem_toArray, List.getElem_cons_zero, List.getElem_cons_succ, List.setIfInBounds_toArray, List.set_cons_zero, List.set_cons_succ])
          (refine anyS_take (i := 5) (v := ?_) rfl (by kernel_rfl) (by kernel_rfl) (by kernel_rfl) (fun _ _ _ h => h) (Or.inl ⟨by kernel_rfl, ?_⟩) hS ?_); rotate_left; (focus (intro w' hSw; obtain ⟨q1, q2, q3⟩ := hSw; go_simp; (try with_reducible rfl))); (try simp only [Act.put, List.getElem_toArray, List.getElem_cons_zero, List.getElem_cons_succ, List.setIfInBounds_toArray, List.set_cons_zero, List.set_cons_succ])
          (refine anyS_take (i := 6) (v := ?_) rfl (by kernel_rfl) (by kernel_rfl) (by kernel_rfl) (fun _ _ _ h => h) (Or.inl ⟨by kernel_rfl, ?_⟩) hS ?_); rotate_left; (focus (intro w' hSw; obtain ⟨q1, q2, q3⟩ := hSw; go_simp; (try with_reducible rfl))); (try simp only [Act.put, List.getElem_toArray, List.getElem_cons_zero, List.getElem_cons_succ, List.setIfInBounds_toArray, List.set_cons_zero, List.set_cons_succ])
          (refine anyS_take (i := 7) (v := ?_) rfl (by kernel_rfl) (by kernel_rfl) (by kernel_rfl) (fun _ _ _ h => h) (Or.inl ⟨by kernel_rfl, ?_⟩) hS ?_); rotate_left; (focus (intro w' hSw; obtain ⟨q1, q2, q3⟩ := hSw; go_simp; (try with_reducible rfl))); (try simp only [Act.put, List.getElem_toArray, List.getElem_cons_zero, List.getElem_cons_succ, List.setIfInBounds_toArray, List.set_cons_zero, List.set_cons_succ])
          refine anyS_done (by kernel_rfl) ?_ _
          gi_wp2
          obtain ⟨lwN, uAll, kk, hnn⟩ := FN.out
          obtain ⟨hbV, hs, hLz, hLe, hD0, hzV, hx⟩ := FX.out
          obtain ⟨lw, _⟩ := KPL.out
          have nv : ∀ k, v.ownBlock = some k → W.heap.size + 10 ≤ k := fun k e => (lw.row.lt k e).1
          have l7 : W.heap.size + 7 < V.heap.size := (Array.getElem?_eq_some_iff.1 lw.c7).1
          have g : ∀ k, W.heap.size + 8 ≤ k → k < V.heap.size → ¬ v.ownBlock = some k → V7.drew.heap[k]? = V.heap[k]? := by
            intro k h1 h2 h3
            have e1 := BVV.out.block k h2
            have e2 := uAll.block k (by rw [H3Z.out]; omega) (by rintro (h | h | h | h) <;> first | omega | exact h3 h)
            exact e2.trans ((H3B.out k).trans e1)
          subst hnn
          refine ⟨⟨g L (by omega) (by omega) (fun e => by have := nv _ e; omega), g _ (by rw [Z8.out]; omega) (by rw [Z8.out]; omega) (fun e => by have := nv _ e; rw [Z8.out] at this; omega)⟩, fun k h1 h2 h3 => g k (by rw [Z8.out] at h1; omega) h2 (fun e => h3 ((hD0 k).2 e)), fun k => (Value.slice oo (i + 1) cc).ownBlock = some k, ⟨_, fun k => Iff.rfl, lwN.on (Upd.of_below ⟨rfl, rfl, rfl, Nat.le_refl _, fun _ _ => rfl⟩)⟩, fun k e => ?_⟩
          rcases kk k e with h | h
          · exact .inl ((hD0 k).2 h)
          · right
            rw [H3Z.out] at h
            omega
  case done =>
    rintro D W9 ⟨v, h1, h2⟩ hD
    have hTn : T.length = l.length := by
      have e1 := HS.out.lie.cnt
      have e2 := congrArg List.length HR.out.is
      rw [List.length_map, refL_len] at e2
      omega
    rw [hTn] at h2
    have HTN := hid hTn
    have bD : Below W9.heap.size W9 W9.drew := ⟨rfl, rfl, rfl, Nat.le_refl _, fun _ _ => rfl⟩
    have lwd := h2.on (W'' := W9.drew) (Upd.of_below bD)
    obtain ⟨vo2, vc2, hv2⟩ := slice_of (owns_base h2.row (b' := 0) (fun _ _ => Nat.zero_le _))
    subst hv2
    have cus := HS.out.used W9.drew lwd.low
    have csp := HS.out.span W9.drew lwd.low
    have cur := rused_c (HR.out.below lwd.low)
    have hRs := HR.out.below lwd.low
    have s1 : W9.drew.cell? ⟨W.heap.size + 4, 0, none⟩ = some (.slice vo2 l.length vc2) := cell_of_row _ _ 0 _ _ _ lwd.c4
    have s2 : W9.drew.cell? ⟨W.heap.size + 1, 0, none⟩ = some (Value.pointer (some ⟨rb, 0, none⟩)) := cell_of_row _ _ 0 _ _ _ lwd.c1
    have s3 : W9.drew.cell? ⟨W.heap.size, 0, none⟩ = some (Value.pointer (some ⟨sb, 0, none⟩)) := cell_of_row _ _ 0 _ _ _ lwd.c0
    have s4 : W9.drew.cell? ⟨rb, 0, none⟩ = some (.slice vo l.length vcap) := cell_of_row _ _ 0 _ _ _ hRs.top
    have s5 : W9.drew.cell? ⟨rb, 1, none⟩ = some (.int .i64 (M : Nat)) := cell_of_row _ _ 1 _ _ _ hRs.top
    have t2 : W9.drew.cell? ⟨W.heap.size + 2, 0, none⟩ = some (.slice none 0 0) := cell_of_row _ _ 0 _ _ _ lwd.c2
    have t3 : W9.drew.cell? ⟨W.heap.size + 3, 0, none⟩ = some (.bool false) := cell_of_row _ _ 0 _ _ _ lwd.c3
    have z2 : W9.drew.frozen? ⟨W.heap.size + 2, 0, none⟩ = false := by simp [World.frozen?, lwd.c2]
    have z3 : W9.drew.frozen? ⟨W.heap.size + 3, 0, none⟩ = false := by simp [World.frozen?, lwd.c3]
    have hrb : rb < W.heap.size := (HR.out.blk_lt rb (.inl rfl)).2
    have l7 : W.heap.size + 7 < W9.drew.heap.size := (Array.getElem?_eq_some_iff.1 h2.c7).1
    have hDd : W9.drew.heap[W8.heap.size]? = some (.deferred (some [])) := hD
    have uA : ∀ x : Value, Upd (fun k => k = W.heap.size + 2) W9.drew (W9.drew.setCell ⟨W.heap.size + 2, 0, none⟩ x) := fun x => (Upd.refl (fun k => k = W.heap.size + 2) W9.drew).setCell (p := ⟨W.heap.size + 2, 0, none⟩) (.inl rfl) _
    have uB : ∀ x y : Value, Upd (fun k => k = W.heap.size + 2 ∨ k = W.heap.size + 3) W9.drew ((W9.drew.setCell ⟨W.heap.size + 2, 0, none⟩ x).setCell ⟨W.heap.size + 3, 0, none⟩ y) := fun x y => ((uA x).mono (fun k e => .inl e)).trans' (((Upd.refl (fun k => k = W.heap.size + 3) _).setCell (p := ⟨W.heap.size + 3, 0, none⟩) (.inl rfl) _).mono (fun k e => .inr e))
    have kA : ∀ (x : Value) (k j : Nat), k < W9.drew.heap.size → k ≠ W.heap.size + 2 → (W9.drew.setCell ⟨W.heap.size + 2, 0, none⟩ x).cell? ⟨k, j, none⟩ = W9.drew.cell? ⟨k, j, none⟩ := fun x k j h3 h4 => World.cell?_of_block ((uA x).block k h3 h4)
    have t3A : ∀ x, (W9.drew.setCell ⟨W.heap.size + 2, 0, none⟩ x).cell? ⟨W.heap.size + 3, 0, none⟩ = some (.bool false) := fun x => (kA x _ _ (by omega) (by omega)).trans t3
    have z3A : ∀ x, (W9.drew.setCell ⟨W.heap.size + 2, 0, none⟩ x).frozen? ⟨W.heap.size + 3, 0, none⟩ = false := fun x => (World.frozen?_of_block ((uA x).block (W.heap.size + 3) (by omega) (by omega))).trans z3
    have KA := hid kA
    have UB := hid uB
    have FD := hid (And.intro hDd (And.intro lwd (And.intro hrb l7)))
    have w1 : IntKind.i64.wrap (2 * (M : Int)) = 2 * (M : Int) := by rw [IntKind.wrap_i64]; omega
    have w2 : IntKind.i64.wrap (2 * (M : Int) + 64) = 2 * (M : Int) + 64 := by rw [IntKind.wrap_i64]; omega
    have w3 : (R : Int) ≤ 2 * (M : Int) + 64 := by omega
    have hS : W9.drew.cell? ⟨W.heap.size + 4, 0, none⟩ = some (.slice vo2 l.length vc2) ∧ W9.drew.cell? ⟨W.heap.size + 1, 0, none⟩ = some (Value.pointer (some ⟨rb, 0, none⟩)) ∧ W9.drew.cell? ⟨W.heap.size, 0, none⟩ = some (Value.pointer (some ⟨sb, 0, none⟩)) ∧ W9.drew.cell? ⟨rb, 0, none⟩ = some (.slice vo l.length vcap) ∧ W9.drew.cell? ⟨rb, 1, none⟩ = some (.int .i64 (M : Nat)) := ⟨s1, s2, s3, s4, s5⟩
    clear h1 h2 hD hDd lwd hRs bD hTn s1 s2 s3 s4 s5 uA uB kA t3 z3 hrb l7 hTl LW
    generalize l.length = n at *
    go_wp2
    refine plain_anyS (S := fun w' => w'.cell? ⟨W.heap.size + 4, 0, none⟩ = some (.slice vo2 n vc2) ∧ w'.cell? ⟨W.heap.size + 1, 0, none⟩ = some (Value.pointer (some ⟨rb, 0, none⟩)) ∧ w'.cell? ⟨W.heap.size, 0, none⟩ = some (Value.pointer (some ⟨sb, 0, none⟩)) ∧ w'.cell? ⟨rb, 0, none⟩ = some (.slice vo n vcap) ∧ w'.cell? ⟨rb, 1, none⟩ = some (.int .i64 (M : Nat))) (by kernel_rfl) ?_
    generalize W9.drew = Wd at *
    (refine anyS_take (i := 0) (v := ?_) rfl (by kernel_rfl) (by kernel_rfl) (by kernel_rfl) (fun _ _ _ h => by cases h.1) (Or.inl ⟨by kernel_rfl, ?_⟩) hS ?_); rotate_left; (focus (intro w' hSw; obtain ⟨q1, q2, q3, q4, q5⟩ := hSw; go_simp; (try with_reducible rfl))); (try simp only [Act.put, List.getElem_toArray, List.getElem_cons_zero, List.getElem_cons_succ, List.setIfInBounds_toArray, List.set_cons_zero, List.set_cons_succ])
    (refine anyS_take (i := 1) (v := ?_) rfl (by kernel_rfl) (by kernel_rfl) (by kernel_rfl) (fun _ _ _ h => by cases h.1) (Or.inl ⟨by kernel_rfl, ?_⟩) hS ?_); rotate_left; (focus (intro w' hSw; obtain ⟨q1, q2, q3, q4, q5⟩ := hSw; go_simp; (try with_reducible rfl))); (try simp only [Act.put, List.getElem_toArray, List.getElem_cons_zero, List.getElem_cons_succ, List.setIfInBounds_toArray, List.set_cons_zero, List.set_cons_succ])
    (refine anyS_take (i := 2) (v := ?_) rfl (by kernel_rfl) (by kernel_rfl) (by kernel_rfl) (fun _ _ _ h => by cases h.1) (Or.inl ⟨by kernel_rfl, ?_⟩) hS ?_); rotate_left; (focus (intro w' hSw; obtain ⟨q1, q2, q3, q4, q5⟩ := hSw; go_simp; (try with_reducible rfl))); (try simp only [Act.put, List.getElem_toArray, List.getElem_cons_zero, List.getElem_cons_succ, List.setIfInBounds_toArray, List.set_cons_zero, List.set_cons_succ])
    (refine anyS_take (i := 3) (v := ?_) rfl (by kernel_rfl) (by kernel_rfl) (by kernel_rfl) (fun _ _ _ h => by cases h.1) (Or.inl ⟨by kernel_rfl, ?_⟩) hS ?_); rotate_left; (focus (intro w' hSw; obtain ⟨q1, q2, q3, q4, q5⟩ := hSw; go_simp; (try with_reducible rfl))); (try simp only [Act.put, List.getElem_toArray, List.getElem_cons_zero, List.getElem_cons_succ, List.setIfInBounds_toArray, List.set_cons_zero, List.set_cons_succ])
    (refine anyS_take (i := 4) (v := ?_) rfl (by kernel_rfl) (by kernel_rfl) (by kernel_rfl) (fun _ _ _ h => by cases h.1) (Or.inl ⟨by kernel_rfl, ?_⟩) hS ?_); rotate_left; (focus (intro w' hSw; obtain ⟨q1, q2, q3, q4, q5⟩ := hSw; go_simp; (try with_reducible rfl))); (try simp only [Act.put, List.getElem_toArray, List.getElem_cons_zero, List.getElem_cons_succ, List.setIfInBounds_toArray, List.set_cons_zero, List.set_cons_succ])
    (refine anyS_take (i := 5) (v := ?_) rfl (by kernel_rfl) (by kernel_rfl) (by kernel_rfl) (fun _ _ _ h => by cases h.1) (Or.inl ⟨by kernel_rfl, ?_⟩) hS ?_); rotate_left; (focus (intro w' hSw; obtain ⟨q1, q2, q3, q4, q5⟩ := hSw; go_simp; (try with_reducible rfl))); (try simp only [Act.put, List.getElem_toArray, List.getElem_cons_zero, List.getElem_cons_succ, List.setIfInBounds_toArray, List.set_cons_zero, List.set_cons_succ])
    (refine anyS_take (i := 6) (v := ?_) rfl (by kernel_rfl) (by kernel_rfl) (by kernel_rfl) (fun _ _ _ h => by cases h.1) (Or.inl ⟨by kernel_rfl, ?_⟩) hS ?_); rotate_left; (focus (intro w' hSw; obtain ⟨q1, q2, q3, q4, q5⟩ := hSw; go_simp; (try with_reducible rfl))); (try simp only [Act.put, List.getElem_toArray, List.getElem_cons_zero, List.getElem_cons_succ, List.setIfInBounds_toArray, List.set_cons_zero, List.set_cons_succ])
    (refine anyS_take (i := 7) (v := ?_) rfl (by kernel_rfl) (by kernel_rfl) (by kernel_rfl) (fun _ _ _ h => by cases h.1) (Or.inl ⟨by kernel_rfl, ?_⟩) hS ?_); rotate_left; (focus (intro w' hSw; obtain ⟨q1, q2, q3, q4, q5⟩ := hSw; go_simp; (try with_reducible rfl))); (try simp only [Act.put, List.getElem_toArray, List.getElem_cons_zero, List.getElem_cons_succ, List.setIfInBounds_toArray, List.set_cons_zero, List.set_cons_succ])
    (refine anyS_take (i := 8) (v := ?_) rfl (by kernel_rfl) (by kernel_rfl) (by kernel_rfl) (fun _ _ _ h => by cases h.1) (Or.inl ⟨by kernel_rfl, ?_⟩) hS ?_); rotate_left; (focus (intro w' hSw; obtain ⟨q1, q2, q3, q4, q5⟩ := hSw; go_simp; (try with_reducible rfl))); (try simp only [Act.put, List.getElem_toArray, List.getElem_cons_zero, List.getElem_cons_succ, List.setIfInBounds_toArray, List.set_cons_zero, List.set_cons_succ])
    (refine anyS_take (i := 9) (v := ?_) rfl (by kernel_rfl) (by kernel_rfl) (by kernel_rfl) (fun _ _ _ h => by cases h.1) (Or.inl ⟨by kernel_rfl, ?_⟩) hS ?_); rotate_left; (focus (intro w' hSw; obtain ⟨q1, q2, q3, q4, q5⟩ := hSw; go_simp; (try with_reducible rfl))); (try simp only [Act.put, List.getElem_toArray, List.getElem_cons_zero, List.getElem_cons_succ, List.setIfInBounds_toArray, List.set_cons_zero, List.set_cons_succ])
    (refine anyS_take (i := 10) (v := ?_) rfl (by kernel_rfl) (by kernel_rfl) (by kernel_rfl) (fun _ _ _ h => by cases h.1) (Or.inl ⟨by kernel_rfl, ?_⟩) hS ?_); rotate_left; (focus (intro w' hSw; obtain ⟨q1, q2, q3, q4, q5⟩ := hSw; go_simp; (try with_reducible rfl))); (try simp only [Act.put, List.getElem_toArray, List.getElem_cons_zero, List.getElem_cons_succ, List.setIfInBounds_toArray, List.set_cons_zero, List.set_cons_succ])
    (refine anyS_take (i := 12) (v := ?_) rfl (by kernel_rfl) (by kernel_rfl) (by kernel_rfl) (fun _ _ _ h => by cases h.1) (Or.inl ⟨by kernel_rfl, ?_⟩) hS ?_); rotate_left; (focus (intro w' hSw; obtain ⟨q1, q2, q3, q4, q5⟩ := hSw; go_simp; (try with_reducible rfl))); (try simp only [Act.put, List.getElem_toArray, List.getElem_cons_zero, List.getElem_cons_succ, List.setIfInBounds_toArray, List.set_cons_zero, List.set_cons_succ])
    refine anyS_one (i := 11) (by kernel_rfl) rfl (by kernel_rfl) (fun K hK => ?_)
    go_simp
    refine ⟨trivial, (callsIn_wide.2 cus).mono ?_⟩
    rintro e w' ⟨rfl, hw'⟩
    subst hw'
    refine hK _ _ ⟨hS, ?_⟩
    clear hK K
    (try simp only [Act.put, List.getElem_toArray, List.getElem_cons_zero, List.getElem_cons_succ, List.setIfInBounds_toArray, List.set_cons_zero, List.set_cons_succ])
    refine anyS_one (i := 13) (by kernel_rfl) rfl (by kernel_rfl) (fun K hK => ?_)
    go_simp
    refine ⟨trivial, (callsIn_wide.2 cur).mono ?_⟩
    rintro e w' ⟨rfl, hw'⟩
    subst hw'
    refine hK _ _ ⟨hS, ?_⟩
    clear hK K
    (try simp only [Act.put, List.getElem_toArray, List.getElem_cons_zero, List.getElem_cons_succ, List.setIfInBounds_toArray, List.set_cons_zero, List.set_cons_succ])
    (refine anyS_take (i := 14) (v := ?_) rfl (by kernel_rfl) (by kernel_rfl) (by kernel_rfl) (fun _ _ _ h => by cases h.1) (Or.inl ⟨by kernel_rfl, ?_⟩) hS ?_); rotate_left; (focus (intro w' hSw; obtain ⟨q1, q2, q3, q4, q5⟩ := hSw; go_simp; (try with_reducible rfl))); (try simp only [Act.put, List.getElem_toArray, List.getElem_cons_zero, List.getElem_cons_succ, List.setIfInBounds_toArray, List.set_cons_zero, List.set_cons_succ])
    (refine anyS_take (i := 15) (v := ?_) rfl (by kernel_rfl) (by kernel_rfl) (by kernel_rfl) (fun _ _ _ h => by cases h.1) (Or.inl ⟨by kernel_rfl, ?_⟩) hS ?_); rotate_left; (focus (intro w' hSw; obtain ⟨q1, q2, q3, q4, q5⟩ := hSw; go_simp; (try with_reducible rfl))); (try simp only [Act.put, List.getElem_toArray, List.getElem_cons_zero, List.getElem_cons_succ, List.setIfInBounds_toArray, List.set_cons_zero, List.set_cons_succ])
    (refine anyS_take (i := 16) (v := ?_) rfl (by kernel_rfl) (by kernel_rfl) (by kernel_rfl) (fun _ _ _ h => by cases h.1) (Or.inl ⟨by kernel_rfl, ?_⟩) hS ?_); rotate_left; (focus (intro w' hSw; obtain ⟨q1, q2, q3, q4, q5⟩ := hSw; go_simp; (try with_reducible rfl))); (try simp only [Act.put, List.getElem_toArray, List.getElem_cons_zero, List.getElem_cons_succ, List.setIfInBounds_toArray, List.set_cons_zero, List.set_cons_succ])
    (refine anyS_take (i := 17) (v := ?_) rfl (by kernel_rfl) (by kernel_rfl) (by kernel_rfl) (fun _ _ _ h => by cases h.1) (Or.inl ⟨by kernel_rfl, ?_⟩) hS ?_); rotate_left; (focus (intro w' hSw; obtain ⟨q1, q2, q3, q4, q5⟩ := hSw; go_simp; (try with_reducible rfl))); (try simp only [Act.put, List.getElem_toArray, List.getElem_cons_zero, List.getElem_cons_succ, List.setIfInBounds_toArray, List.set_cons_zero, List.set_cons_succ])
    (refine anyS_take (i := 19) (v := ?_) rfl (by kernel_rfl) (by kernel_rfl) (by kernel_rfl) (fun _ _ _ h => by cases h.1) (Or.inl ⟨by kernel_rfl, ?_⟩) hS ?_); rotate_left; (focus (intro w' hSw; obtain ⟨q1, q2, q3, q4, q5⟩ := hSw; go_simp; (try with_reducible rfl))); (try simp only [Act.put, List.getElem_toArray, List.getElem_cons_zero, List.getElem_cons_succ, List.setIfInBounds_toArray, List.set_cons_zero, List.set_cons_succ])
    (refine anyS_take (i := 20) (v := ?_) rfl (by kernel_rfl) (by kernel_rfl) (by kernel_rfl) (fun _ _ _ h => by cases h.1) (Or.inl ⟨by kernel_rfl, ?_⟩) hS ?_); rotate_left; (focus (intro w' hSw; obtain ⟨q1, q2, q3, q4, q5⟩ := hSw; go_simp; (try with_reducible rfl))); (try simp only [Act.put, List.getElem_toArray, List.getElem_cons_zero, List.getElem_cons_succ, List.setIfInBounds_toArray, List.set_cons_zero, List.set_cons_succ])
    (refine anyS_take (i := 21) (v := ?_) rfl (by kernel_rfl) (by kernel_rfl) (by kernel_rfl) (fun _ _ _ h => by cases h.1) (Or.inl ⟨by kernel_rfl, ?_⟩) hS ?_); rotate_left; (focus (intro w' hSw; obtain ⟨q1, q2, q3, q4, q5⟩ := hSw; go_simp; (try with_reducible rfl))); (try simp only [Act.put, List.getElem_toArray, List.getElem_cons_zero, List.getElem_cons_succ, List.setIfInBounds_toArray, List.set_cons_zero, List.set_cons_succ])
    (refine anyS_take (i := 22) (v := ?_) rfl (by kernel_rfl) (by kernel_rfl) (by kernel_rfl) (fun _ _ _ h => by cases h.1) (Or.inl ⟨by kernel_rfl, ?_⟩) hS ?_); rotate_left; (focus (intro w' hSw; obtain ⟨q1, q2, q3, q4, q5⟩ := hSw; go_simp; (try with_reducible rfl))); (try simp only [Act.put, List.getElem_toArray, List.getElem_cons_zero, List.getElem_cons_succ, List.setIfInBounds_toArray, List.set_cons_zero, List.set_cons_succ])
    (refine anyS_take (i := 23) (v := ?_) rfl (by kernel_rfl) (by kernel_rfl) (by kernel_rfl) (fun _ _ _ h => by cases h.1) (Or.inl ⟨by kernel_rfl, ?_⟩) hS ?_); rotate_left; (focus (intro w' hSw; obtain ⟨q1, q2, q3, q4, q5⟩ := hSw; go_simp; (try with_reducible rfl))); (try simp only [Act.put, List.getElem_toArray, List.getElem_cons_zero, List.getElem_cons_succ, List.setIfInBounds_toArray, List.set_cons_zero, List.set_cons_succ])
    (refine anyS_take (i := 24) (v := ?_) rfl (by kernel_rfl) (by kernel_rfl) (by kernel_rfl) (fun _ _ _ h => by cases h.1) (Or.inl ⟨by kernel_rfl, ?_⟩) hS ?_); rotate_left; (focus (intro w' hSw; obtain ⟨q1, q2, q3, q4, q5⟩ := hSw; go_simp; (try with_reducible rfl))); (try simp only [Act.put, List.getElem_toArray, List.getElem_cons_zero, List.getElem_cons_succ, List.setIfInBounds_toArray, List.set_cons_zero, List.set_cons_succ])
    refine anyS_one (i := 18) (by kernel_rfl) rfl (by kernel_rfl) (fun K hK => ?_)
    go_simp
    refine ⟨trivial, (callsIn_wide.2 csp).mono ?_⟩
    rintro e w' ⟨rfl, hw'⟩
    subst hw'
    refine hK _ _ ⟨hS, ?_⟩
    clear hK K
    (try simp only [Act.put, List.getElem_toArray, List.getElem_cons_zero, List.getElem_cons_succ, List.setIfInBounds_toArray, List.set_cons_zero, List.set_cons_succ])
    (refine anyS_take (i := 25) (v := ?_) rfl (by kernel_rfl) (by kernel_rfl) (by kernel_rfl) (fun _ _ _ h => by cases h.1) (Or.inl ⟨by kernel_rfl, ?_⟩) hS ?_); rotate_left; (focus (intro w' hSw; obtain ⟨q1, q2, q3, q4, q5⟩ := hSw; go_simp; (try with_reducible rfl))); (try simp only [Act.put, List.getElem_toArray, List.getElem_cons_zero, List.getElem_cons_succ, List.setIfInBounds_toArray, List.set_cons_zero, List.set_cons_succ])
    (refine anyS_take (i := 26) (v := ?_) rfl (by kernel_rfl) (by kernel_rfl) (by kernel_rfl) (fun _ _ _ h => by cases h.1) (Or.inl ⟨by kernel_rfl, ?_⟩) hS ?_); rotate_left; (focus (intro w' hSw; obtain ⟨q1, q2, q3, q4, q5⟩ := hSw; go_simp; (try with_reducible rfl))); (try simp only [Act.put, List.getElem_toArray, List.getElem_cons_zero, List.getElem_cons_succ, List.setIfInBounds_toArray, List.set_cons_zero, List.set_cons_succ])
    refine anyS_one (i := 27) (by kernel_rfl) rfl (by kernel_rfl) (fun K hK => ?_)
    go_simp
    obtain ⟨hD, lwd, hrb, l7⟩ := FD.out
    have kk := KA.out (.slice vo2 n vc2)
    have hS2 := And.intro ((kk _ 0 (by omega) (by omega)).trans hS.1) (And.intro ((kk _ 0 (by omega) (by omega)).trans hS.2.1) (And.intro ((kk _ 0 (by omega) (by omega)).trans hS.2.2.1) (And.intro ((kk rb 0 (by omega) (by omega)).trans hS.2.2.2.1) ((kk rb 1 (by omega) (by omega)).trans hS.2.2.2.2))))
    refine hK _ _ ⟨hS2, ?_⟩
    clear hK K
    (try simp only [Act.put, List.getElem_toArray, List.getElem_cons_zero, List.getElem_cons_succ, List.setIfInBounds_toArray, List.set_cons_zero, List.set_cons_succ])
    refine anyS_one (i := 28) (by kernel_rfl) rfl (by kernel_rfl) (fun K hK => ?_)
    go_simp
    refine hK _ _ ⟨?_, ?_⟩
    · have ub := UB.out (.slice vo2 n vc2) (.bool true)
      have kk2 : ∀ (k j : Nat), k < w'.heap.size → k ≠ W.heap.size + 2 → k ≠ W.heap.size + 3 → ((w'.setCell ⟨W.heap.size + 2, 0, none⟩ (.slice vo2 n vc2)).setCell ⟨W.heap.size + 3, 0, none⟩ (.bool true)).cell? ⟨k, j, none⟩ = w'.cell? ⟨k, j, none⟩ := fun k j h1 h2 h3 => World.cell?_of_block (ub.block k h1 (by omega))
      exact ⟨(kk2 _ 0 (by omega) (by omega) (by omega)).trans hS.1, (kk2 _ 0 (by omega) (by omega) (by omega)).trans hS.2.1, (kk2 _ 0 (by omega) (by omega) (by omega)).trans hS.2.2.1, (kk2 rb 0 (by omega) (by omega) (by omega)).trans hS.2.2.2.1, (kk2 rb 1 (by omega) (by omega) (by omega)).trans hS.2.2.2.2⟩
    · clear hK K
      (try simp only [Act.put, List.getElem_toArray, List.getElem_cons_zero, List.getElem_cons_succ, List.setIfInBounds_toArray, List.set_cons_zero, List.set_cons_succ])
      refine anyS_done (by kernel_rfl) ⟨rfl, ?_⟩ _
      go_wp2
      have ub := UB.out (.slice vo2 n vc2) (.bool true)
      have e2 := heap_set (c := [_]) lwd.c2 0 (.slice vo2 n vc2)
      have uS1 : Upd (fun k => k = W.heap.size + 2) w' (w'.setCell ⟨W.heap.size + 2, 0, none⟩ (.slice vo2 n vc2)) := (Upd.refl (fun k => k = W.heap.size + 2) w').setCell (p := ⟨W.heap.size + 2, 0, none⟩) (.inl rfl) _
      have e3' := (uS1.block (W.heap.size + 3) (by omega) (by omega)).trans lwd.c3
      have e3 := heap_set (c := [_]) e3' 0 (.bool true)
      have uS2 : Upd (fun k => k = W.heap.size + 3) (w'.setCell ⟨W.heap.size + 2, 0, none⟩ (.slice vo2 n vc2)) ((w'.setCell ⟨W.heap.size + 2, 0, none⟩ (.slice vo2 n vc2)).setCell ⟨W.heap.size + 3, 0, none⟩ (.bool true)) := (Upd.refl (fun k => k = W.heap.size + 3) _).setCell (p := ⟨W.heap.size + 3, 0, none⟩) (.inl rfl) _
      have e2' := (uS2.block (W.heap.size + 2) (Array.getElem?_eq_some_iff.1 e2).1 (by omega)).trans e2
      have hlt := (Array.getElem?_eq_some_iff.1 hD).1
      have hDF := (ub.block W8.heap.size hlt (by rw [Z8.out]; omega)).trans hD
      clear uS1 uS2 e3' e2 hS2 hS kk
      generalize ((w'.setCell ⟨W.heap.size + 2, 0, none⟩ (.slice vo2 n vc2)).setCell ⟨W.heap.size + 3, 0, none⟩ (.bool true)) = F at *
      refine ⟨by simp, .inl ⟨_, _, rfl, run_takeDeferred hDF, ?_⟩⟩
      have uP : Upd (fun k => k = W8.heap.size) F (F.putObj W8.heap.size (.deferred none)) := upd_put (S := fun k => k = W8.heap.size) rfl _
      have g1 := (uP.block (W.heap.size + 2) (Array.getElem?_eq_some_iff.1 e2').1 (by rw [Z8.out]; omega)).trans e2'
      have g2 := (uP.block (W.heap.size + 3) (Array.getElem?_eq_some_iff.1 e3).1 (by rw [Z8.out]; omega)).trans e3
      have uT : Upd (fun k => (k = W.heap.size + 2 ∨ k = W.heap.size + 3) ∨ k = W8.heap.size) w' (F.putObj W8.heap.size (.deferred none)) := (ub.mono (fun k e => .inl e)).trans' (uP.mono (fun k e => .inr e))
      have hz8 := Z8.out
      refine ⟨_, two_ret rfl _ _ (W.heap.size + 2) (W.heap.size + 3) _ _ rfl rfl g1 g2, _, rfl, lwd.low.trans (uT.below lwd.low.size (fun k e => by omega)), ?_⟩
      have hr := owns_on lwd.row (W' := F.putObj W8.heap.size (.deferred none)) (fun k e => uT.block k (lwd.row.lt k e).2 (by have := (lwd.row.lt k e).1; omega))
      rw [HTN.out]
      rw [List.take_of_length_le (by rw [HTN.out]; exact Nat.le_refl _)] at hr
      exact owns_base hr (fun k e => by have := (lwd.row.lt k e).1; omega)
  case stop => intro c W' hF; exact hF.elim
end Go.Proofs.Ytmeoonnofiicpaa.W.R5
