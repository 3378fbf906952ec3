import Derived.Test.YtaebnnkhjlidiabBase27
import Derived.Test.YtaebnnkhjlidiabBase13
import Derived.Test.YtaebnnkhjlidiabBase14
import Derived.Test.YtaebnnkhjlidiabBase25
import Derived.Laws.MakeOwn
/- slices.AppendSeq over a row's words; load and Get, of a row. -/
namespace Go.Proofs.Ytaebnnkhjlidiab.W
open Go.ChangeShapes Go.WideShapes Go.RowKit Go.Shelf
set_option linter.unusedVariables false
/-- an append in a round -/
theorem gi_append {P : Program} {F : Fence} {n : Nat} {L : Option Nat} (w : World) {o : Oper} {a : Act} {K : Act → World → Prop} {Q : Exit → Act → World → Prop} (s x : Operand) (t tn : TypeId)
    (ho : o.op = .call { callee := .builtin .append, args := #[s, x], argTypes := #[t, tn] }) (vs vx : Value) (hs : a.eval s = vs) (hx : a.eval x = vx)
    (v' : Value) (w' : World) (hr : (Builtin.append_ #[t, tn] o.type #[vs, vx]).run P w = .ok v' w') (h : K (a.put o.dst v') w') : o.uponIn F n P a K Q ((Oper.semAt L a.eval o).run P w) := by
  rw [Oper.semAt_eq _ _ _ (fun c e => by rw [ho] at e; cases e)]
  unfold execOp
  simp only [ho, resolve, invoke, builtin, Sem.run_bind, Sem.run_pure, Result.andThen_ok, List.map_toArray, List.map_cons, List.map_nil, hs, hx, hr]
  exact h
/-- a word is put behind a row of words -/
theorem append_one (W : World) (ty : TypeId) (v : Value) (n : Nat) (xs : List Value) {B0 : Nat} (hown : W.ownsRow B0 30 1 v n xs) (x : Nat) (hn : n ≤ 2000000) : ∃ v' w', (Builtin.append_ #[28, 28] ty #[v, .slice (some ⟨W.heap.size, 0, none⟩) 1 1]).run Try.prog (W.alloc (.cells #[.int .u64 (x : Nat)] 30)) = .ok v' w' ∧ w'.ownsRow 0 30 1 v' (n + 1) (xs ++ [.int .u64 (x : Nat)]) ∧ (W.alloc (.cells #[.int .u64 (x : Nat)] 30)).grownBy w' v.ownBlock ∧ (∀ k, v'.ownBlock = some k → v.ownBlock = some k ∨ ((W.alloc (.cells #[.int .u64 (x : Nat)] 30)).heap.size ≤ k ∧ k < w'.heap.size)) := by
  obtain ⟨i0, hi, hz0, hz1, hz2⟩ := info_parts infoW
  have e0 := World.cell?_alloc_new W #[.int .u64 (x : Nat)] 30
  have ho := hown.alloc (.cells #[.int .u64 (x : Nat)] 30)
  exact append_at (P := Try.prog) (W.alloc (.cells #[.int .u64 (x : Nat)] 30)) 28 ty 30 i0 (.int .u64 0) 1 8 underW hi hz0 hz1 hz2 rfl (by omega) v n xs (owns_base ho (fun _ _ => Nat.zero_le _)) ⟨W.heap.size, 0, none⟩ 1 1 [.int .u64 (x : Nat)] (by simp) (by
    intro j y hj
    have hj0 : j = 0 := by have := (List.getElem?_eq_some_iff.1 hj).1; simp at this; exact this
    subst hj0
    simp at hj
    subst hj
    have e1 : ((⟨W.heap.size, 0, none⟩ : Addr).add 0) = ⟨W.heap.size, 0, none⟩ := by unfold Addr.add; split <;> simp_all
    rw [e1, e0 0]; rfl) (by intro y hy; simp at hy; rw [hy]; rfl) (by omega) (by omega) (by omega)
section
variable {W W' : World} {hb sb : Nat} {vc : Value} {T : Nat → Prop} {H : List (Option Hc)} {u h : Nat}
/-- along AppendSeq: i words are there -/
structure AqI (B0 : Nat) (W : World) (hb sb : Nat) (vc : Value) (T : Nat → Prop) (H : List (Option Hc)) (u h id Bh Bi Bs : Nat) (ws : List Nat) (i : Nat) (W' : World) : Prop where
  lay : HLay W' hb sb vc T H u h
  b0 : Boxed W' Bh 24 (.pointer (some ⟨hb, 0, none⟩))
  b1 : Boxed W' Bi 3 (.int .i64 id)
  s : ∃ v, Boxed W' Bs 28 v ∧ W'.ownsRow B0 30 1 v i ((ws.take i).map (fun x => .int .u64 (x : Nat)))
  bel : Below B0 W W'
theorem AqI.upd {B0 id Bh Bi Bs i : Nat} {ws : List Nat} {w2 : World} {S : Nat → Prop} (hlo : hb < B0 ∧ (∀ k, vc.ownBlock = some k → k < B0) ∧ ∀ k, T k → k < B0) (q : AqI B0 W hb sb vc T H u h id Bh Bi Bs ws i W') (hu : Upd S W' w2) (hS : ∀ k, S k → B0 ≤ k) (h0 : ¬ S Bh) (h1 : ¬ S Bi) (h2 : ¬ S Bs) (h3 : ∀ v, Boxed W' Bs 28 v → ∀ k, v.ownBlock = some k → ¬ S k) (hz : B0 ≤ W.heap.size) : AqI B0 W hb sb vc T H u h id Bh Bi Bs ws i w2 := by
  obtain ⟨v, hv1, hv2⟩ := q.s
  have z := q.bel.size
  refine ⟨q.lay.upd hu (fun e => by have := hS _ e; omega) (fun k e e2 => by have := hlo.2.1 k e; have := hS _ e2; omega) (fun k e e2 => by have := hlo.2.2 k e; have := hS _ e2; omega), box_of (hu.block _ q.b0.lt h0) q.b0, box_of (hu.block _ q.b1.lt h1) q.b1, ⟨v, box_of (hu.block _ hv1.lt h2) hv1, owns_on hv2 (fun k e => hu.block k (hv2.lt k e).2 (h3 v hv1 k e))⟩, q.bel.trans (hu.below (by omega) hS)⟩
set_option maxRecDepth 100000 in
set_option maxHeartbeats 1000000 in
theorem appendSeq_c (g : HLay W hb sb vc T H u h) (id : Nat) (ws : List Nat) (hrow : H[id]? = some (some (.row ws))) (hl : ws.length ≤ 1048576) (h64 : ∀ x ∈ ws, x < 18446744073709551616) (B0 : Nat) (hz : B0 ≤ W.heap.size) (hlo : hb < B0 ∧ (∀ k, vc.ownBlock = some k → k < B0) ∧ ∀ k, T k → k < B0) (Bh Bi : Nat) (x0 : Boxed W Bh 24 (.pointer (some ⟨hb, 0, none⟩))) (x1 : Boxed W Bi 3 (.int .i64 id)) (hBh : B0 ≤ Bh) (hBi : B0 ≤ Bi) (v0 : Value) (hown : W.ownsRow B0 30 1 v0 0 []) :
    Calls Try.prog 88 #[v0, .func (.func 80) #[] #[.pointer (some ⟨Bh, 0, none⟩), .pointer (some ⟨Bi, 0, none⟩)]] W fun e w' => ∃ v, e = .returned v ∧ Below B0 W w' ∧ w'.ownsRow B0 30 1 v ws.length (ws.map (fun x => .int .u64 (x : Nat))) := by
  obtain ⟨ov, cv, hv0⟩ := slice_of (owns_base hown (b' := 0) (fun _ _ => Nat.zero_le _))
  subst hv0
  refine (callsIn_wide (n := 9)).1 ?_
  refine callsIn_of_wp_marks Try.func88 rfl trivial ?_ rfl
  refine wpIn_wide.2 ?_
  simp only [Try.ntmps88, List.size_toArray, List.length_cons, List.length_nil, Nat.reduceAdd, Nat.reduceSub, Array.replicate_succ, Array.replicate_zero, List.push_toArray, List.append_toArray, List.nil_append, List.cons_append]
  go_wp2
  have bA : Below W.heap.size W (W.alloc (.cells #[.slice ov 0 cv] 28)) := (Below.refl _ W).alloc (Nat.le_refl _) _
  have q0 : AqI B0 W hb sb vc T H u h id Bh Bi W.heap.size ws 0 (W.alloc (.cells #[.slice ov 0 cv] 28)) := ⟨g.below bA, box_of (bA.block _ x0.lt) x0, box_of (bA.block _ x1.lt) x1, ⟨_, Boxed.new _ _ _, by simpa using hown.alloc _⟩, bA.mono hz⟩
  have zA : (W.alloc (.cells #[.slice ov 0 cv] 28)).heap.size = W.heap.size + 1 := World.size_alloc ..
  have ltB := x0.lt
  have ltI := x1.lt
  generalize W.alloc (.cells #[.slice ov 0 cv] 28) = WA at *
  refine words_law (hb := hb) (sb := sb) (vc := vc) (T := T) (u := u) (h := h) (pt := 7) (W0 := WA) (Bh := Bh) (Bi := Bi) (id := id) ws hrow rfl (fun i W' => AqI B0 W hb sb vc T H u h id Bh Bi W.heap.size ws i W' ∧ ∀ v, Boxed W' W.heap.size 28 v → ∀ k, v.ownBlock = some k → k ≠ WA.heap.size ∧ k ≠ WA.heap.size + 1) (fun _ _ => False) ?hL ?hI (fun c W W' h _ => h) ?h0 5 ?assign ?body ?done (fun c W h => h.elim)
  case h0 =>
    refine ⟨q0, fun v hv k e => ?_⟩
    obtain ⟨v', h1, h2⟩ := q0.s
    have e1 : v = v' := by
      unfold Boxed at hv h1
      rw [hv] at h1
      simpa using h1
    subst e1
    have := (h2.lt k e).2
    omega
  case hL =>
    rintro i W' ⟨q, _⟩
    exact ⟨q.lay, q.b0.cell, q.b1.cell⟩
  case hI =>
    rintro i Wa Wb ⟨q, hq⟩ hu
    refine ⟨q.upd hlo hu (fun k e => by omega) (by omega) (by omega) (by omega) (fun v hv k e => (hq v hv k e).2) hz, fun v hv k e => ?_⟩
    have hv' : Boxed Wa W.heap.size 28 v := by
      obtain ⟨v', h1, _⟩ := q.s
      exact (hu.block _ h1.lt (by omega)).symm.trans hv
    exact hq v hv' k e
  case assign =>
    intro L x W' K hK
    gi_wp2_with (simp only [Oper.semAt]; go_simp)
    exact hK
  case done =>
    rintro W' ⟨q, hq⟩ hD
    obtain ⟨v, hv1, hv2⟩ := q.s
    rw [List.take_of_length_le (Nat.le_refl _)] at hv2
    have c2 := hv1.cell
    obtain ⟨o9, c9, e9⟩ := slice_of (owns_base hv2 (b' := 0) (fun _ _ => Nat.zero_le _))
    subst e9
    have Q := hid q
    have HV := hid hv2
    have hkn := hid (hq _ hv1)
    clear q hv1 hv2 hq
    generalize hnn : ws.length = nn at *
    go_wp2
    refine ⟨by simp, .inl ⟨_, _, rfl, run_takeDeferred hD, ?_⟩⟩
    subst hnn
    have hu : Upd (fun k => k = WA.heap.size) W' (W'.putObj WA.heap.size (.deferred none)) := upd_put (S := fun k => k = WA.heap.size) rfl _
    refine ⟨_, results_tmp rfl _ _ _, _, rfl, Q.out.bel.trans (hu.below (by have := Q.out.bel.size; omega) (fun k e => by omega)), ?_⟩
    exact owns_on HV.out (fun k e => hu.block k (HV.out.lt k e).2 (hkn.out k e).1)
  case body =>
    rintro L i hi W' hLe ⟨q, hq⟩ hs hr
    simp only [wAct, List.setIfInBounds_toArray, List.set_cons_succ, List.set_cons_zero]
    obtain ⟨v, hv1, hv2⟩ := q.s
    obtain ⟨o9, c9, e9⟩ := slice_of (owns_base hv2 (b' := 0) (fun _ _ => Nat.zero_le _))
    subst e9
    have hx64 := h64 _ (List.getElem_mem hi)
    have tk : Hid (ws.take (i + 1) = ws.take i ++ [ws[i]]) := hid (List.take_succ_eq_append_getElem hi)
    generalize ws[i] = x at *
    have hB1 : Below W'.heap.size W' (W'.alloc (.cells #[.int .u64 (x : Nat)] 30)) := (Below.refl _ W').alloc (Nat.le_refl _) _
    have z1 : (W'.alloc (.cells #[.int .u64 (x : Nat)] 30)).heap.size = W'.heap.size + 1 := World.size_alloc ..
    obtain ⟨v', w', hrun, ho', hg, hk⟩ := append_one W' 28 (.slice o9 i c9) i _ hv2 x (by omega)
    have hU1 : Upd (fun k => (Value.slice o9 i c9).ownBlock = some k) (W'.alloc (.cells #[.int .u64 (x : Nat)] 30)) w' := (Upd.refl _ _).grown hg (fun k e => .inl e)
    have hU : Upd (fun k => (Value.slice o9 i c9).ownBlock = some k) W' w' := (Upd.of_below hB1).trans' hU1
    have c2 := hv1.cell
    obtain ⟨o8, c8, e8⟩ := slice_of (owns_base ho' (b' := 0) (fun _ _ => Nat.zero_le _))
    subst e8
    have hne : ∀ k, (Value.slice o9 i c9).ownBlock = some k → k ≠ W.heap.size ∧ k ≠ Bh ∧ k ≠ Bi := fun k e => ⟨fun e2 => own_ne (owns_base hv2 (b' := 0) (fun _ _ => Nat.zero_le _)) hv1 (by decide) (by rw [e, e2]), fun e2 => own_ne (owns_base hv2 (b' := 0) (fun _ _ => Nat.zero_le _)) q.b0 (by decide) (by rw [e, e2]), fun e2 => own_ne (owns_base hv2 (b' := 0) (fun _ _ => Nat.zero_le _)) q.b1 (by decide) (by rw [e, e2])⟩
    have bx : Boxed w' W.heap.size 28 (.slice o9 i c9) := box_of (hU.block _ hv1.lt (fun e => (hne _ e).1 rfl)) hv1
    have cw := bx.cell
    have fw := bx.frozen
    gi_wp2_with (first | (with_reducible refine gi_append _ (.tmp 8) (.tmp 10) 28 28 rfl _ _ (by simp [Act.eval]) (by simp [Act.eval]) _ _ hrun ?_) | (simp only [Oper.semAt]; go_simp))
    have hq1 := hq _ hv1
    have hlt := fun k e => hv2.lt k e
    have hz' := q.bel.size
    have z2 := hU1.size
    have hloc : ∀ k, (Value.slice o8 (i + 1) c8).ownBlock = some k → k ≠ W.heap.size ∧ k ≠ WA.heap.size ∧ k ≠ WA.heap.size + 1 ∧ B0 ≤ k := by
      intro k e
      rcases hk k e with e | e
      · exact ⟨(hne k e).1, (hq1 k e).1, (hq1 k e).2, (hlt k e).1⟩
      · exact ⟨by omega, by omega, by omega, by omega⟩
    have hU2 : Upd (fun k => (Value.slice o9 i c9).ownBlock = some k ∨ k = W.heap.size) W' (w'.setCell ⟨W.heap.size, 0, none⟩ (.slice o8 (i + 1) c8)) :=
      (Upd.setCell (S := fun k => (Value.slice o9 i c9).ownBlock = some k ∨ k = W.heap.size) ⟨hU.os, hU.tape, hU.output, hU.size, fun k hk2 hn => hU.block k hk2 (fun e => hn (.inl e))⟩ (p := ⟨W.heap.size, 0, none⟩) (.inl (.inr rfl)) _)
    have bx2 : Boxed (w'.setCell ⟨W.heap.size, 0, none⟩ (.slice o8 (i + 1) c8)) W.heap.size 28 (.slice o8 (i + 1) c8) := heap_set (c := [.slice o9 i c9]) bx 0 (.slice o8 (i + 1) c8)
    refine ⟨⟨hU2.block _ (by omega) ?_, hU2.block _ (by omega) ?_⟩, ⟨q.lay.upd hU2 ?_ ?_ ?_, box_of (hU2.block _ q.b0.lt ?_) q.b0, box_of (hU2.block _ q.b1.lt ?_) q.b1, ⟨_, bx2, ?_⟩, q.bel.trans (hU2.below (by omega) ?_)⟩, ?_⟩
    · rintro (e | e)
      · exact (hq1 _ e).2 (by omega)
      · omega
    · rintro (e | e)
      · exact (hq1 _ e).1 (by omega)
      · omega
    · rintro (e | e)
      · have := (hlt _ e).1; omega
      · omega
    · rintro k e1 (e | e)
      · have := (hlt _ e).1; have := hlo.2.1 k e1; omega
      · have := hlo.2.1 k e1; omega
    · rintro k e1 (e | e)
      · have := (hlt _ e).1; have := hlo.2.2 k e1; omega
      · have := hlo.2.2 k e1; omega
    · rintro (e | e)
      · exact (hne _ e).2.1 rfl
      · omega
    · rintro (e | e)
      · exact (hne _ e).2.2 rfl
      · omega
    · rw [tk.out, List.map_append]
      exact owns_on (owns_base ho' (fun k e => (hloc k e).2.2.2)) (fun k e => Below.heap_setCell _ _ _ _ (hloc k e).1)
    · rintro k (e | e)
      · exact (hlt k e).1
      · omega
    · intro v hv k e
      have e1 : v = .slice o8 (i + 1) c8 := by
        unfold Boxed at hv bx2
        rw [hv] at bx2
        simpa using bx2
      subst e1
      exact ⟨(hloc k e).2.1, (hloc k e).2.2.1⟩
end
end Go.Proofs.Ytaebnnkhjlidiab.W
/- Package heap: load and Get, of a row. -/
namespace Go.Proofs.Ytaebnnkhjlidiab.W
open Go.ChangeShapes Go.WideShapes Go.RowKit Go.Shelf
set_option linter.unusedVariables false
section
variable {W W' : World} {hb sb : Nat} {vc : Value} {T : Nat → Prop} {H : List (Option Hc)} {u h : Nat}
theorem make_cap (w : World) (B0 n : Nat) (hn : n ≤ 1048576) (hB : B0 ≤ w.heap.size) : ∃ w', (Instr.makeSlice 28 (.int .i64 0) (.int .i64 (n : Int))).run Try.prog w = .ok (.slice (some ⟨w.heap.size, 0, none⟩) 0 n) w' ∧ w'.ownsRow B0 30 1 (.slice (some ⟨w.heap.size, 0, none⟩) 0 n) 0 [] ∧ Below w.heap.size w w' := by
  obtain ⟨i0, hi, hz0, hz1, hz2⟩ := info_parts infoW
  obtain ⟨w', h1, h2, h3⟩ := run_makeSlice_owned (P := Try.prog) w B0 28 30 i0 (.int .u64 0) 1 underW hi hz0 hz1 .i64 .i64 n (by omega) (by rw [hz2]; omega) (by simp [maxLen]; omega) hB
  exact ⟨w', h1, h2, ((Upd.refl (fun _ => False) w).grown h3 (fun k e => by cases e)).below (Nat.le_refl _) (fun k e => e.elim)⟩
/-- AppendSeq behind words and make, in whatever order they came -/
theorem seq_c (g : HLay W hb sb vc T H u h) (id : Nat) (ws : List Nat) (hrow : H[id]? = some (some (.row ws))) {w1 w2 : World} (b2 : Below W.heap.size W w2) (Bh Bi : Nat) (x0 : Boxed w2 Bh 24 (.pointer (some ⟨hb, 0, none⟩))) (x1 : Boxed w2 Bi 3 (.int .i64 id)) (hBh : W.heap.size ≤ Bh) (hBi : W.heap.size ≤ Bi) (v0 : Value) (hown : w2.ownsRow W.heap.size 30 1 v0 0 []) :
    Calls Try.prog 88 #[v0, .func (.func 80) #[] #[.pointer (some ⟨Bh, 0, none⟩), .pointer (some ⟨Bi, 0, none⟩)]] w2 fun e w' => ∃ o cap, e = .returned (.slice o ws.length cap) ∧ Below W.heap.size W w' ∧ w'.ownsRow W.heap.size 30 1 (.slice o ws.length cap) ws.length (ws.map (fun x => .int .u64 (x : Nat))) := by
  have ok := g.ok id _ hrow
  refine (appendSeq_c (g.below b2) id ws hrow ok.2 ok.1 W.heap.size b2.size ⟨g.hlt, g.clt, g.tlt⟩ Bh Bi x0 x1 hBh hBi v0 hown).mono ?_
  rintro e w' ⟨v, rfl, hB, ho⟩
  obtain ⟨o, c, rfl⟩ := slice_of (owns_base ho (b' := 0) (fun _ _ => Nat.zero_le _))
  exact ⟨o, c, rfl, b2.trans hB, ho⟩
set_option maxRecDepth 100000 in
set_option maxHeartbeats 2000000 in
theorem load_row (g : HLay W hb sb vc T H u h) (id : Nat) (ws : List Nat) (hc : H[id]? = some (some (.row ws))) :
    Calls Try.prog 58 #[.pointer (some ⟨hb, 0, none⟩), .int .i64 id] W fun e w' => ∃ o cap, e = .returned (.agg #[.int .i64 9, .bool false, .int .i64 0, .string ⟨#[]⟩, .slice none 0 0, .slice o ws.length cap, .int .u64 0, .int .i64 0, .int .i64 0]) ∧ Below W.heap.size W w' ∧ w'.ownsRow (W.heap.size + 1) 30 1 (.slice o ws.length cap) ws.length (ws.map (fun x => .int .u64 (x : Nat))) := by
  have hidl : id < H.length := (List.getElem?_eq_some_iff.1 hc).1
  obtain ⟨b, cap, hvc, hcell, _⟩ := g.at hidl
  have c1 := g.cell 1
  simp only [List.getElem?_cons_succ, List.getElem?_cons_zero] at c1
  rw [hvc] at c1
  have k0 := hcell 0 _ hc (by omega)
  have k1 := hcell 1 _ hc (by omega)
  have k2 := hcell 2 _ hc (by omega)
  have k3 := hcell 3 _ hc (by omega)
  have k4 := hcell 4 _ hc (by omega)
  simp only [clO, Hc.cl, Cl.cells, List.getElem?_cons_succ, List.getElem?_cons_zero, Nat.add_zero] at k0 k1 k2 k3 k4
  have j0 : (0 : Int) ≤ id := by omega
  have j1 : (id : Int) < H.length := by omega
  have ho := g.ok id _ hc
  have cs : ∀ w, Calls Try.prog 43 #[.int .i64 9, .bool false] w fun e w' => e = .returned (.int .i64 5) ∧ w' = w := fun w => shape_c 9 false w
  clear hcell
  have hB1 : Below W.heap.size W (W.alloc (.cells #[.int .i64 0, .bool false, .int .i64 0, .string ⟨#[]⟩, .slice none 0 0, .slice none 0 0, .int .u64 0, .int .i64 0, .int .i64 0] 32)) := (Below.refl _ W).alloc (Nat.le_refl _) _
  have hs1 : (W.alloc (.cells #[.int .i64 0, .bool false, .int .i64 0, .string ⟨#[]⟩, .slice none 0 0, .slice none 0 0, .int .u64 0, .int .i64 0, .int .i64 0] 32)).heap.size = W.heap.size + 1 := World.size_alloc ..
  have e1 := World.cell?_alloc_new W #[.int .i64 0, .bool false, .int .i64 0, .string ⟨#[]⟩, .slice none 0 0, .slice none 0 0, .int .u64 0, .int .i64 0, .int .i64 0] 32
  have f1 := World.alloc_heap_new W (.cells #[.int .i64 0, .bool false, .int .i64 0, .string ⟨#[]⟩, .slice none 0 0, .slice none 0 0, .int .u64 0, .int .i64 0, .int .i64 0] 32)
  go_enter Try.func58, Try.ntmps58
  go_upto_region 1 with fail
  have c1' := below_cell hB1 c1
  have k0' := below_cell hB1 k0
  have k1' := below_cell hB1 k1
  have k2' := below_cell hB1 k2
  have k3' := below_cell hB1 k3
  have k4' := below_cell hB1 k4
  generalize hW1 : W.alloc (.cells #[.int .i64 0, .bool false, .int .i64 0, .string ⟨#[]⟩, .slice none 0 0, .slice none 0 0, .int .u64 0, .int .i64 0, .int .i64 0] 32) = W1 at *
  clear c1 k0 k1 k2 k3 k4 hW1
  go_upto_region 2 with fail
  have hBc : Below W1.heap.size W1 (W1.alloc (.cells #[.int .i64 9, .bool false, .int .u64 0, .int .i64 0, .int .i64 0] 92)) := (Below.refl _ W1).alloc (Nat.le_refl _) _
  have fC := World.alloc_heap_new W1 (.cells #[.int .i64 9, .bool false, .int .u64 0, .int .i64 0, .int .i64 0] 92)
  rw [hs1] at fC
  have hsc : (W1.alloc (.cells #[.int .i64 9, .bool false, .int .u64 0, .int .i64 0, .int .i64 0] 92)).heap.size = W.heap.size + 2 := by rw [World.size_alloc, hs1]
  generalize World.alloc W1 _ = Wc at *
  have eC := fun j => cell_of_row Wc (W.heap.size + 1) j _ _ _ fC
  go_upto_region 3 with (go_at_call 86; (with_reducible refine (bare_c 9 false 0 0 0 _).mono ?_); rintro e wb ⟨rfl, hBb⟩)
  have hbz := hBb.size
  have fO := World.alloc_heap_new wb (.cells #[.int .i64 9, .bool false, .int .i64 0, .string ⟨#[]⟩, .slice none 0 0, .slice none 0 0, .int .u64 0, .int .i64 0, .int .i64 0] 32)
  have hBd : Below wb.heap.size wb (wb.alloc (.cells #[.int .i64 9, .bool false, .int .i64 0, .string ⟨#[]⟩, .slice none 0 0, .slice none 0 0, .int .u64 0, .int .i64 0, .int .i64 0] 32)) := (Below.refl _ wb).alloc (Nat.le_refl _) _
  have hB3 : Below W1.heap.size W1 (wb.alloc (.cells #[.int .i64 9, .bool false, .int .i64 0, .string ⟨#[]⟩, .slice none 0 0, .slice none 0 0, .int .u64 0, .int .i64 0, .int .i64 0] 32)) := (hBc.trans (hBb.mono (by omega))).trans (hBd.mono (by omega))
  have fC3 := (hBd.block (W.heap.size + 1) (by omega)).trans ((hBb.block (W.heap.size + 1) (by omega)).trans fC)
  obtain ⟨nb, hnb⟩ : ∃ nb, wb.heap.size = nb := ⟨_, rfl⟩
  rw [hnb] at fO
  rw [hnb]
  have hO2 : W.heap.size + 2 ≤ nb := by omega
  clear hnb hBd hBb hBc fC eC hsc hbz
  generalize World.alloc wb _ = W3 at *
  have eO := fun j => cell_of_row W3 nb j _ _ _ fO
  have eC3 := fun j => cell_of_row W3 (W.heap.size + 1) j _ _ _ fC3
  have hs3 := (Array.getElem?_eq_some_iff.1 fO).1
  have hs2 := hs3
  clear fC3
  have eR3 : ∀ j, W3.cell? ⟨W.heap.size, j, none⟩ = #[.int .i64 0, .bool false, .int .i64 0, .string ⟨#[]⟩, .slice none 0 0, .slice none 0 0, .int .u64 0, .int .i64 0, .int .i64 0][j]? := by
    intro j
    rw [World.cell?_of_block (hB3.block W.heap.size (by omega))]
    exact e1 j
  have hBW : Below W.heap.size W W3 := hB1.trans (hB3.mono hB1.size)
  have g3 := g.below hBW
  have fR : W3.heap[W.heap.size]? = some (.cells #[.int .i64 0, .bool false, .int .i64 0, .string ⟨#[]⟩, .slice none 0 0, .slice none 0 0, .int .u64 0, .int .i64 0, .int .i64 0] 32) := (hB3.block W.heap.size (by omega)).trans f1
  have c0 := g3.cell 0
  simp only [List.getElem?_cons_zero] at c0
  have hlen : (Hc.row ws).bytes.length = 8 * ws.length := row_len ws
  have hl : ws.length ≤ 1048576 := ho.2
  have cb := fun w hB => bytes_c ((g3.below hB : HLay w hb sb vc T H u h)) id _ hc
  rw [hlen] at cb
  have cq := fun (w2 : World) (b2 : Below W3.heap.size W3 w2) => seq_c (w1 := W3) g3 id ws hc b2
  have kp : Hid (∀ w4, Below W3.heap.size W3 w4 → w4.heap[W.heap.size]? = some (.cells #[.int .i64 0, .bool false, .int .i64 0, .string ⟨#[]⟩, .slice none 0 0, .slice none 0 0, .int .u64 0, .int .i64 0, .int .i64 0] 32) ∧ w4.heap[nb]? = some (.cells #[.int .i64 9, .bool false, .int .i64 0, .string ⟨#[]⟩, .slice none 0 0, .slice none 0 0, .int .u64 0, .int .i64 0, .int .i64 0] 32)) := by
    show ∀ w4, _
    intro w4 hB4
    exact ⟨(hB4.block _ (by omega)).trans fR, (hB4.block _ (by omega)).trans fO⟩
  have cw := fun w => words_c w hb id
  have q8 : Int.tdiv ((8 * ws.length : Nat) : Int) 8 = ((ws.length : Nat) : Int) := by rw [Int.tdiv_eq_ediv_of_nonneg (by omega)]; omega
  have bD : Below W3.heap.size W3 W3.drew := ⟨rfl, rfl, rfl, Nat.le_refl _, fun _ _ => rfl⟩
  clear eR3 fR fO e1 c1' k0' k1' k2' k3' k4' f1
  go_upto_region 12 with (go_at_call 43; (with_reducible refine (cs _).mono ?_); rintro e w' ⟨rfl, hw⟩; (have hw' := hw.symm); subst hw'; clear hw)
  have HBW := hid hBW
  have HS3 := hid hs3
  have HL := hid hl
  clear g g3 ho hc hBW hB1 hB3 hs1 hs2 hs3 j0 j1 hlen hl
  generalize hm8 : ((8 * ws.length : Nat) : Int) = m8 at *
  clear hm8
  generalize hnn : ws.length = nn at *
  have wnn : IntKind.i64.wrap (nn : Int) = (nn : Int) := by have := HL.out; rw [IntKind.wrap_i64]; omega
  have fin : Hid (∀ (w5 : World) (o : Option Addr) (cap : Nat), Below W3.heap.size W3 w5 → w5.ownsRow W3.heap.size 30 1 (.slice o nn cap) nn (ws.map (fun x => .int .u64 (x : Nat))) → w5.heap[W.heap.size]? = some (.cells #[.int .i64 0, .bool false, .int .i64 0, .string ⟨#[]⟩, .slice none 0 0, .slice none 0 0, .int .u64 0, .int .i64 0, .int .i64 0] 32) ∧ w5.heap[nb]? = some (.cells #[.int .i64 9, .bool false, .int .i64 0, .string ⟨#[]⟩, .slice none 0 0, .slice none 0 0, .int .u64 0, .int .i64 0, .int .i64 0] 32) ∧ Below W.heap.size W w5 ∧ ∀ q, (Value.slice o nn cap).ownBlock = some q → W.heap.size + 3 ≤ q ∧ nb < q) := by
    show ∀ (w5 : World), _
    intro w5 o cap hB5 hown
    obtain ⟨fR, fO⟩ := kp.out w5 hB5
    exact ⟨fR, fO, HBW.out.trans (hB5.mono HBW.out.size), fun q e => by have := (hown.lt q e).1; have := HS3.out; exact ⟨by omega, by omega⟩⟩
  clear kp
  refine wp_region_held_drew (S := fun _ => True) (by kernel_rfl) trivial ?_
  intro hS
  (refine wpAnyH_take (i := 0) (v := ?_) rfl (by kernel_rfl) (by kernel_rfl) (by kernel_rfl) (fun _ _ _ h => h) (Or.inl ⟨by rfl, ?_⟩) trivial ?_); rotate_left; focus (intro w' hSw; go_simp; (try with_reducible rfl)); (try simp only [Act.put, List.getElem_toArray, List.getElem_cons_zero, List.getElem_cons_succ, List.setIfInBounds_toArray, List.set_cons_zero, List.set_cons_succ])
  (refine wpAnyH_take (i := 1) (v := ?_) rfl (by kernel_rfl) (by kernel_rfl) (by kernel_rfl) (fun _ _ _ h => h) (Or.inl ⟨by rfl, ?_⟩) trivial ?_); rotate_left; focus (intro w' hSw; go_simp; (try with_reducible rfl)); (try simp only [Act.put, List.getElem_toArray, List.getElem_cons_zero, List.getElem_cons_succ, List.setIfInBounds_toArray, List.set_cons_zero, List.set_cons_succ])
  (refine wpAnyH_take (i := 5) (v := ?_) rfl (by kernel_rfl) (by kernel_rfl) (by kernel_rfl) (fun _ _ _ h => h) (Or.inl ⟨by rfl, ?_⟩) trivial ?_); rotate_left; focus (intro w' hSw; go_simp; (try with_reducible rfl)); (try simp only [Act.put, List.getElem_toArray, List.getElem_cons_zero, List.getElem_cons_succ, List.setIfInBounds_toArray, List.set_cons_zero, List.set_cons_succ])
  (refine wpAnyH_take (i := 6) (v := ?_) rfl (by kernel_rfl) (by kernel_rfl) (by kernel_rfl) (fun _ _ _ h => h) (Or.inl ⟨by rfl, ?_⟩) trivial ?_); rotate_left; focus (intro w' hSw; go_simp; (try with_reducible rfl)); (try simp only [Act.put, List.getElem_toArray, List.getElem_cons_zero, List.getElem_cons_succ, List.setIfInBounds_toArray, List.set_cons_zero, List.set_cons_succ])
  have bW3d := bD
  generalize W3.drew = W3d at *
  refine wpAnyH_ready (rs := [2]) (by kernel_rfl) (by simp) ?_
  refine AllReadyH.cons rfl (fun K hK => ?_) AllReadyH.nil
  · go_simp
    refine (cb _ bW3d).mono ?_
    rintro e w' ⟨rfl, hw⟩
    have hw' := hw.symm
    subst hw'
    clear hw
    refine hK.out _ _ trivial (fun _ => ?_)
    clear hK K
    (refine wpAnyH_take (i := 3) (v := ?_) rfl (by kernel_rfl) (by kernel_rfl) (by kernel_rfl) (fun _ _ _ h => h) (Or.inl ⟨by rfl, ?_⟩) trivial ?_); rotate_left; focus (intro w' hSw; go_simp; (try with_reducible rfl)); (try simp only [Act.put, List.getElem_toArray, List.getElem_cons_zero, List.getElem_cons_succ, List.setIfInBounds_toArray, List.set_cons_zero, List.set_cons_succ])
    refine wpAnyH_ready (rs := [4, 7]) (by kernel_rfl) (by simp) ?_
    refine AllReadyH.cons rfl (fun K hK => ?_) (AllReadyH.cons rfl (fun K hK => ?_) AllReadyH.nil)
    · obtain ⟨wm, hmk, hom, bmk⟩ := make_cap W3d W3.heap.size nn HL.out (bW3d.size)
      have bwm := bW3d.trans (bmk.mono bW3d.size)
      go_simp
      refine hK.out _ _ trivial (fun _ => ?_)
      clear hK K hmk
      (try simp only [Act.put, List.getElem_toArray, List.getElem_cons_zero, List.getElem_cons_succ, List.setIfInBounds_toArray, List.set_cons_zero, List.set_cons_succ])
      refine wpAnyH_ready (rs := [7]) (by kernel_rfl) (by simp) ?_
      refine AllReadyH.cons rfl (fun K hK => ?_) AllReadyH.nil
      go_simp
      refine (cw _).mono ?_
      rintro e ww ⟨rfl, hw⟩
      have bw1 : Below wm.heap.size wm ww := by
        rw [hw]
        exact ((Below.refl _ wm).alloc (Nat.le_refl _) _).alloc (by rw [World.size_alloc]; omega) _
      have xh : Boxed ww wm.heap.size 24 (.pointer (some ⟨hb, 0, none⟩)) := by
        rw [hw]
        exact box_of (Below.heap_alloc _ _ _ (by rw [World.size_alloc]; omega)) (Boxed.new wm _ _)
      have xi : Boxed ww (wm.heap.size + 1) 3 (.int .i64 id) := by
        have := Boxed.new (wm.alloc (.cells #[.pointer (some ⟨hb, 0, none⟩)] 24)) 3 (.int .i64 id)
        rw [World.size_alloc] at this
        rw [hw]
        exact this
      clear hw
      have bww := bwm.trans (bw1.mono bwm.size)
      refine hK.out _ _ trivial (fun _ => ?_)
      clear hK K
      (try simp only [Act.put, List.getElem_toArray, List.getElem_cons_zero, List.getElem_cons_succ, List.setIfInBounds_toArray, List.set_cons_zero, List.set_cons_succ])
      refine wpAnyH_ready (rs := [8]) (by kernel_rfl) (by simp) ?_
      refine AllReadyH.cons rfl (fun K hK => ?_) AllReadyH.nil
      go_simp
      refine (cq ww bww _ _ xh xi (by have := bwm.size; omega) (by have := bwm.size; omega) _ (owns_on hom (fun k e => bw1.block k (hom.lt k e).2))).mono ?_
      rintro e w5 ⟨o5, c5, rfl, b5, ho5⟩
      refine hK.out _ _ trivial (fun _ => ?_)
      clear hK K cq
      (try simp only [Act.put, List.getElem_toArray, List.getElem_cons_zero, List.getElem_cons_succ, List.setIfInBounds_toArray, List.set_cons_zero, List.set_cons_succ])
      obtain ⟨fR, fO, hBf, hge⟩ := fin.out w5 o5 c5 b5 ho5
      have eR := fun j => cell_of_row w5 W.heap.size j _ _ _ fR
      have eO := fun j => cell_of_row w5 (nb) j _ _ _ fO
      have zR : ∀ j, w5.frozen? ⟨W.heap.size, j, none⟩ = false := fun j => by simp [World.frozen?, fR]
      have zO : ∀ j, w5.frozen? ⟨nb, j, none⟩ = false := fun j => by simp [World.frozen?, fO]
      have FR := hid fR
      have HBf := hid hBf
      have HO := hid ho5
      have HG := hid hge
      clear fR fO hBf ho5 hge fin b5 bww bwm xh xi bmk bw1 hom bW3d
      (refine wpAnyH_take (i := 9) (v := ?_) rfl (by kernel_rfl) (by kernel_rfl) (by kernel_rfl) (fun _ _ _ h => h) (Or.inl ⟨by rfl, ?_⟩) trivial ?_); rotate_left; focus (intro w' hSw; go_simp; (try with_reducible rfl)); (try simp only [Act.put, List.getElem_toArray, List.getElem_cons_zero, List.getElem_cons_succ, List.setIfInBounds_toArray, List.set_cons_zero, List.set_cons_succ])
      refine wpAnyH_ready (rs := [10]) (by kernel_rfl) (by simp) ?_
      refine AllReadyH.cons rfl (fun K hK => ?_) AllReadyH.nil
      go_simp
      refine hK.out _ _ trivial (fun _ => ?_)
      clear hK K
      (try simp only [Act.put, List.getElem_toArray, List.getElem_cons_zero, List.getElem_cons_succ, List.setIfInBounds_toArray, List.set_cons_zero, List.set_cons_succ])
      refine wpAnyH_done (by kernel_rfl) ?_ _
      go_wp2
      subst hnn
      refine bodyPost_ret (cell_ret rfl _ _ W.heap.size _ _ _ _ _ _ _ _ _ (0, 0) rfl (nine_set ((Below.heap_setCell _ _ _ _ (by show W.heap.size ≠ nb; omega)).trans FR.out) _ _ _ _ _ _ _ _ _)) rfl ?_
      refine ⟨o5, c5, rfl, nine_below (HBf.out.setCell (p := ⟨nb, 5, none⟩) (by show W.heap.size ≤ nb; omega) _) (Nat.le_refl _) _ _ _ _ _ _ _ _ _, ?_⟩
      refine owns_on (owns_base HO.out (fun q e => by have := HG.out q e; omega)) (fun q e => ?_)
      have hq := HG.out q e
      refine (nine_far _ _ _ _ _ _ _ _ _ _ _ q (by omega)).trans (Below.heap_setCell _ _ _ _ ?_)
      show q ≠ nb
      omega
    · go_simp
      refine (cw _).mono ?_
      rintro e ww ⟨rfl, hw⟩
      have bw1 : Below W3d.heap.size W3d ww := by
        rw [hw]
        exact ((Below.refl _ W3d).alloc (Nat.le_refl _) _).alloc (by rw [World.size_alloc]; omega) _
      have xh : Boxed ww W3d.heap.size 24 (.pointer (some ⟨hb, 0, none⟩)) := by
        rw [hw]
        exact box_of (Below.heap_alloc _ _ _ (by rw [World.size_alloc]; omega)) (Boxed.new W3d _ _)
      have xi : Boxed ww (W3d.heap.size + 1) 3 (.int .i64 id) := by
        have := Boxed.new (W3d.alloc (.cells #[.pointer (some ⟨hb, 0, none⟩)] 24)) 3 (.int .i64 id)
        rw [World.size_alloc] at this
        rw [hw]
        exact this
      clear hw
      have bww := bW3d.trans (bw1.mono bW3d.size)
      refine hK.out _ _ trivial (fun _ => ?_)
      clear hK K
      (try simp only [Act.put, List.getElem_toArray, List.getElem_cons_zero, List.getElem_cons_succ, List.setIfInBounds_toArray, List.set_cons_zero, List.set_cons_succ])
      refine wpAnyH_ready (rs := [4]) (by kernel_rfl) (by simp) ?_
      refine AllReadyH.cons rfl (fun K hK => ?_) AllReadyH.nil
      obtain ⟨wm, hmk, hom, bmk⟩ := make_cap ww W3.heap.size nn HL.out (bww.size)
      have bwm := bww.trans (bmk.mono bww.size)
      go_simp
      refine hK.out _ _ trivial (fun _ => ?_)
      clear hK K hmk
      (try simp only [Act.put, List.getElem_toArray, List.getElem_cons_zero, List.getElem_cons_succ, List.setIfInBounds_toArray, List.set_cons_zero, List.set_cons_succ])
      refine wpAnyH_ready (rs := [8]) (by kernel_rfl) (by simp) ?_
      refine AllReadyH.cons rfl (fun K hK => ?_) AllReadyH.nil
      go_simp
      refine (cq wm bwm _ _ (box_of (bmk.block _ xh.lt) xh) (box_of (bmk.block _ xi.lt) xi) (by have := bW3d.size; omega) (by have := bW3d.size; omega) _ hom).mono ?_
      rintro e w5 ⟨o5, c5, rfl, b5, ho5⟩
      refine hK.out _ _ trivial (fun _ => ?_)
      clear hK K cq
      (try simp only [Act.put, List.getElem_toArray, List.getElem_cons_zero, List.getElem_cons_succ, List.setIfInBounds_toArray, List.set_cons_zero, List.set_cons_succ])
      obtain ⟨fR, fO, hBf, hge⟩ := fin.out w5 o5 c5 b5 ho5
      have eR := fun j => cell_of_row w5 W.heap.size j _ _ _ fR
      have eO := fun j => cell_of_row w5 (nb) j _ _ _ fO
      have zR : ∀ j, w5.frozen? ⟨W.heap.size, j, none⟩ = false := fun j => by simp [World.frozen?, fR]
      have zO : ∀ j, w5.frozen? ⟨nb, j, none⟩ = false := fun j => by simp [World.frozen?, fO]
      have FR := hid fR
      have HBf := hid hBf
      have HO := hid ho5
      have HG := hid hge
      clear fR fO hBf ho5 hge fin b5 bwm bww xh xi bmk bw1 hom bW3d
      (refine wpAnyH_take (i := 9) (v := ?_) rfl (by kernel_rfl) (by kernel_rfl) (by kernel_rfl) (fun _ _ _ h => h) (Or.inl ⟨by rfl, ?_⟩) trivial ?_); rotate_left; focus (intro w' hSw; go_simp; (try with_reducible rfl)); (try simp only [Act.put, List.getElem_toArray, List.getElem_cons_zero, List.getElem_cons_succ, List.setIfInBounds_toArray, List.set_cons_zero, List.set_cons_succ])
      refine wpAnyH_ready (rs := [10]) (by kernel_rfl) (by simp) ?_
      refine AllReadyH.cons rfl (fun K hK => ?_) AllReadyH.nil
      go_simp
      refine hK.out _ _ trivial (fun _ => ?_)
      clear hK K
      (try simp only [Act.put, List.getElem_toArray, List.getElem_cons_zero, List.getElem_cons_succ, List.setIfInBounds_toArray, List.set_cons_zero, List.set_cons_succ])
      refine wpAnyH_done (by kernel_rfl) ?_ _
      go_wp2
      subst hnn
      refine bodyPost_ret (cell_ret rfl _ _ W.heap.size _ _ _ _ _ _ _ _ _ (0, 0) rfl (nine_set ((Below.heap_setCell _ _ _ _ (by show W.heap.size ≠ nb; omega)).trans FR.out) _ _ _ _ _ _ _ _ _)) rfl ?_
      refine ⟨o5, c5, rfl, nine_below (HBf.out.setCell (p := ⟨nb, 5, none⟩) (by show W.heap.size ≤ nb; omega) _) (Nat.le_refl _) _ _ _ _ _ _ _ _ _, ?_⟩
      refine owns_on (owns_base HO.out (fun q e => by have := HG.out q e; omega)) (fun q e => ?_)
      have hq := HG.out q e
      refine (nine_far _ _ _ _ _ _ _ _ _ _ _ q (by omega)).trans (Below.heap_setCell _ _ _ _ ?_)
      show q ≠ nb
      omega
theorem get_row (g : HLay W hb sb vc T H u h) (w : Nat) (hw : w < 18446744073709551616) (id : Nat) (hi : hit H w = some id) (ws : List Nat) (hc : H[id]? = some (some (.row ws))) :
    Calls Try.prog 27 #[.pointer (some ⟨hb, 0, none⟩), .int .u64 w] W fun e w' => ∃ o cap, e = .returned (.tuple #[.agg #[.int .i64 9, .bool false, .int .i64 0, .string ⟨#[]⟩, .slice none 0 0, .slice o ws.length cap, .int .u64 0, .int .i64 0, .int .i64 0], .int .i64 0]) ∧ Below W.heap.size W w' ∧ w'.ownsRow W.heap.size 30 1 (.slice o ws.length cap) ws.length (ws.map (fun x => .int .u64 (x : Nat))) := by
  have hB1 : Below W.heap.size W (W.alloc (.cells #[.int .i64 0, .bool false, .int .i64 0, .string ⟨#[]⟩, .slice none 0 0, .slice none 0 0, .int .u64 0, .int .i64 0, .int .i64 0] 32)) := (Below.refl _ W).alloc (Nat.le_refl _) _
  have hs1 : (W.alloc (.cells #[.int .i64 0, .bool false, .int .i64 0, .string ⟨#[]⟩, .slice none 0 0, .slice none 0 0, .int .u64 0, .int .i64 0, .int .i64 0] 32)).heap.size = W.heap.size + 1 := World.size_alloc ..
  have f1 := World.alloc_heap_new W (.cells #[.int .i64 0, .bool false, .int .i64 0, .string ⟨#[]⟩, .slice none 0 0, .slice none 0 0, .int .u64 0, .int .i64 0, .int .i64 0] 32)
  have cf := find_c (g.below hB1) w hw
  rw [hi] at cf
  simp only [Option.getD_some, Option.isSome_some] at cf
  have cl := load_row (g.below hB1) id ws hc

  have kp : Hid (∀ w4, Below (W.alloc (.cells #[.int .i64 0, .bool false, .int .i64 0, .string ⟨#[]⟩, .slice none 0 0, .slice none 0 0, .int .u64 0, .int .i64 0, .int .i64 0] 32)).heap.size (W.alloc (.cells #[.int .i64 0, .bool false, .int .i64 0, .string ⟨#[]⟩, .slice none 0 0, .slice none 0 0, .int .u64 0, .int .i64 0, .int .i64 0] 32)) w4 → w4.heap[W.heap.size]? = some (.cells #[.int .i64 0, .bool false, .int .i64 0, .string ⟨#[]⟩, .slice none 0 0, .slice none 0 0, .int .u64 0, .int .i64 0, .int .i64 0] 32) ∧ Below W.heap.size W w4) := by
    show ∀ w4, _
    intro w4 hB4
    exact ⟨(hB4.block _ (by omega)).trans f1, hB1.trans (hB4.mono hB1.size)⟩
  clear hc
  have S1 := hid hs1
  generalize hnn : ws.length = nn at *
  go_enter Try.func27, Try.ntmps27
  go_upto_region 1 with fail
  generalize W.alloc (.cells #[.int .i64 0, .bool false, .int .i64 0, .string ⟨#[]⟩, .slice none 0 0, .slice none 0 0, .int .u64 0, .int .i64 0, .int .i64 0] 32) = W1 at *
  go_wp2_with (first | (go_at_call 47; (with_reducible refine cf.mono ?_); rintro e w' ⟨rfl, hw⟩; (have hw' := hw.symm); subst hw'; clear hw cf) | (go_at_call 58; (with_reducible refine cl.mono ?_); rintro e w4 ⟨o, cap, rfl, hB4, hown⟩; clear cl; (obtain ⟨fR, hBf⟩ := kp.out w4 hB4); (have HO := hid hown); clear hown; (have eR := fun j => cell_of_row w4 W.heap.size j _ _ _ fR); (have zR := (fun j => by simp [World.frozen?, fR] : ∀ j, w4.frozen? ⟨W.heap.size, j, none⟩ = false)); (have FR := hid fR); clear fR))
  refine bodyPost_ret (cell_ret2 rfl _ _ W.heap.size _ _ _ _ _ _ _ _ _ (0, 0) rfl (nine_set FR.out _ _ _ _ _ _ _ _ _)) rfl ?_
  subst hnn
  refine ⟨o, cap, rfl, nine_below hBf (Nat.le_refl _) _ _ _ _ _ _ _ _ _, ?_⟩
  have HG : ∀ q, (Value.slice o ws.length cap).ownBlock = some q → W.heap.size + 1 ≤ q := fun q e => by have := (HO.out.lt q e).1; have := S1.out; omega
  refine owns_on (owns_base HO.out (fun q e => by have := HG q e; omega)) (fun q e => ?_)
  exact nine_far _ _ _ _ _ _ _ _ _ _ _ q (by have := HG q e; omega)
end
end Go.Proofs.Ytaebnnkhjlidiab.W
