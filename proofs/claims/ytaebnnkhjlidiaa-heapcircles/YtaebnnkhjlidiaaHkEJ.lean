import Derived.Test.YtaebnnkhjlidiaaHkCJ
import Derived.Test.YtaebnnkhjlidiaaHkDJ
import Derived.Test.YtaebnnkhjlidiaaBase7
/- Package heap: Cells. -/
namespace Go.Proofs.Ytaebnnkhjlidiaa.W
open Go.ChangeShapes Go.WideShapes Go.RowKit Go.Shelf
set_option linter.unusedVariables false
set_option linter.unusedSimpArgs false
theorem cells_c (W : World) (hb : Nat) : Calls Try.prog 17 #[.pointer (some ⟨hb, 0, none⟩)] W fun e w' => e = .returned (.func (.func 33) #[] #[.pointer (some ⟨W.heap.size, 0, none⟩)]) ∧ w' = W.alloc (.cells #[.pointer (some ⟨hb, 0, none⟩)] 31) := by
  go_enter Try.func17, Try.ntmps17
  go_wp2
  go_ret
  exact ⟨rfl, rfl⟩
theorem eg_cells : ∀ args w, (callFunc 33 args).run Try.prog w = .ok (.enter 33 args) w := enters_of Try.func33 (by kernel_rfl) rfl
theorem upd_drew (S : Nat → Prop) (W : World) : Upd S W W.drew := ⟨rfl, rfl, rfl, Nat.le_refl _, fun _ _ _ => rfl⟩
/-- a cell's kind; 0, if there is none -/
def kindH (H : List (Option Hc)) (k : Nat) : Int := (clO ((H[k]?).getD none)).kind
set_option maxRecDepth 100000 in
set_option maxHeartbeats 2000000 in
theorem cells_iter (Bc hb : Nat) (vc : Value) (H : List (Option Hc)) :
    IterE 33 #[.pointer (some ⟨Bc, 0, none⟩)] H.length (fun k => ((H[k]?).getD none).isSome) (fun k => #[.int .u64 (hw k : Nat), .int .i64 (kindH H k)]) (fun W => W.cell? ⟨Bc, 0, none⟩ = some (.pointer (some ⟨hb, 0, none⟩)) ∧ ∃ sb T u h, HLay W hb sb vc T H u h) := by
  intro m l B J X hm hL hB hXB hXG hS hY D0 W hWB h0
  subst hWB
  show CallsIn Fence.wide m Try.prog 33 #[.func (.yield l) #[] #[], .pointer (some ⟨Bc, 0, none⟩)] W _
  have hlen : H.length ≤ 1048576 := by
    obtain ⟨⟨_, sb, T, u, h, g⟩, _⟩ := hL 0 D0 W h0
    exact g.len
  have cB := (hL 0 D0 W h0).1.1
  have cBl := World.block_lt_of_cell? W _ cB
  have cB1 : (W.alloc (.cells #[(Value.func (.yield l) #[] #[])] 71)).cell? ⟨Bc, 0, none⟩ = some (Value.pointer (some ⟨hb, 0, none⟩)) := (((Below.refl _ W).alloc (Nat.le_refl _) _).cell cBl).trans cB
  have cv := live_c
  have HY := hid hY
  have HL := hid hL
  have HB := hid hB
  have HXB := hid hXB
  have HXG := hid hXG
  have HS := hid hS
  have H0 := hid h0
  have HLEN := hid hlen
  clear hY hL hB hXB hXG hS h0 cB hlen
  refine callsIn_of_wp_marks Try.func33 rfl trivial ?_ rfl
  refine wpIn_wide.2 ?_
  simp only [Try.ntmps33, List.size_toArray, List.length_cons, List.length_nil, Nat.reduceAdd, Nat.reduceSub, Array.replicate_succ, Array.replicate_zero, List.push_toArray, List.append_toArray, List.nil_append, List.cons_append]
  go_wp2_with (go_at_call 34; (with_reducible refine (cv _ _).mono ?_); rintro e w8 ⟨rfl, hw8⟩; (have hw' := hw8.symm); subst hw'; clear hw8)
  have b1 : Boxed ((W.alloc (.cells #[(Value.func (.yield l) #[] #[])] 71)).alloc (.cells #[(Value.pointer (some ⟨hb, 0, none⟩))] 31)) W.heap.size 71 (Value.func (.yield l) #[] #[]) := (Boxed.new W _ _).alloc _
  have b2 : Boxed ((W.alloc (.cells #[(Value.func (.yield l) #[] #[])] 71)).alloc (.cells #[(Value.pointer (some ⟨hb, 0, none⟩))] 31)) (W.heap.size + 1) 31 (Value.pointer (some ⟨hb, 0, none⟩)) := by
    have := Boxed.new (W.alloc (.cells #[(Value.func (.yield l) #[] #[])] 71)) 31 (Value.pointer (some ⟨hb, 0, none⟩))
    rwa [World.size_alloc] at this
  have hU3 : ∀ S : Nat → Prop, Upd S W ((W.alloc (.cells #[(Value.func (.yield l) #[] #[])] 71)).alloc (.cells #[(Value.pointer (some ⟨hb, 0, none⟩))] 31)) := fun S => ((Upd.refl S W).alloc _).alloc _
  have hz3 : ((W.alloc (.cells #[(Value.func (.yield l) #[] #[])] 71)).alloc (.cells #[(Value.pointer (some ⟨hb, 0, none⟩))] 31)).heap.size = W.heap.size + 2 := by simp
  generalize World.alloc (World.alloc W _) _ = W3 at *
  refine live_law (hb := hb) (n := H.length) (P := fun k => ((H[k]?).getD none).isSome) rfl
    (fun i W' => ∃ D, J i D W' ∧ (∀ k, D k → k < W.heap.size ∨ W.heap.size + 4 ≤ k) ∧ Boxed W' W.heap.size 71 (Value.func (.yield l) #[] #[]) ∧ Boxed W' (W.heap.size + 1) 31 (Value.pointer (some ⟨hb, 0, none⟩)))
    (fun c W' => c = .ret ∧ X W') ?hL ?hI ?hIx ⟨D0, HB.out 0 D0 W W3 H0.out (hU3 _), fun k e => .inl ((HL.out 0 D0 W H0.out).2.2 k e), b1, b2⟩ ?skip 3 ?assign ?body ?done ?stop
  case hL =>
    rintro i W' ⟨D, g1, _, _, g4⟩
    obtain ⟨⟨_, sb, T, u, h, g⟩, _⟩ := HL.out i D W' g1
    exact ⟨g4.cell, sb, vc, T, H, u, h, g, rfl, fun k _ _ => rfl⟩
  case hI =>
    rintro i Wa Wb ⟨D, g1, g2, g3, g4⟩ hu
    rw [hz3] at hu
    refine ⟨D, HB.out i D Wa Wb g1 (hu.mono (fun k e => ⟨by omega, fun d => by have := g2 k d; omega⟩)), g2, box_of (hu.block _ g3.lt (by omega)) g3, box_of (hu.block _ g4.lt (by omega)) g4⟩
  case hIx =>
    rintro c Wa Wb ⟨rfl, hx⟩ hu
    rw [hz3] at hu
    exact ⟨rfl, HXB.out Wa Wb hx (hu.mono (fun k e => by omega))⟩
  case skip =>
    rintro i Wa hi hP ⟨D, g1, g2⟩
    exact ⟨D, HS.out i D Wa hi hP g1, g2⟩
  case assign =>
    intro L x W' K hK
    gi_wp2_with (simp only [Oper.semAt]; go_simp)
    exact hK
  case body =>
    rintro L i hi W' hP hLe ⟨D, g1, g2, g3, g4⟩ hs hr
    rw [hz3] at hLe hs
    rw [hz3]
    simp only [ringAct, List.setIfInBounds_toArray, List.set_cons_succ, List.set_cons_zero]
    obtain ⟨⟨cb, sb, T, u, h, g⟩, _, hDl⟩ := HL.out i D W' g1
    have c1 := g.cell 1
    simp only [List.getElem?_cons_succ, List.getElem?_cons_zero] at c1
    obtain ⟨b, cap, hvc, hcell, _⟩ := g.at hi
    rw [hvc] at c1
    have SOF : Hid (∀ w2 : World, (w2.cell? ⟨Bc, 0, none⟩ = some (Value.pointer (some ⟨hb, 0, none⟩)) ∧ ∃ sb T u h, HLay w2 hb sb vc T H u h) → w2.cell? ⟨Bc, 0, none⟩ = some (Value.pointer (some ⟨hb, 0, none⟩)) ∧ w2.cell? ⟨hb, 1, none⟩ = some (.slice (some ⟨b, 0, none⟩) H.length cap) ∧ w2.cell? ⟨b, i * 5, none⟩ = some (.int .i64 (kindH H i))) := by
      show ∀ w2 : World, _
      rintro w2 ⟨x0, sb2, T2, u2, h2, x1⟩
      have y1 := x1.cell 1
      simp only [List.getElem?_cons_succ, List.getElem?_cons_zero] at y1
      rw [hvc] at y1
      obtain ⟨b2, cap2, hv2, hcell2, _⟩ := x1.at hi
      rw [hvc] at hv2
      injection hv2 with e1 e2 e3
      injection e1 with e1
      injection e1 with e1
      subst e1
      refine ⟨x0, y1, ?_⟩
      have := hcell2 0 H[i] (List.getElem?_eq_getElem hi) (by omega)
      rw [Nat.add_zero] at this
      rw [this]
      unfold kindH
      rw [List.getElem?_eq_getElem hi]
      rfl
    have hget : H[i]? = some H[i] := List.getElem?_eq_getElem hi
    have hc := hcell 0 H[i] hget (by omega)
    have hk0 : (clO H[i]).cells[0]? = some (.int .i64 (kindH H i)) := by
      unfold kindH
      rw [hget]; rfl
    rw [hk0, Nat.add_zero] at hc
    have cy := g3.cell
    have i0 : (0 : Int) ≤ i := Int.natCast_nonneg _
    have i1 : (i : Int) < H.length := by omega
    have cw := wordOf_c i (by have := HLEN.out; omega) W'.drew
    have hyd := HY.out i hi D W'.drew hP (HB.out i D W' _ g1 (upd_drew _ _))
    generalize kindH H i = kd at *
    have G := hid (And.intro g1 (And.intro g2 (And.intro g3 g4)))
    clear g hcell hget hk0 hr g1 g2 g3 g4
    gi_wp2
    refine round_anyS (S := fun w' => w'.cell? ⟨W.heap.size, 0, none⟩ = some (Value.func (.yield l) #[] #[]) ∧ w'.cell? ⟨Bc, 0, none⟩ = some (Value.pointer (some ⟨hb, 0, none⟩)) ∧ w'.cell? ⟨hb, 1, none⟩ = some (.slice (some ⟨b, 0, none⟩) H.length cap) ∧ w'.cell? ⟨b, i * 5, none⟩ = some (.int .i64 kd)) (by kernel_rfl) (by kernel_rfl) ?_
    have hS : W'.drew.cell? ⟨W.heap.size, 0, none⟩ = some (Value.func (.yield l) #[] #[]) ∧ W'.drew.cell? ⟨Bc, 0, none⟩ = some (Value.pointer (some ⟨hb, 0, none⟩)) ∧ W'.drew.cell? ⟨hb, 1, none⟩ = some (.slice (some ⟨b, 0, none⟩) H.length cap) ∧ W'.drew.cell? ⟨b, i * 5, none⟩ = some (.int .i64 kd) := ⟨cy, cb, c1, hc⟩
    have HD := hid hyd
    have CW := hid cw
    clear hyd cw cy cb c1 hc
    (refine anyS_take (i := 0) (v := ?_) rfl (by kernel_rfl) (by kernel_rfl) (by kernel_rfl) (fun _ _ _ h => h) (Or.inl ⟨by rfl, ?_⟩) hS ?_); rotate_left; (focus (intro w' hSw; obtain ⟨q1, q2, q3, q4⟩ := hSw; go_simp; (try with_reducible rfl))); (try simp only [Act.put, List.setIfInBounds_toArray, List.set_cons_zero, List.set_cons_succ])
    (refine anyS_take (i := 1) (v := ?_) rfl (by kernel_rfl) (by kernel_rfl) (by kernel_rfl) (fun _ _ _ h => h) (Or.inl ⟨by rfl, ?_⟩) hS ?_); rotate_left; (focus (intro w' hSw; obtain ⟨q1, q2, q3, q4⟩ := hSw; go_simp; (try with_reducible rfl))); (try simp only [Act.put, List.setIfInBounds_toArray, List.set_cons_zero, List.set_cons_succ])
    (refine anyS_take (i := 3) (v := ?_) rfl (by kernel_rfl) (by kernel_rfl) (by kernel_rfl) (fun _ _ _ h => h) (Or.inl ⟨by rfl, ?_⟩) hS ?_); rotate_left; (focus (intro w' hSw; obtain ⟨q1, q2, q3, q4⟩ := hSw; go_simp; (try with_reducible rfl))); (try simp only [Act.put, List.setIfInBounds_toArray, List.set_cons_zero, List.set_cons_succ])
    (refine anyS_take (i := 4) (v := ?_) rfl (by kernel_rfl) (by kernel_rfl) (by kernel_rfl) (fun _ _ _ h => h) (Or.inl ⟨by rfl, ?_⟩) hS ?_); rotate_left; (focus (intro w' hSw; obtain ⟨q1, q2, q3, q4⟩ := hSw; go_simp; (try with_reducible rfl))); (try simp only [Act.put, List.setIfInBounds_toArray, List.set_cons_zero, List.set_cons_succ])
    (refine anyS_take (i := 5) (v := ?_) rfl (by kernel_rfl) (by kernel_rfl) (by kernel_rfl) (fun _ _ _ h => h) (Or.inl ⟨by rfl, ?_⟩) hS ?_); rotate_left; (focus (intro w' hSw; obtain ⟨q1, q2, q3, q4⟩ := hSw; go_simp; (try with_reducible rfl))); (try simp only [Act.put, List.setIfInBounds_toArray, List.set_cons_zero, List.set_cons_succ])
    (refine anyS_take (i := 6) (v := ?_) rfl (by kernel_rfl) (by kernel_rfl) (by kernel_rfl) (fun _ _ _ h => h) (Or.inl ⟨by rfl, ?_⟩) hS ?_); rotate_left; (focus (intro w' hSw; obtain ⟨q1, q2, q3, q4⟩ := hSw; go_simp; (try with_reducible rfl))); (try simp only [Act.put, List.setIfInBounds_toArray, List.set_cons_zero, List.set_cons_succ])
    (refine anyS_take (i := 7) (v := ?_) rfl (by kernel_rfl) (by kernel_rfl) (by kernel_rfl) (fun _ _ _ h => h) (Or.inl ⟨by rfl, ?_⟩) hS ?_); rotate_left; (focus (intro w' hSw; obtain ⟨q1, q2, q3, q4⟩ := hSw; go_simp; (try with_reducible rfl))); (try simp only [Act.put, List.setIfInBounds_toArray, List.set_cons_zero, List.set_cons_succ])
    (refine anyS_take (i := 8) (v := ?_) rfl (by kernel_rfl) (by kernel_rfl) (by kernel_rfl) (fun _ _ _ h => h) (Or.inl ⟨by rfl, ?_⟩) hS ?_); rotate_left; (focus (intro w' hSw; obtain ⟨q1, q2, q3, q4⟩ := hSw; go_simp; (try with_reducible rfl))); (try simp only [Act.put, List.setIfInBounds_toArray, List.set_cons_zero, List.set_cons_succ])
    (refine anyS_take (i := 9) (v := ?_) rfl (by kernel_rfl) (by kernel_rfl) (by kernel_rfl) (fun _ _ _ h => h) (Or.inl ⟨by rfl, ?_⟩) hS ?_); rotate_left; (focus (intro w' hSw; obtain ⟨q1, q2, q3, q4⟩ := hSw; go_simp; (try with_reducible rfl))); (try simp only [Act.put, List.setIfInBounds_toArray, List.set_cons_zero, List.set_cons_succ])
    (refine anyS_take (i := 10) (v := ?_) rfl (by kernel_rfl) (by kernel_rfl) (by kernel_rfl) (fun _ _ _ h => h) (Or.inl ⟨by rfl, ?_⟩) hS ?_); rotate_left; (focus (intro w' hSw; obtain ⟨q1, q2, q3, q4⟩ := hSw; go_simp; (try with_reducible rfl))); (try simp only [Act.put, List.setIfInBounds_toArray, List.set_cons_zero, List.set_cons_succ])
    refine anyS_one (i := 2) (by kernel_rfl) rfl rfl (fun K hK => ?_)
    go_simp
    refine ⟨trivial, (callsIn_wide.2 CW.out).mono ?_⟩
    rintro e w' ⟨rfl, hw'⟩
    subst hw'
    refine hK _ _ ⟨hS, ?_⟩
    clear hK K
    obtain ⟨fn, tmps, assign, body, hy, hR⟩ := HD.out
    have ehw : ((hw i : Nat) : Int) = 18445336698825998336 + (i : Int) := by unfold hw; omega
    rw [ehw] at hy
    clear ehw
    refine anyS_one (i := 11) (by kernel_rfl) rfl rfl (fun K hK => ?_)
    go_simp
    refine (round_depth hR).mono ?_
    obtain ⟨g1, g2, g3, g4⟩ := G.out
    rintro e w2 (⟨rfl, ⟨D', hJ', hD'⟩, hk⟩ | ⟨rfl, hX, hk⟩)
    · have hb3 : Boxed w2 W.heap.size 71 (Value.func (.yield l) #[] #[]) := box_of (hk _ (Nat.le_refl _) g3.lt (fun e => by have := g2 _ e; omega)) g3
      have hb4 : Boxed w2 (W.heap.size + 1) 31 (Value.pointer (some ⟨hb, 0, none⟩)) := box_of (hk _ (by omega) g4.lt (fun e => by have := g2 _ e; omega)) g4
      have hS2 := SOF.out w2 (HL.out _ _ _ hJ').1
      refine hK _ _ ⟨⟨hb3.cell, hS2⟩, ?_⟩
      clear hK K
      refine anyS_one (i := 12) (by kernel_rfl) rfl rfl (fun K hK => ?_)
      go_simp
      refine hK _ _ ⟨⟨hb3.cell, hS2⟩, ?_⟩
      clear hK K
      refine anyS_done (by kernel_rfl) ?_ _
      gi_wp2
      refine ⟨⟨hk _ (by omega) (by show _ < W'.heap.size; omega) (fun e => by have := g2 _ e; omega), hk _ (by omega) (by show _ < W'.heap.size; omega) (fun e => by have := g2 _ e; omega)⟩, D', hJ', ?_, hb3, hb4⟩
      intro k e
      rcases hD' k e with e | e
      · exact g2 k e
      · right
        have : W'.drew.heap.size = W'.heap.size := rfl
        omega
    · have hb3 : Boxed w2 W.heap.size 71 (Value.func (.yield l) #[] #[]) := box_of (hk _ (Nat.le_refl _) g3.lt (fun e => by have := g2 _ e; omega)) g3
      have hS2 := SOF.out w2 (HXG.out _ hX)
      refine hK _ _ ⟨⟨hb3.cell, hS2⟩, ?_⟩
      clear hK K
      refine anyS_one (i := 12) (by kernel_rfl) rfl rfl (fun K hK => ?_)
      go_simp
      refine hK _ _ ⟨⟨hb3.cell, hS2⟩, ?_⟩
      clear hK K
      refine anyS_done (by kernel_rfl) ?_ _
      gi_wp2
      exact ⟨⟨hk _ (by omega) (by show _ < W'.heap.size; omega) (fun e => by have := g2 _ e; omega), hk _ (by omega) (by show _ < W'.heap.size; omega) (fun e => by have := g2 _ e; omega)⟩, rfl, hX⟩
  case done =>
    rintro W' ⟨D, g1, g2, g3, g4⟩ hD
    rw [hz3] at hD ⊢
    have G := hid (And.intro g1 g2)
    clear g1 g2 g3 g4
    go_wp2
    refine ⟨by simp, .inl ⟨_, _, rfl, run_takeDeferred hD, ?_⟩⟩
    refine ⟨_, results_none rfl _ _ _, ⟨_, rfl⟩, .inl ⟨D, HB.out _ D W' _ G.out.1 (upd_put (S := fun k => W.heap.size ≤ k ∧ ¬ D k) ⟨by omega, fun e => by have := G.out.2 _ e; omega⟩ _)⟩⟩
  case stop =>
    rintro c W' ⟨rfl, hX⟩ hD
    rw [hz3] at hD ⊢
    go_wp2
    refine ⟨by simp, .inl ⟨_, _, rfl, run_takeDeferred hD, ?_⟩⟩
    refine ⟨_, results_none rfl _ _ _, ⟨_, rfl⟩, .inr (HXB.out W' _ hX (upd_put (S := fun k => W.heap.size ≤ k) (by omega) _))⟩
end Go.Proofs.Ytaebnnkhjlidiaa.W
