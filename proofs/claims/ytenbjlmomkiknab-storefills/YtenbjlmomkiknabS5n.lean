/- Package store: Take. -/
import Derived.Test.YtenbjlmomkiknabS5m
namespace Go.Proofs.Ytenbjlmomkiknab.W
open Go.ChangeShapes Go.WideShapes Go.RowKit Go.Shelf
set_option linter.unusedVariables false

theorem nx_nx {S : Nat → Prop} {a b c : World} (h : a.heap.size ≤ b.heap.size) (hc : b.heap.size ≤ c.heap.size) : ∀ k, Nx (Nx S a b) b c k → Nx S a c k := by
  rintro k ((g | g) | g)
  · exact .inl g
  · exact .inr ⟨g.1, by omega⟩
  · exact .inr ⟨by omega, g.2⟩
/-- an extent's block, before it has its place -/
def Sto.took (s : Sto) (id : Nat) (n : Int) : Sto := { s with blks := s.blks.set id ⟨true, 0, n, 0, 0⟩, used := s.used + up8 n }
section
variable {W : World} {sb : Nat} {vr vb vf : Value} {s : Sto}
/-- a block is written whole -/
theorem Lay.bfull (h : Lay W sb vr vb vf s) {n B O : Nat} {b : Blk} (hb : s.get n = some b) (hp : Pt sb vb n B O) (c : Blk) :
    Lay (((((W.setCell ⟨B, O, none⟩ (.bool c.live)).setCell ⟨B, O + 1, none⟩ (.int .i64 c.pos)).setCell ⟨B, O + 2, none⟩ (.int .i64 c.len)).setCell ⟨B, O + 3, none⟩ (.int .i64 c.back)).setCell ⟨B, O + 4, none⟩ (.int .i64 c.next)) sb vr vb vf (s.set n c) := by
  have h0 := h.bstore (c := { b with live := c.live }) hb hp 0 (by omega) (.bool c.live) rfl
  have h1 := h0.bstore (c := { b with live := c.live, pos := c.pos }) (get_set_same hb _) hp 1 (by omega) (.int .i64 c.pos) rfl
  rw [set_set] at h1
  have h2 := h1.bstore (c := { b with live := c.live, pos := c.pos, len := c.len }) (get_set_same hb _) hp 2 (by omega) (.int .i64 c.len) rfl
  rw [set_set] at h2
  have h3 := h2.bstore (c := { b with live := c.live, pos := c.pos, len := c.len, back := c.back }) (get_set_same hb _) hp 3 (by omega) (.int .i64 c.back) rfl
  rw [set_set] at h3
  have h4 := h3.bstore (c := c) (get_set_same hb _) hp 4 (by omega) (.int .i64 c.next) rfl
  rw [set_set] at h4
  exact h4
theorem Upd.five {S : Nat → Prop} {a b : World} (h : Upd S a b) {B : Nat} (hp : Nx S a b B) (o1 o2 o3 o4 o5 : Nat) (v1 v2 v3 v4 v5 : Value) : Upd S a (((((b.setCell ⟨B, o1, none⟩ v1).setCell ⟨B, o2, none⟩ v2).setCell ⟨B, o3, none⟩ v3).setCell ⟨B, o4, none⟩ v4).setCell ⟨B, o5, none⟩ v5) := by
  have k : ∀ c : World, c.heap.size = b.heap.size → Nx S a c B := fun c e => hp.on (by omega)
  exact ((((h.setCell (p := ⟨B, o1, none⟩) hp v1).setCell (p := ⟨B, o2, none⟩) (k _ (by simp [World.setCell])) v2).setCell (p := ⟨B, o3, none⟩) (k _ (by simp [World.setCell])) v3).setCell (p := ⟨B, o4, none⟩) (k _ (by simp [World.setCell])) v4).setCell (p := ⟨B, o5, none⟩) (k _ (by simp [World.setCell])) v5
set_option maxHeartbeats 2000000 in
theorem take_c (n : Int) (u : Nat) (hn0 : 0 < n) (hn1 : n ≤ 8388608) (hu : up8 n = u) (id : Nat) (s1 : Sto) (hid : id < s1.blks.length) (hl1 : s1.blks.length ≤ 100000000) (hus0 : 0 ≤ s1.used) (hus1 : s1.used ≤ 100000000000) {S : Nat → Prop} (G : Sto → Nat → Nat → Nat → Prop)
    (cl : Calls Try.prog 50 #[.pointer (some ⟨sb, 0, none⟩)] W fun e w' => e = .returned (.int .i64 id) ∧ Upd S W w' ∧ ∃ vr1 vb1 vf1, Lay w' sb vr1 vb1 vf1 s1 ∧ Own (Nx S W w') sb vr1 vb1 vf1)
    (hseek : ∀ W3 S3 vr3 vb3 vf3, Lay W3 sb vr3 vb3 vf3 (s1.took id n) → Own S3 sb vr3 vb3 vf3 → Calls Try.prog 82 #[.pointer (some ⟨sb, 0, none⟩), .int .i64 (u : Int)] W3 (SeekPost S3 W3 sb vb3 vf3 (id + 1) ⟨true, 0, n, 0, 0⟩ G)) :
    Calls Try.prog 23 #[.pointer (some ⟨sb, 0, none⟩), .int .i64 n] W fun e w' => e = .returned (.tuple #[.int .i64 id, .int .i64 0]) ∧ Upd S W w' ∧ ∃ s4 bk nx p, G s4 bk nx p ∧ ∃ vr4 vb4 vf4, Lay w' sb vr4 vb4 vf4 (s4.laid (id + 1) bk nx p u) ∧ Own (Nx S W w') sb vr4 vb4 vf4 := by
  have hu1 : (u : Int) ≤ 8388616 := by unfold up8 at hu; omega
  have cu := fun w => roundUp_c n w (by omega) (by omega)
  rw [hu] at cu
  have cn := fun w => number_c id w (by omega) (by omega)
  go_enter Try.func23, Try.ntmps23
  go_upto_region 6 with (go_at_call 50; (with_reducible refine cl.mono ?_); rintro e W1 ⟨rfl, hU1, vr1, vb1, vf1, hL1, hO1⟩; clear cl)
  obtain ⟨g, cap, hvb, hcap⟩ := own_slice hL1.blk (by omega)
  have c6 := hL1.cell 6
  simp [Sto.obj, hvb] at c6
  obtain ⟨b0, hb0⟩ : ∃ b0, s1.get (id + 1) = some b0 := ⟨s1.blks[id], by unfold Sto.get; rw [if_neg (by omega)]; exact List.getElem?_eq_getElem hid⟩
  have pt : Pt sb vb1 (id + 1) g (id * 5) := .inr ⟨by omega, by rw [hvb]; rfl, by simp⟩
  obtain ⟨a0, a1, a2, a3, a4⟩ := bcells hL1 hb0 pt
  have t0 := hL1.bthaw hb0 pt 0
  have t1 := hL1.bthaw hb0 pt 1
  have t2 := hL1.bthaw hb0 pt 2
  have t3 := hL1.bthaw hb0 pt 3
  have t4 := hL1.bthaw hb0 pt 4
  simp only [Nat.add_zero] at t0
  have i0 : (0 : Int) ≤ id := by omega
  have i1 : (id : Int) < s1.blks.length := by omega
  go_upto_region 7 with fail
  have hL2 := hL1.bfull hb0 pt ⟨true, 0, n, 0, 0⟩
  have hU2 := hU1.five (hO1.pt pt) (id * 5) (id * 5 + 1) (id * 5 + 2) (id * 5 + 3) (id * 5 + 4) (.bool true) (.int .i64 0) (.int .i64 n) (.int .i64 0) (.int .i64 0)
  have z2 : (((((W1.setCell ⟨g, id * 5, none⟩ (.bool true)).setCell ⟨g, id * 5 + 1, none⟩ (.int .i64 0)).setCell ⟨g, id * 5 + 2, none⟩ (.int .i64 n)).setCell ⟨g, id * 5 + 3, none⟩ (.int .i64 0)).setCell ⟨g, id * 5 + 4, none⟩ (.int .i64 0)).heap.size = W1.heap.size := by simp [World.setCell]
  clear t0 t1 t2 t3 t4 a0 a1 a2 a3 a4 c6
  dsimp only at hL2
  generalize World.setCell (World.setCell (World.setCell (World.setCell (World.setCell W1 _ _) _ _) _ _) _ _) _ _ = W2 at *
  have c8 := hL2.cell 8
  simp [Sto.obj, set_used] at c8
  have th8 := hL2.thaw 8
  have hw8 : IntKind.i64.wrap (s1.used + u) = s1.used + u := by rw [IntKind.wrap_i64]; omega
  have k8 : ∀ v : Value, (W2.drew.setCell ⟨sb, 8, none⟩ v).cell? ⟨sb, 8, none⟩ = some v := fun v => World.cell?_setCell_same' _ _ _ (by show (W2.cell? _).isSome = true; rw [c8]; rfl)
  have hcut : True := trivial
  go_region_with (go_at_call 51; (with_reducible refine (cu _).mono ?_); rintro e w' ⟨rfl, hw⟩; (have hw' := hw.symm); subst hw'; clear hw)
  all_goals (
    have hL3 : Lay (W2.setCell ⟨sb, 8, none⟩ (.int .i64 (s1.used + u))).drew sb vr1 vb1 vf1 (s1.took id n) := by
      refine (hL2.store (s' := s1.took id n) 8 _ ?_ ?_ ?_ ?_).drew
      · simp [Sto.obj, Sto.took, Sto.set, hu]
      · simp [Sto.took, Sto.set]
      · simp [Sto.took, Sto.set]
      · simp [Sto.took, Sto.set]
    have hU3 := (hU2.setCell (p := ⟨sb, 8, none⟩) (hO1.sb.on (Nat.le_of_eq z2.symm)) (.int .i64 (s1.used + u))).drew
    have z3 : (W2.setCell ⟨sb, 8, none⟩ (.int .i64 (s1.used + u))).drew.heap.size = W1.heap.size := by
      show (W2.setCell ⟨sb, 8, none⟩ (.int .i64 (s1.used + u))).heap.size = _
      simp [World.setCell, z2]
    clear c8 th8 k8 hL2 hU2 z2
    generalize World.drew (World.setCell W2 _ _) = W3 at *
    have hO3 : Own (Nx S W W3) sb vr1 vb1 vf1 := hO1.on (by omega)
    have gt : (s1.took id n).get (id + 1) = some ⟨true, 0, n, 0, 0⟩ := by
      unfold Sto.get Sto.took
      rw [if_neg (by omega)]
      simp [hid]
    have cy := lay_c hL3 (by simp [Sto.took]; omega) (id + 1) u ⟨true, 0, n, 0, 0⟩ gt hn0 (by dsimp only; omega) hu G (hseek W3 _ vr1 vb1 vf1 hL3 hO3)
    have hcast : ((id + 1 : Nat) : Int) = (id : Int) + 1 := by omega
    rw [hcast] at cy
    have HU := (show Hid _ from hU3)
    have hn0' : 0 < n := hn0
    clear hseek hL3 gt hL1 hO1 pt hb0 hU3
    go_wp2_with (first | (go_at_call 53; (with_reducible refine (cn _).mono ?_); rintro e w' ⟨rfl, hw⟩; (have hw' := hw.symm); subst hw'; clear hw) | (go_at_call 52; (with_reducible refine cy.mono ?_); rintro e W4 ⟨rfl, hU4, s4, bk, nx, p, hG, vr4, hL4, hO4⟩; clear cy))
    go_ret2
    exact ⟨rfl, HU.out.trans hU4, s4, bk, nx, p, hG, vr4, _, _, hL4, hO4.mono (nx_nx HU.out.size hU4.size)⟩)
end
end Go.Proofs.Ytenbjlmomkiknab.W
