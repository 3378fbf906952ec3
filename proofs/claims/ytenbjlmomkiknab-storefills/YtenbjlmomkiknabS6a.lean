/- Package store: unlink, Give. -/
import Derived.Test.YtenbjlmomkiknabS5z
import Derived.Test.YtenbjlmomkiknabS5n
namespace Go.Proofs.Ytenbjlmomkiknab.W
open Go.ChangeShapes Go.WideShapes Go.RowKit Go.Shelf
set_option linter.unusedVariables false
def Sto.un1 (s : Sto) (bk nx : Nat) : Sto := s.set bk { s.getD bk with next := nx }
def Sto.un2 (s : Sto) (bk nx : Nat) : Sto := (s.un1 bk nx).set nx { (s.un1 bk nx).getD nx with back := bk }
/-- a block taken out of the ring -/
def Sto.unlinked (s : Sto) (n bk nx : Nat) : Sto := { s.un2 bk nx with hand := if s.hand = n then (bk : Int) else s.hand }
section
variable {W : World} {sb : Nat} {vr vb vf : Value} {s : Sto}
set_option maxHeartbeats 1000000 in
theorem unlink_c (h : Lay W sb vr vb vf s) (hlen : s.blks.length ≤ 1000000000) (n bk nx : Nat) (bn bb bx : Blk) (hn : s.get n = some bn) (hbk : bn.back = bk) (hnx : bn.next = nx) (hb : s.get bk = some bb) (hx : s.get nx = some bx) {S : Nat → Prop} (hO : Own S sb vr vb vf) :
    Calls Try.prog 56 #[.pointer (some ⟨sb, 0, none⟩), .int .i64 n] W fun e w' => e = .returned (.tuple #[]) ∧ Lay w' sb vr vb vf (s.unlinked n bk nx) ∧ Upd S W w' := by
  obtain ⟨Bn, On, pn⟩ := h.pt hn
  obtain ⟨Bb, Ob, pb⟩ := h.pt hb
  obtain ⟨Bx, Ox, px⟩ := h.pt hx
  have g2 : ∃ b2, (s.un1 bk nx).get nx = some b2 := by
    unfold Sto.un1
    by_cases e : nx = bk
    · subst e; exact ⟨_, get_set_same hb _⟩
    · rw [get_set_ne _ e]; exact ⟨_, hx⟩
  obtain ⟨b2, g2⟩ := g2
  have l1 : (s.un1 bk nx).blks.length ≤ 1000000000 := by unfold Sto.un1; rw [set_len]; exact hlen
  have hh2 : (s.un2 bk nx).hand = s.hand := by unfold Sto.un2 Sto.un1; rw [set_hand, set_hand]
  obtain ⟨_, _, _, d3, d4⟩ := bcells h hn pn
  rw [hbk] at d3
  rw [hnx] at d4
  have cbn := fun q => block_c (W.drewN q) sb vr vb vf s (h.drewN q) n bn hn hlen Bn On pn
  go_enter Try.func56, Try.ntmps56
  go_wp2
  go_quiet ((go_at_call 59; exact Calls.quiet_of_same (cbn _)))
  have hL0 := h.drewN nq
  have hU0 := (Upd.refl S W).drewN nq
  clear d3 d4 cbn
  generalize World.drewN W nq = W0 at *
  have cb := block_c W0 sb vr vb vf s hL0 bk bb hb hlen Bb Ob pb
  obtain ⟨_, _, _, _, d4⟩ := bcells hL0 hb pb
  have t4 := hL0.bthaw hb pb 4
  go_upto_region 2 with (go_at_call 59; (with_reducible refine cb.mono ?_); rintro e w' ⟨rfl, hw⟩; (have hw' := hw.symm); subst hw'; clear hw)
  have hL1 : Lay (W0.setCell ⟨Bb, Ob + 4, none⟩ (.int .i64 nx)) sb vr vb vf (s.un1 bk nx) := hL0.bstore hb pb 4 (by omega) (.int .i64 nx) (by rw [getD_of hb]; rfl)
  have hU1 := hU0.setCell (p := ⟨Bb, Ob + 4, none⟩) (.inl (hO.pt pb)) (.int .i64 nx)
  clear cb d4 t4 hL0 hU0
  generalize World.setCell W0 _ _ = W1 at *
  have cb := block_c W1 sb vr vb vf _ hL1 nx b2 g2 l1 Bx Ox px
  obtain ⟨_, _, _, d3, _⟩ := bcells hL1 g2 px
  have t3 := hL1.bthaw g2 px 3
  go_upto_region 3 with (go_at_call 59; (with_reducible refine cb.mono ?_); rintro e w' ⟨rfl, hw⟩; (have hw' := hw.symm); subst hw'; clear hw)
  have hL2 : Lay (W1.setCell ⟨Bx, Ox + 3, none⟩ (.int .i64 bk)) sb vr vb vf (s.un2 bk nx) := hL1.bstore g2 px 3 (by omega) (.int .i64 bk) (by rw [getD_of g2]; rfl)
  have hU2 := hU1.setCell (p := ⟨Bx, Ox + 3, none⟩) (.inl (hO.pt px)) (.int .i64 bk)
  clear cb d3 t3 hL1 hU1
  generalize World.setCell W1 _ _ = W2 at *
  have c9 := hL2.cell 9
  simp [Sto.obj, hh2] at c9
  have t9 := hL2.thaw 9
  by_cases hhand : s.hand = n
  · have hbq : (s.hand == (n : Int)) = true := by simp [hhand]
    have hL3 : Lay (W2.setCell ⟨sb, 9, none⟩ (.int .i64 bk)) sb vr vb vf (s.unlinked n bk nx) := by
      unfold Sto.unlinked
      rw [if_pos hhand]
      exact hL2.store 9 _ rfl rfl rfl rfl
    have HU := (show Hid _ from hU2.setCell (p := ⟨sb, 9, none⟩) (.inl hO.sb) (.int .i64 bk))
    have HL := (show Hid _ from hL3)
    clear hL3 hL2 hU2 hhand
    go_wp2
    go_end0
    exact ⟨rfl, HL, HU⟩
  · have hbq : (s.hand == (n : Int)) = false := by simp [hhand]
    have hL3 : Lay W2 sb vr vb vf (s.unlinked n bk nx) := by
      unfold Sto.unlinked
      rw [if_neg hhand, ← hh2]
      exact hL2
    have HU := (show Hid _ from hU2)
    have HL := (show Hid _ from hL3)
    clear hL3 hL2 hU2 hhand
    go_wp2
    go_end0
    exact ⟨rfl, HL, HU⟩
theorem give_none (h : Lay W sb vr vb vf s) (hlen : s.blks.length ≤ 1000000000) (id : Int) (hx : s.ext id = none) :
    Calls Try.prog 26 #[.pointer (some ⟨sb, 0, none⟩), .int .i64 id] W fun e w' => e = .returned (.int .i64 30) ∧ w' = W := by
  have ch := has_c h hlen id
  simp only [hx, Option.isSome_none] at ch
  go_enter Try.func26, Try.ntmps26
  go_wp2_with (go_at_call 55; (with_reducible refine ch.mono ?_); rintro e w' ⟨rfl, hw⟩; (have hw' := hw.symm); subst hw'; clear hw)
  go_ret
  exact ⟨rfl, rfl⟩
/-- an extent's end, its block being out of the ring -/
def Sto.gone (s : Sto) (id : Nat) (u : Int) : Sto := { s with blks := s.blks.set id noBlk, used := s.used - u }
set_option maxHeartbeats 4000000 in
/-- Give, the state that unlink leaves being t -/
theorem give_c (h : Lay W sb vr vb vf s) (hlen : s.blks.length ≤ 100000000) (id u : Nat) (b : Blk) (hx : s.ext (id : Int) = some b) (hl0 : 0 ≤ b.len) (hl1 : b.len ≤ 100000000) (hu : up8 b.len = u) (hus0 : 0 ≤ s.used) (hus1 : s.used ≤ 1000000000000) (hfl : s.free.length ≤ 100000000) (hhp : IsHeap s.free s.free.length) (t : Sto) (htb : t.blks.length = s.blks.length) (htf : t.free = s.free) (htu : t.used = s.used) {S : Nat → Prop} (hO : Own S sb vr vb vf)
    (ht0 : b.len = 0 → t = s)
    (hcu : 0 < b.len → Calls Try.prog 56 #[.pointer (some ⟨sb, 0, none⟩), .int .i64 (id + 1)] W fun e w' => e = .returned (.tuple #[]) ∧ Lay w' sb vr vb vf t ∧ Upd S W w') :
    Calls Try.prog 26 #[.pointer (some ⟨sb, 0, none⟩), .int .i64 id] W fun e w' => e = .returned (.int .i64 0) ∧ Upd S W w' ∧ ∃ free' vf', free'.Perm (s.free ++ [(id : Int)]) ∧ IsHeap free' free'.length ∧ Lay w' sb vr vb vf' (({ t with blks := t.blks.set id noBlk, used := s.used - u } : Sto).fr free') ∧ Own (Nx S W w') sb vr vb vf' := by
  have ch := has_c h (by omega) id
  simp only [hx, Option.isSome_some] at ch
  obtain ⟨k, hk, hb, hl⟩ := ext_some hx
  have hk' : k = id := by omega
  subst hk'
  have h1 := (List.getElem?_eq_some_iff.1 hb).1
  have hg : s.get (k + 1) = some b := by unfold Sto.get; rw [if_neg (by omega)]; exact hb
  obtain ⟨g0, cap0, hvb0, _⟩ := own_slice h.blk (Nat.lt_of_le_of_lt (Nat.zero_le _) h1)
  obtain ⟨_, _, b2, _, _⟩ := bcells h hg (.inr ⟨by omega, by rw [hvb0]; rfl, rfl⟩)
  simp only [Nat.add_sub_cancel] at b2
  have c6 := h.cell 6
  simp [Sto.obj, hvb0] at c6
  have h0' : (0 : Int) ≤ k := by omega
  have h1' : (k : Int) < s.blks.length := by omega
  have cn := fun w => number_c k w (by omega) (by omega)
  have hub : 0 ≤ (u : Int) ∧ (u : Int) ≤ 100000008 := by unfold up8 at hu; omega
  have cu := fun w => roundUp_c b.len w hl0 (by omega)
  rw [hu] at cu
  have hh1 : (k : Int) ≤ 1000000000 := by omega
  have hkt : k < t.blks.length := by rw [htb]; exact h1
  clear hg hb hx hk hvb0
  go_enter Try.func26, Try.ntmps26
  by_cases hlen0 : 0 < b.len
  · have cun := hcu hlen0
    go_upto_region 6 with (first | (go_at_call 55; (with_reducible refine ch.mono ?_); rintro e w' ⟨rfl, hw⟩; (have hw' := hw.symm); subst hw'; clear hw) | (go_at_call 53; (with_reducible refine (cn _).mono ?_); rintro e w' ⟨rfl, hw⟩; (have hw' := hw.symm); subst hw'; clear hw) | (go_at_call 56; (with_reducible refine cun.mono ?_); rintro e W1 ⟨rfl, hL1, hU1⟩; clear cun))
    clear b2 c6
    have c8 := hL1.cell 8
    simp [Sto.obj, htu] at c8
    have th8 := hL1.thaw 8
    have hw8 : IntKind.i64.wrap (s.used - u) = s.used - u := by rw [IntKind.wrap_i64]; omega
    have k8 : ∀ v : Value, (W1.drew.setCell ⟨sb, 8, none⟩ v).cell? ⟨sb, 8, none⟩ = some v := fun v => World.cell?_setCell_same' _ _ _ (by show (W1.cell? _).isSome = true; rw [c8]; rfl)
    go_region_with (go_at_call 51; (with_reducible refine (cu _).mono ?_); rintro e w' ⟨rfl, hw⟩; (have hw' := hw.symm); subst hw'; clear hw)
    all_goals (
      have hL2 : Lay (W1.setCell ⟨sb, 8, none⟩ (.int .i64 (s.used - u))).drew sb vr vb vf { t with used := s.used - u } := (hL1.store (s' := { t with used := s.used - u }) 8 _ rfl rfl rfl rfl).drew
      have hU2 := (hU1.setCell (p := ⟨sb, 8, none⟩) (.inl hO.sb) (.int .i64 (s.used - u))).drew
      clear c8 th8 k8 hL1 hU1
      generalize World.drew (World.setCell W1 _ _) = W2 at *
      obtain ⟨b3, hb3⟩ : ∃ b3, ({ t with used := s.used - u } : Sto).get (k + 1) = some b3 := ⟨t.blks[k]'hkt, by unfold Sto.get; rw [if_neg (by omega)]; exact List.getElem?_eq_getElem hkt⟩
      obtain ⟨g, cap, hvb, hcap⟩ := own_slice hL2.blk (by show 0 < t.blks.length; omega)
      have pt : Pt sb vb (k + 1) g (k * 5) := .inr ⟨by omega, by rw [hvb]; rfl, by simp⟩
      have hvb' : vb = .slice (some ⟨g, 0, none⟩) t.blks.length cap := hvb
      have c6 := hL2.cell 6
      simp [Sto.obj, hvb'] at c6
      obtain ⟨a0, a1, a2, a3, a4⟩ := bcells hL2 hb3 pt
      have t0 := hL2.bthaw hb3 pt 0
      have t1 := hL2.bthaw hb3 pt 1
      have t2 := hL2.bthaw hb3 pt 2
      have t3 := hL2.bthaw hb3 pt 3
      have t4 := hL2.bthaw hb3 pt 4
      simp only [Nat.add_zero] at t0
      have i0 : (0 : Int) ≤ k := by omega
      have i1 : (k : Int) < t.blks.length := by omega
      have hL3 : Lay (((((W2.setCell ⟨g, k * 5, none⟩ (.bool false)).setCell ⟨g, k * 5 + 1, none⟩ (.int .i64 0)).setCell ⟨g, k * 5 + 2, none⟩ (.int .i64 0)).setCell ⟨g, k * 5 + 3, none⟩ (.int .i64 0)).setCell ⟨g, k * 5 + 4, none⟩ (.int .i64 0)) sb vr vb vf { t with blks := t.blks.set k noBlk, used := s.used - u } := by
        have := hL2.bfull hb3 pt noBlk
        rw [show ({ t with used := s.used - u } : Sto).set (k + 1) noBlk = { t with blks := t.blks.set k noBlk, used := s.used - u } by unfold Sto.set; rw [if_neg (by omega)]; rfl] at this
        exact this
      have hU3 := hU2.five (.inl (hO.pt pt)) (k * 5) (k * 5 + 1) (k * 5 + 2) (k * 5 + 3) (k * 5 + 4) (.bool false) (.int .i64 0) (.int .i64 0) (.int .i64 0) (.int .i64 0)
      have HVB := (show Hid _ from hvb')
      clear hvb hvb'
      go_upto_region 8 with fail
      clear a0 a1 a2 a3 a4 t0 t1 t2 t3 t4 c6 hL2 hU2
      generalize World.setCell (World.setCell (World.setCell (World.setCell (World.setCell W2 _ _) _ _) _ _) _ _) _ _ = W3 at *
      have cp := heapPush_c hL3 (by show t.free.length ≤ _; rw [htf]; exact hfl) (by show IsHeap t.free t.free.length; rw [htf]; exact hhp) k hO
      have HU := (show Hid _ from hU3)
      clear hL3 hU3
      go_wp2_with (go_at_call 57; (with_reducible refine cp.mono ?_); rintro e W4 ⟨rfl, hU4, free', vf', hp4, hh4, hL4, hO4⟩; clear cp)
      go_ret
      refine ⟨rfl, HU.out.trans (hU4.mono (fun k g => .inl g)), free', vf', ?_, hh4, hL4, hO4.mono ?_⟩
      · have : free'.Perm (t.free ++ [(k : Int)]) := hp4
        rw [htf] at this; exact this
      · rintro k (g | g)
        · exact .inl g
        · exact .inr ⟨by have := HU.out.size; omega, g.2⟩)
  · have hl00 : b.len = 0 := by omega
    have ets := ht0 hl00
    clear hl00
    go_upto_region 6 with (first | (go_at_call 55; (with_reducible refine ch.mono ?_); rintro e w' ⟨rfl, hw⟩; (have hw' := hw.symm); subst hw'; clear hw))
    have hL1 : Lay W sb vr vb vf t := by rw [ets]; exact h
    have hU1 := Upd.refl S W
    clear b2 c6 ets
    have c8 := hL1.cell 8
    simp [Sto.obj, htu] at c8
    have th8 := hL1.thaw 8
    have hw8 : IntKind.i64.wrap (s.used - u) = s.used - u := by rw [IntKind.wrap_i64]; omega
    have k8 : ∀ v : Value, (W.drew.setCell ⟨sb, 8, none⟩ v).cell? ⟨sb, 8, none⟩ = some v := fun v => World.cell?_setCell_same' _ _ _ (by show (W.cell? _).isSome = true; rw [c8]; rfl)
    go_region_with (go_at_call 51; (with_reducible refine (cu _).mono ?_); rintro e w' ⟨rfl, hw⟩; (have hw' := hw.symm); subst hw'; clear hw)
    all_goals (
      have hL2 : Lay (W.setCell ⟨sb, 8, none⟩ (.int .i64 (s.used - u))).drew sb vr vb vf { t with used := s.used - u } := (hL1.store (s' := { t with used := s.used - u }) 8 _ rfl rfl rfl rfl).drew
      have hU2 := (hU1.setCell (p := ⟨sb, 8, none⟩) (.inl hO.sb) (.int .i64 (s.used - u))).drew
      clear c8 th8 k8 hL1 hU1
      generalize World.drew (World.setCell W _ _) = W2 at *
      obtain ⟨b3, hb3⟩ : ∃ b3, ({ t with used := s.used - u } : Sto).get (k + 1) = some b3 := ⟨t.blks[k]'hkt, by unfold Sto.get; rw [if_neg (by omega)]; exact List.getElem?_eq_getElem hkt⟩
      obtain ⟨g, cap, hvb, hcap⟩ := own_slice hL2.blk (by show 0 < t.blks.length; omega)
      have pt : Pt sb vb (k + 1) g (k * 5) := .inr ⟨by omega, by rw [hvb]; rfl, by simp⟩
      have hvb' : vb = .slice (some ⟨g, 0, none⟩) t.blks.length cap := hvb
      have c6 := hL2.cell 6
      simp [Sto.obj, hvb'] at c6
      obtain ⟨a0, a1, a2, a3, a4⟩ := bcells hL2 hb3 pt
      have t0 := hL2.bthaw hb3 pt 0
      have t1 := hL2.bthaw hb3 pt 1
      have t2 := hL2.bthaw hb3 pt 2
      have t3 := hL2.bthaw hb3 pt 3
      have t4 := hL2.bthaw hb3 pt 4
      simp only [Nat.add_zero] at t0
      have i0 : (0 : Int) ≤ k := by omega
      have i1 : (k : Int) < t.blks.length := by omega
      have hL3 : Lay (((((W2.setCell ⟨g, k * 5, none⟩ (.bool false)).setCell ⟨g, k * 5 + 1, none⟩ (.int .i64 0)).setCell ⟨g, k * 5 + 2, none⟩ (.int .i64 0)).setCell ⟨g, k * 5 + 3, none⟩ (.int .i64 0)).setCell ⟨g, k * 5 + 4, none⟩ (.int .i64 0)) sb vr vb vf { t with blks := t.blks.set k noBlk, used := s.used - u } := by
        have := hL2.bfull hb3 pt noBlk
        rw [show ({ t with used := s.used - u } : Sto).set (k + 1) noBlk = { t with blks := t.blks.set k noBlk, used := s.used - u } by unfold Sto.set; rw [if_neg (by omega)]; rfl] at this
        exact this
      have hU3 := hU2.five (.inl (hO.pt pt)) (k * 5) (k * 5 + 1) (k * 5 + 2) (k * 5 + 3) (k * 5 + 4) (.bool false) (.int .i64 0) (.int .i64 0) (.int .i64 0) (.int .i64 0)
      have HVB := (show Hid _ from hvb')
      clear hvb hvb'
      go_upto_region 8 with fail
      clear a0 a1 a2 a3 a4 t0 t1 t2 t3 t4 c6 hL2 hU2
      generalize World.setCell (World.setCell (World.setCell (World.setCell (World.setCell W2 _ _) _ _) _ _) _ _) _ _ = W3 at *
      have cp := heapPush_c hL3 (by show t.free.length ≤ _; rw [htf]; exact hfl) (by show IsHeap t.free t.free.length; rw [htf]; exact hhp) k hO
      have HU := (show Hid _ from hU3)
      clear hL3 hU3
      go_wp2_with (go_at_call 57; (with_reducible refine cp.mono ?_); rintro e W4 ⟨rfl, hU4, free', vf', hp4, hh4, hL4, hO4⟩; clear cp)
      go_ret
      refine ⟨rfl, HU.out.trans (hU4.mono (fun k g => .inl g)), free', vf', ?_, hh4, hL4, hO4.mono ?_⟩
      · have : free'.Perm (t.free ++ [(k : Int)]) := hp4
        rw [htf] at this; exact this
      · rintro k (g | g)
        · exact .inl g
        · exact .inr ⟨by have := HU.out.size; omega, g.2⟩)
end
end Go.Proofs.Ytenbjlmomkiknab.W
