import Derived.Test.YtgmimmdojkoppaaGreatDoorBase5
import Derived.Test.YtgmimmdojkoppaaGreatDoorBase6
/- Package store: Take. -/
namespace Go.Proofs.YtgmimmdojkoppaaGreatDoor.W
open Go.ChangeShapes Go.WideShapes Go.RowKit Go.Shelf
set_option linter.unusedVariables false

theorem nx_nx {S : Nat → Prop} {a b c : World} (h : a.heap.size ≤ b.heap.size) (hc : b.heap.size ≤ c.heap.size) : ∀ k, Nx (Nx S a b) b c k → Nx S a c k := by
  rintro k ((g | g) | g)
  · exact .inl g
  · exact .inr ⟨g.1, by omega⟩
  · exact .inr ⟨by omega, g.2⟩
/-- an extent's block, before it has its place -/
def Sto.took (s : Sto) (id : Nat) (n : Int) : Sto := { s with blks := s.blks.set id ⟨true, 0, n, 0, 0⟩, used := s.used + up8 n }
section
variable {W : World} {sb : Nat} {vr vb vf : Value} {s : Sto}
/-- a block is written whole -/
theorem Lay.bfull (h : Lay W sb vr vb vf s) {n B O : Nat} {b : Blk} (hb : s.get n = some b) (hp : Pt sb vb n B O) (c : Blk) :
    Lay (((((W.setCell ⟨B, O, none⟩ (.bool c.live)).setCell ⟨B, O + 1, none⟩ (.int .i64 c.pos)).setCell ⟨B, O + 2, none⟩ (.int .i64 c.len)).setCell ⟨B, O + 3, none⟩ (.int .i64 c.back)).setCell ⟨B, O + 4, none⟩ (.int .i64 c.next)) sb vr vb vf (s.set n c) := by
  have h0 := h.bstore (c := { b with live := c.live }) hb hp 0 (by omega) (.bool c.live) rfl
  have h1 := h0.bstore (c := { b with live := c.live, pos := c.pos }) (get_set_same hb _) hp 1 (by omega) (.int .i64 c.pos) rfl
  rw [set_set] at h1
  have h2 := h1.bstore (c := { b with live := c.live, pos := c.pos, len := c.len }) (get_set_same hb _) hp 2 (by omega) (.int .i64 c.len) rfl
  rw [set_set] at h2
  have h3 := h2.bstore (c := { b with live := c.live, pos := c.pos, len := c.len, back := c.back }) (get_set_same hb _) hp 3 (by omega) (.int .i64 c.back) rfl
  rw [set_set] at h3
  have h4 := h3.bstore (c := c) (get_set_same hb _) hp 4 (by omega) (.int .i64 c.next) rfl
  rw [set_set] at h4
  exact h4
theorem Upd.five {S : Nat → Prop} {a b : World} (h : Upd S a b) {B : Nat} (hp : Nx S a b B) (o1 o2 o3 o4 o5 : Nat) (v1 v2 v3 v4 v5 : Value) : Upd S a (((((b.setCell ⟨B, o1, none⟩ v1).setCell ⟨B, o2, none⟩ v2).setCell ⟨B, o3, none⟩ v3).setCell ⟨B, o4, none⟩ v4).setCell ⟨B, o5, none⟩ v5) := by
  have k : ∀ c : World, c.heap.size = b.heap.size → Nx S a c B := fun c e => hp.on (by omega)
  exact ((((h.setCell (p := ⟨B, o1, none⟩) hp v1).setCell (p := ⟨B, o2, none⟩) (k _ (by simp [World.setCell])) v2).setCell (p := ⟨B, o3, none⟩) (k _ (by simp [World.setCell])) v3).setCell (p := ⟨B, o4, none⟩) (k _ (by simp [World.setCell])) v4).setCell (p := ⟨B, o5, none⟩) (k _ (by simp [World.setCell])) v5
end
end Go.Proofs.YtgmimmdojkoppaaGreatDoor.W
/- Package store: unlink, Give. -/
namespace Go.Proofs.YtgmimmdojkoppaaGreatDoor.W
open Go.ChangeShapes Go.WideShapes Go.RowKit Go.Shelf
set_option linter.unusedVariables false
def Sto.un1 (s : Sto) (bk nx : Nat) : Sto := s.set bk { s.getD bk with next := nx }
def Sto.un2 (s : Sto) (bk nx : Nat) : Sto := (s.un1 bk nx).set nx { (s.un1 bk nx).getD nx with back := bk }
/-- a block taken out of the ring -/
def Sto.unlinked (s : Sto) (n bk nx : Nat) : Sto := { s.un2 bk nx with hand := if s.hand = n then (bk : Int) else s.hand }
section
variable {W : World} {sb : Nat} {vr vb vf : Value} {s : Sto}
set_option maxHeartbeats 1000000 in
theorem unlink_c (h : Lay W sb vr vb vf s) (hlen : s.blks.length ≤ 1000000000) (n bk nx : Nat) (bn bb bx : Blk) (hn : s.get n = some bn) (hbk : bn.back = bk) (hnx : bn.next = nx) (hb : s.get bk = some bb) (hx : s.get nx = some bx) {S : Nat → Prop} (hO : Own S sb vr vb vf) :
    Calls Tryz.prog 216 #[.pointer (some ⟨sb, 0, none⟩), .int .i64 n] W fun e w' => e = .returned (.tuple #[]) ∧ Lay w' sb vr vb vf (s.unlinked n bk nx) ∧ Upd S W w' := by
  obtain ⟨Bn, On, pn⟩ := h.pt hn
  obtain ⟨Bb, Ob, pb⟩ := h.pt hb
  obtain ⟨Bx, Ox, px⟩ := h.pt hx
  have g2 : ∃ b2, (s.un1 bk nx).get nx = some b2 := by
    unfold Sto.un1
    by_cases e : nx = bk
    · subst e; exact ⟨_, get_set_same hb _⟩
    · rw [get_set_ne _ e]; exact ⟨_, hx⟩
  obtain ⟨b2, g2⟩ := g2
  have l1 : (s.un1 bk nx).blks.length ≤ 1000000000 := by unfold Sto.un1; rw [set_len]; exact hlen
  have hh2 : (s.un2 bk nx).hand = s.hand := by unfold Sto.un2 Sto.un1; rw [set_hand, set_hand]
  obtain ⟨_, _, _, d3, d4⟩ := bcells h hn pn
  rw [hbk] at d3
  rw [hnx] at d4
  have cbn := fun q => block_c (W.drewN q) sb vr vb vf s (h.drewN q) n bn hn hlen Bn On pn
  go_enter Tryz.func216, Tryz.ntmps216
  go_wp2
  go_quiet ((go_at_call 263; exact Calls.quiet_of_same (cbn _)))
  have hL0 := h.drewN nq
  have hU0 := (Upd.refl S W).drewN nq
  clear d3 d4 cbn
  generalize World.drewN W nq = W0 at *
  have cb := block_c W0 sb vr vb vf s hL0 bk bb hb hlen Bb Ob pb
  obtain ⟨_, _, _, _, d4⟩ := bcells hL0 hb pb
  have t4 := hL0.bthaw hb pb 4
  go_upto_region 2 with (go_at_call 263; (with_reducible refine cb.mono ?_); rintro e w' ⟨rfl, hw⟩; (have hw' := hw.symm); subst hw'; clear hw)
  have hL1 : Lay (W0.setCell ⟨Bb, Ob + 4, none⟩ (.int .i64 nx)) sb vr vb vf (s.un1 bk nx) := hL0.bstore hb pb 4 (by omega) (.int .i64 nx) (by rw [getD_of hb]; rfl)
  have hU1 := hU0.setCell (p := ⟨Bb, Ob + 4, none⟩) (.inl (hO.pt pb)) (.int .i64 nx)
  clear cb d4 t4 hL0 hU0
  generalize World.setCell W0 _ _ = W1 at *
  have cb := block_c W1 sb vr vb vf _ hL1 nx b2 g2 l1 Bx Ox px
  obtain ⟨_, _, _, d3, _⟩ := bcells hL1 g2 px
  have t3 := hL1.bthaw g2 px 3
  go_upto_region 3 with (go_at_call 263; (with_reducible refine cb.mono ?_); rintro e w' ⟨rfl, hw⟩; (have hw' := hw.symm); subst hw'; clear hw)
  have hL2 : Lay (W1.setCell ⟨Bx, Ox + 3, none⟩ (.int .i64 bk)) sb vr vb vf (s.un2 bk nx) := hL1.bstore g2 px 3 (by omega) (.int .i64 bk) (by rw [getD_of g2]; rfl)
  have hU2 := hU1.setCell (p := ⟨Bx, Ox + 3, none⟩) (.inl (hO.pt px)) (.int .i64 bk)
  clear cb d3 t3 hL1 hU1
  generalize World.setCell W1 _ _ = W2 at *
  have c9 := hL2.cell 9
  simp [Sto.obj, hh2] at c9
  have t9 := hL2.thaw 9
  by_cases hhand : s.hand = n
  · have hbq : (s.hand == (n : Int)) = true := by simp [hhand]
    have hL3 : Lay (W2.setCell ⟨sb, 9, none⟩ (.int .i64 bk)) sb vr vb vf (s.unlinked n bk nx) := by
      unfold Sto.unlinked
      rw [if_pos hhand]
      exact hL2.store 9 _ rfl rfl rfl rfl
    have HU := (show Hid _ from hU2.setCell (p := ⟨sb, 9, none⟩) (.inl hO.sb) (.int .i64 bk))
    have HL := (show Hid _ from hL3)
    clear hL3 hL2 hU2 hhand
    go_wp2
    go_end0
    exact ⟨rfl, HL, HU⟩
  · have hbq : (s.hand == (n : Int)) = false := by simp [hhand]
    have hL3 : Lay W2 sb vr vb vf (s.unlinked n bk nx) := by
      unfold Sto.unlinked
      rw [if_neg hhand, ← hh2]
      exact hL2
    have HU := (show Hid _ from hU2)
    have HL := (show Hid _ from hL3)
    clear hL3 hL2 hU2 hhand
    go_wp2
    go_end0
    exact ⟨rfl, HL, HU⟩
set_option maxHeartbeats 4000000 in
/-- Give, the state that unlink leaves being t -/
theorem give_c (h : Lay W sb vr vb vf s) (hlen : s.blks.length ≤ 100000000) (id u : Nat) (b : Blk) (hx : s.ext (id : Int) = some b) (hl0 : 0 ≤ b.len) (hl1 : b.len ≤ 100000000) (hu : up8 b.len = u) (hus0 : 0 ≤ s.used) (hus1 : s.used ≤ 1000000000000) (hfl : s.free.length ≤ 100000000) (hhp : IsHeap s.free s.free.length) (t : Sto) (htb : t.blks.length = s.blks.length) (htf : t.free = s.free) (htu : t.used = s.used) {S : Nat → Prop} (hO : Own S sb vr vb vf)
    (ht0 : b.len = 0 → t = s)
    (hcu : 0 < b.len → Calls Tryz.prog 216 #[.pointer (some ⟨sb, 0, none⟩), .int .i64 (id + 1)] W fun e w' => e = .returned (.tuple #[]) ∧ Lay w' sb vr vb vf t ∧ Upd S W w') :
    Calls Tryz.prog 177 #[.pointer (some ⟨sb, 0, none⟩), .int .i64 id] W fun e w' => e = .returned (.int .i64 0) ∧ Upd S W w' ∧ ∃ free' vf', free'.Perm (s.free ++ [(id : Int)]) ∧ IsHeap free' free'.length ∧ Lay w' sb vr vb vf' (({ t with blks := t.blks.set id noBlk, used := s.used - u } : Sto).fr free') ∧ Own (Nx S W w') sb vr vb vf' := by
  have ch := has_c h (by omega) id
  simp only [hx, Option.isSome_some] at ch
  obtain ⟨k, hk, hb, hl⟩ := ext_some hx
  have hk' : k = id := by omega
  subst hk'
  have h1 := (List.getElem?_eq_some_iff.1 hb).1
  have hg : s.get (k + 1) = some b := by unfold Sto.get; rw [if_neg (by omega)]; exact hb
  obtain ⟨g0, cap0, hvb0, _⟩ := own_slice h.blk (Nat.lt_of_le_of_lt (Nat.zero_le _) h1)
  obtain ⟨_, _, b2, _, _⟩ := bcells h hg (.inr ⟨by omega, by rw [hvb0]; rfl, rfl⟩)
  simp only [Nat.add_sub_cancel] at b2
  have c6 := h.cell 6
  simp [Sto.obj, hvb0] at c6
  have h0' : (0 : Int) ≤ k := by omega
  have h1' : (k : Int) < s.blks.length := by omega
  have cn := fun w => number_c k w (by omega) (by omega)
  have hub : 0 ≤ (u : Int) ∧ (u : Int) ≤ 100000008 := by unfold up8 at hu; omega
  have cu := fun w => roundUp_c b.len w hl0 (by omega)
  rw [hu] at cu
  have hh1 : (k : Int) ≤ 1000000000 := by omega
  have hkt : k < t.blks.length := by rw [htb]; exact h1
  clear hg hb hx hk hvb0
  go_enter Tryz.func177, Tryz.ntmps177
  by_cases hlen0 : 0 < b.len
  · have cun := hcu hlen0
    go_upto_region 6 with (first | (go_at_call 215; (with_reducible refine ch.mono ?_); rintro e w' ⟨rfl, hw⟩; (have hw' := hw.symm); subst hw'; clear hw) | (go_at_call 217; (with_reducible refine (cn _).mono ?_); rintro e w' ⟨rfl, hw⟩; (have hw' := hw.symm); subst hw'; clear hw) | (go_at_call 216; (with_reducible refine cun.mono ?_); rintro e W1 ⟨rfl, hL1, hU1⟩; clear cun))
    clear b2 c6
    have c8 := hL1.cell 8
    simp [Sto.obj, htu] at c8
    have th8 := hL1.thaw 8
    have hw8 : IntKind.i64.wrap (s.used - u) = s.used - u := by rw [IntKind.wrap_i64]; omega
    have k8 : ∀ v : Value, (W1.drew.setCell ⟨sb, 8, none⟩ v).cell? ⟨sb, 8, none⟩ = some v := fun v => World.cell?_setCell_same' _ _ _ (by show (W1.cell? _).isSome = true; rw [c8]; rfl)
    go_region_with (go_at_call 218; (with_reducible refine (cu _).mono ?_); rintro e w' ⟨rfl, hw⟩; (have hw' := hw.symm); subst hw'; clear hw)
    all_goals (
      have hL2 : Lay (W1.setCell ⟨sb, 8, none⟩ (.int .i64 (s.used - u))).drew sb vr vb vf { t with used := s.used - u } := (hL1.store (s' := { t with used := s.used - u }) 8 _ rfl rfl rfl rfl).drew
      have hU2 := (hU1.setCell (p := ⟨sb, 8, none⟩) (.inl hO.sb) (.int .i64 (s.used - u))).drew
      clear c8 th8 k8 hL1 hU1
      generalize World.drew (World.setCell W1 _ _) = W2 at *
      obtain ⟨b3, hb3⟩ : ∃ b3, ({ t with used := s.used - u } : Sto).get (k + 1) = some b3 := ⟨t.blks[k]'hkt, by unfold Sto.get; rw [if_neg (by omega)]; exact List.getElem?_eq_getElem hkt⟩
      obtain ⟨g, cap, hvb, hcap⟩ := own_slice hL2.blk (by show 0 < t.blks.length; omega)
      have pt : Pt sb vb (k + 1) g (k * 5) := .inr ⟨by omega, by rw [hvb]; rfl, by simp⟩
      have hvb' : vb = .slice (some ⟨g, 0, none⟩) t.blks.length cap := hvb
      have c6 := hL2.cell 6
      simp [Sto.obj, hvb'] at c6
      obtain ⟨a0, a1, a2, a3, a4⟩ := bcells hL2 hb3 pt
      have t0 := hL2.bthaw hb3 pt 0
      have t1 := hL2.bthaw hb3 pt 1
      have t2 := hL2.bthaw hb3 pt 2
      have t3 := hL2.bthaw hb3 pt 3
      have t4 := hL2.bthaw hb3 pt 4
      simp only [Nat.add_zero] at t0
      have i0 : (0 : Int) ≤ k := by omega
      have i1 : (k : Int) < t.blks.length := by omega
      have hL3 : Lay (((((W2.setCell ⟨g, k * 5, none⟩ (.bool false)).setCell ⟨g, k * 5 + 1, none⟩ (.int .i64 0)).setCell ⟨g, k * 5 + 2, none⟩ (.int .i64 0)).setCell ⟨g, k * 5 + 3, none⟩ (.int .i64 0)).setCell ⟨g, k * 5 + 4, none⟩ (.int .i64 0)) sb vr vb vf { t with blks := t.blks.set k noBlk, used := s.used - u } := by
        have := hL2.bfull hb3 pt noBlk
        rw [show ({ t with used := s.used - u } : Sto).set (k + 1) noBlk = { t with blks := t.blks.set k noBlk, used := s.used - u } by unfold Sto.set; rw [if_neg (by omega)]; rfl] at this
        exact this
      have hU3 := hU2.five (.inl (hO.pt pt)) (k * 5) (k * 5 + 1) (k * 5 + 2) (k * 5 + 3) (k * 5 + 4) (.bool false) (.int .i64 0) (.int .i64 0) (.int .i64 0) (.int .i64 0)
      have HVB := (show Hid _ from hvb')
      clear hvb hvb'
      go_upto_region 8 with fail
      clear a0 a1 a2 a3 a4 t0 t1 t2 t3 t4 c6 hL2 hU2
      generalize World.setCell (World.setCell (World.setCell (World.setCell (World.setCell W2 _ _) _ _) _ _) _ _) _ _ = W3 at *
      have cp := heapPush_c hL3 (by show t.free.length ≤ _; rw [htf]; exact hfl) (by show IsHeap t.free t.free.length; rw [htf]; exact hhp) k hO
      have HU := (show Hid _ from hU3)
      clear hL3 hU3
      go_wp2_with (go_at_call 219; (with_reducible refine cp.mono ?_); rintro e W4 ⟨rfl, hU4, free', vf', hp4, hh4, hL4, hO4⟩; clear cp)
      go_ret
      refine ⟨rfl, HU.out.trans (hU4.mono (fun k g => .inl g)), free', vf', ?_, hh4, hL4, hO4.mono ?_⟩
      · have : free'.Perm (t.free ++ [(k : Int)]) := hp4
        rw [htf] at this; exact this
      · rintro k (g | g)
        · exact .inl g
        · exact .inr ⟨by have := HU.out.size; omega, g.2⟩)
  · have hl00 : b.len = 0 := by omega
    have ets := ht0 hl00
    clear hl00
    go_upto_region 6 with (first | (go_at_call 215; (with_reducible refine ch.mono ?_); rintro e w' ⟨rfl, hw⟩; (have hw' := hw.symm); subst hw'; clear hw))
    have hL1 : Lay W sb vr vb vf t := by rw [ets]; exact h
    have hU1 := Upd.refl S W
    clear b2 c6 ets
    have c8 := hL1.cell 8
    simp [Sto.obj, htu] at c8
    have th8 := hL1.thaw 8
    have hw8 : IntKind.i64.wrap (s.used - u) = s.used - u := by rw [IntKind.wrap_i64]; omega
    have k8 : ∀ v : Value, (W.drew.setCell ⟨sb, 8, none⟩ v).cell? ⟨sb, 8, none⟩ = some v := fun v => World.cell?_setCell_same' _ _ _ (by show (W.cell? _).isSome = true; rw [c8]; rfl)
    go_region_with (go_at_call 218; (with_reducible refine (cu _).mono ?_); rintro e w' ⟨rfl, hw⟩; (have hw' := hw.symm); subst hw'; clear hw)
    all_goals (
      have hL2 : Lay (W.setCell ⟨sb, 8, none⟩ (.int .i64 (s.used - u))).drew sb vr vb vf { t with used := s.used - u } := (hL1.store (s' := { t with used := s.used - u }) 8 _ rfl rfl rfl rfl).drew
      have hU2 := (hU1.setCell (p := ⟨sb, 8, none⟩) (.inl hO.sb) (.int .i64 (s.used - u))).drew
      clear c8 th8 k8 hL1 hU1
      generalize World.drew (World.setCell W _ _) = W2 at *
      obtain ⟨b3, hb3⟩ : ∃ b3, ({ t with used := s.used - u } : Sto).get (k + 1) = some b3 := ⟨t.blks[k]'hkt, by unfold Sto.get; rw [if_neg (by omega)]; exact List.getElem?_eq_getElem hkt⟩
      obtain ⟨g, cap, hvb, hcap⟩ := own_slice hL2.blk (by show 0 < t.blks.length; omega)
      have pt : Pt sb vb (k + 1) g (k * 5) := .inr ⟨by omega, by rw [hvb]; rfl, by simp⟩
      have hvb' : vb = .slice (some ⟨g, 0, none⟩) t.blks.length cap := hvb
      have c6 := hL2.cell 6
      simp [Sto.obj, hvb'] at c6
      obtain ⟨a0, a1, a2, a3, a4⟩ := bcells hL2 hb3 pt
      have t0 := hL2.bthaw hb3 pt 0
      have t1 := hL2.bthaw hb3 pt 1
      have t2 := hL2.bthaw hb3 pt 2
      have t3 := hL2.bthaw hb3 pt 3
      have t4 := hL2.bthaw hb3 pt 4
      simp only [Nat.add_zero] at t0
      have i0 : (0 : Int) ≤ k := by omega
      have i1 : (k : Int) < t.blks.length := by omega
      have hL3 : Lay (((((W2.setCell ⟨g, k * 5, none⟩ (.bool false)).setCell ⟨g, k * 5 + 1, none⟩ (.int .i64 0)).setCell ⟨g, k * 5 + 2, none⟩ (.int .i64 0)).setCell ⟨g, k * 5 + 3, none⟩ (.int .i64 0)).setCell ⟨g, k * 5 + 4, none⟩ (.int .i64 0)) sb vr vb vf { t with blks := t.blks.set k noBlk, used := s.used - u } := by
        have := hL2.bfull hb3 pt noBlk
        rw [show ({ t with used := s.used - u } : Sto).set (k + 1) noBlk = { t with blks := t.blks.set k noBlk, used := s.used - u } by unfold Sto.set; rw [if_neg (by omega)]; rfl] at this
        exact this
      have hU3 := hU2.five (.inl (hO.pt pt)) (k * 5) (k * 5 + 1) (k * 5 + 2) (k * 5 + 3) (k * 5 + 4) (.bool false) (.int .i64 0) (.int .i64 0) (.int .i64 0) (.int .i64 0)
      have HVB := (show Hid _ from hvb')
      clear hvb hvb'
      go_upto_region 8 with fail
      clear a0 a1 a2 a3 a4 t0 t1 t2 t3 t4 c6 hL2 hU2
      generalize World.setCell (World.setCell (World.setCell (World.setCell (World.setCell W2 _ _) _ _) _ _) _ _) _ _ = W3 at *
      have cp := heapPush_c hL3 (by show t.free.length ≤ _; rw [htf]; exact hfl) (by show IsHeap t.free t.free.length; rw [htf]; exact hhp) k hO
      have HU := (show Hid _ from hU3)
      clear hL3 hU3
      go_wp2_with (go_at_call 219; (with_reducible refine cp.mono ?_); rintro e W4 ⟨rfl, hU4, free', vf', hp4, hh4, hL4, hO4⟩; clear cp)
      go_ret
      refine ⟨rfl, HU.out.trans (hU4.mono (fun k g => .inl g)), free', vf', ?_, hh4, hL4, hO4.mono ?_⟩
      · have : free'.Perm (t.free ++ [(k : Int)]) := hp4
        rw [htf] at this; exact this
      · rintro k (g | g)
        · exact .inl g
        · exact .inr ⟨by have := HU.out.size; omega, g.2⟩)
end
end Go.Proofs.YtgmimmdojkoppaaGreatDoor.W
/- Package store: Take of no bytes, and its errors. -/
namespace Go.Proofs.YtgmimmdojkoppaaGreatDoor.W
open Go.ChangeShapes Go.WideShapes Go.RowKit Go.Shelf
set_option linter.unusedVariables false
section
variable {W : World} {sb : Nat} {vr vb vf : Value} {s : Sto}
end
end Go.Proofs.YtgmimmdojkoppaaGreatDoor.W
/- Package store: how a store lies, in plain words: the ring as a list, and what each Id has. -/
namespace Go.Proofs.YtgmimmdojkoppaaGreatDoor.W
set_option linter.unusedVariables false
/-- an extent with bytes: its block's number, its place, its length -/
structure Ex where
  n : Nat
  p : Nat
  l : Nat
def up8N (l : Nat) : Nat := (l + 7) / 8 * 8
theorem up8N_eq (l : Nat) : up8 (l : Int) = (up8N l : Nat) := by unfold up8 up8N; omega
def Ex.stop (e : Ex) : Nat := e.p + up8N e.l
/-- the front, as an extent -/
def front : Ex := ⟨0, 0, 0⟩
/-- the ring: the front, then the extents in their order -/
def ring (E : List Ex) : List Ex := front :: E
/-- extents lie one behind the other, at multiples of 8 -/
def Lies (E : List Ex) (room : Nat) : Prop := (∀ i e f, (ring E)[i]? = some e → (ring E)[i + 1]? = some f → e.stop ≤ f.p) ∧ (∀ e ∈ E, e.p % 8 = 0 ∧ 0 < e.l ∧ e.n ≠ 0) ∧ (∀ e ∈ ring E, e.stop ≤ room)
/-- the block of an extent of the ring -/
def blkOf (E : List Ex) (i : Nat) (e : Ex) : Blk := ⟨decide (0 < i), e.p, e.l, (((ring E)[if i = 0 then E.length else i - 1]?.map Ex.n).getD 0 : Nat), (((ring E)[i + 1]?.map Ex.n).getD 0 : Nat)⟩
structure Good (s : Sto) (E : List Ex) : Prop where
  nodup : ((ring E).map Ex.n).Nodup
  lies : Lies E s.row.length
  get : ∀ i e, (ring E)[i]? = some e → s.get e.n = some (blkOf E i e)
  byte : ∀ x ∈ s.row, x < 256
  hand : ∃ e ∈ ring E, s.hand = (e.n : Nat)
  zero : ∀ id b, s.blks[id]? = some b → id + 1 ∉ (ring E).map Ex.n → b = noBlk ∨ b = ⟨true, 0, 0, 0, 0⟩
  heap : IsHeap s.free s.free.length
  nodupF : s.free.Nodup
  free : ∀ x : Int, x ∈ s.free ↔ ∃ id : Nat, x = id ∧ s.blks[id]? = some noBlk
  used : s.used = ((E.map (fun e => up8N e.l)).foldr (· + ·) 0 : Nat)
  row8 : s.row.length % 8 = 0
end Go.Proofs.YtgmimmdojkoppaaGreatDoor.W
/- Package store: from the ring as a list to what Pack and seek ask. -/
namespace Go.Proofs.YtgmimmdojkoppaaGreatDoor.W
set_option linter.unusedVariables false
def rg (E : List Ex) (i : Nat) : Ex := (ring E).getD i front
/-- where packing puts the i-th -/
def enE (E : List Ex) : Nat → Nat
  | 0 => 0
  | i + 1 => enE E i + up8N (rg E i).l
def numE (E : List Ex) : List Nat := (ring E).map Ex.n
section
variable {s : Sto} {E : List Ex}
theorem rg_get {i : Nat} (h : i < (ring E).length) : (ring E)[i]? = some (rg E i) := by
  unfold rg
  rw [List.getD, List.getElem?_eq_getElem h]; rfl
theorem rg_of {i : Nat} {e : Ex} (h : (ring E)[i]? = some e) : rg E i = e := by
  unfold rg
  rw [List.getD, h]; rfl
theorem ring_len : (ring E).length = E.length + 1 := rfl
theorem numE_len : (numE E).length = E.length + 1 := by simp [numE, ring]
theorem numE_get {i n : Nat} (h : (numE E)[i]? = some n) : i < (ring E).length ∧ n = (rg E i).n := by
  unfold numE at h
  rw [List.getElem?_map] at h
  cases e : (ring E)[i]? with
  | none => rw [e] at h; cases h
  | some x =>
    rw [e] at h
    cases h
    exact ⟨(List.getElem?_eq_some_iff.1 e).1, by rw [rg_of e]⟩
theorem rg_succ {r : Nat} (k : Lies E r) {i : Nat} (h : i + 1 < (ring E).length) : (rg E i).stop ≤ (rg E (i + 1)).p := k.1 i _ _ (rg_get (by omega)) (rg_get h)
theorem enE_le {r : Nat} (k : Lies E r) {i : Nat} (h : i < (ring E).length) : enE E i ≤ (rg E i).p := by
  induction i with
  | zero => exact Nat.zero_le _
  | succ i ih =>
    have h1 := ih (by omega)
    have h2 := rg_succ k h
    unfold Ex.stop at h2
    show enE E i + up8N (rg E i).l ≤ _
    omega
theorem rg_mem {i : Nat} (h : i < (ring E).length) : rg E i ∈ ring E := List.mem_of_getElem? (rg_get h)
theorem rg_memE {i : Nat} (h : i + 1 < (ring E).length) : rg E (i + 1) ∈ E := by
  have := rg_get h
  unfold ring at this
  rw [List.getElem?_cons_succ] at this
  exact List.mem_of_getElem? this
end
end Go.Proofs.YtgmimmdojkoppaaGreatDoor.W
/- Package store: moved together, extents have their bytes still. -/
namespace Go.Proofs.YtgmimmdojkoppaaGreatDoor.W
set_option linter.unusedVariables false
theorem seg_ext {r r' : List Nat} {a b n : Nat} (h : ∀ i, i < n → r[a + i]? = r'[b + i]?) : seg r a n = seg r' b n := by
  apply List.ext_getElem?
  intro i
  by_cases hi : i < n
  · rw [seg_get _ _ _ _ hi, seg_get _ _ _ _ hi]; exact h i hi
  · rw [List.getElem?_eq_none (by simp [seg]; omega), List.getElem?_eq_none (by simp [seg]; omega)]
theorem seg_setL_in (row : List Nat) (o : Nat) (vs : List Nat) (h : o + vs.length ≤ row.length) : seg (setL row o vs) o vs.length = vs := by
  apply List.ext_getElem?
  intro i
  by_cases hi : i < vs.length
  · rw [seg_get _ _ _ _ hi, setL_get _ _ _ _ h, if_pos (by omega), Nat.add_sub_cancel_left]
  · rw [List.getElem?_eq_none (by simp [seg]; omega), List.getElem?_eq_none (by omega)]
theorem seg_setL_out (row : List Nat) (o : Nat) (vs : List Nat) (a n : Nat) (h : o + vs.length ≤ row.length) (ho : a + n ≤ o ∨ o + vs.length ≤ a) : seg (setL row o vs) a n = seg row a n :=
  seg_ext (fun i hi => by rw [setL_get _ _ _ _ h, if_neg (by omega)])
theorem seg_take (row : List Nat) (m a n : Nat) (h : a + n ≤ m) : seg (row.take m) a n = seg row a n :=
  seg_ext (fun i hi => by rw [List.getElem?_take, if_pos (by omega)])
section
variable {s : Sto} {E : List Ex}
theorem rg_lt {r : Nat} (k : Lies E r) {i j : Nat} (hij : i < j) (hj : j < (ring E).length) : (rg E i).stop ≤ (rg E j).p := by
  induction j with
  | zero => omega
  | succ j ih =>
    have h1 := rg_succ k hj
    by_cases e : i = j
    · rw [e]; exact h1
    · have h2 := ih (by omega) (by omega)
      unfold Ex.stop at *
      omega
theorem enE_mono {i j : Nat} (h : i ≤ j) : enE E i ≤ enE E j := by
  induction j with
  | zero => have : i = 0 := by omega
            rw [this]; exact Nat.le_refl _
  | succ j ih =>
    by_cases e : i = j + 1
    · rw [e]; exact Nat.le_refl _
    · have := ih (by omega)
      show _ ≤ enE E j + up8N (rg E j).l
      omega
theorem up8N_ge (l : Nat) : l ≤ up8N l := by unfold up8N; omega
theorem up8N_mod (l : Nat) : up8N l % 8 = 0 := by unfold up8N; omega
theorem enE_mod (i : Nat) : enE E i % 8 = 0 := by
  induction i with
  | zero => rfl
  | succ i ih =>
    show (enE E i + up8N (rg E i).l) % 8 = 0
    have := up8N_mod (rg E i).l
    omega
abbrev pkE (s : Sto) (E : List Ex) : Nat → Sto := packN s (numE E) (fun i => blkOf E i (rg E i)) (fun i => (rg E i).p) (fun i => (rg E i).l) (enE E)
/-- the extents, moved together -/
def packE (E : List Ex) : List Ex := (List.range E.length).map (fun i => ⟨(rg E (i + 1)).n, enE E (i + 1), (rg E (i + 1)).l⟩)
theorem packE_len : (packE E).length = E.length := by simp [packE]
theorem packE_get {i : Nat} (h : i < (ring E).length) : (ring (packE E))[i]? = some ⟨(rg E i).n, enE E i, (rg E i).l⟩ := by
  cases i with
  | zero => rfl
  | succ i =>
    unfold ring packE
    rw [List.getElem?_cons_succ, List.getElem?_map, List.getElem?_range (by rw [ring_len] at h; omega)]
    rfl
theorem packE_num : numE (packE E) = numE E := by
  apply List.ext_getElem?
  intro i
  unfold numE
  rw [List.getElem?_map, List.getElem?_map]
  by_cases h : i < (ring E).length
  · rw [packE_get h, rg_get h]; rfl
  · rw [List.getElem?_eq_none (by rw [ring_len, packE_len]; rw [ring_len] at h; omega), List.getElem?_eq_none (by omega)]
theorem packE_rg {i : Nat} (h : i < (ring E).length) : rg (packE E) i = ⟨(rg E i).n, enE E i, (rg E i).l⟩ := rg_of (packE_get h)
end
end Go.Proofs.YtgmimmdojkoppaaGreatDoor.W
