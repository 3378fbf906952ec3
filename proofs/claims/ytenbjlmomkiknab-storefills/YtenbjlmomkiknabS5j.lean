/- Package store: link, unlink. -/
import Derived.Test.YtenbjlmomkiknabS5i
import Derived.Deep.Cut
import Derived.Deep.DeepCutAuto
namespace Go.Proofs.Ytenbjlmomkiknab.W
open Go.ChangeShapes Go.WideShapes Go.RowKit Go.Shelf
set_option linter.unusedVariables false

theorem get_set_same {s : Sto} {n : Nat} {b : Blk} (h : s.get n = some b) (c : Blk) : (s.set n c).get n = some c := by
  unfold Sto.get Sto.set at *
  split
  · simp
  · rw [if_neg (by assumption)] at h
    have := (List.getElem?_eq_some_iff.1 h).1
    simp [this]
theorem get_set_ne {s : Sto} {n m : Nat} (c : Blk) (h : m ≠ n) : (s.set n c).get m = s.get m := by
  unfold Sto.get Sto.set
  by_cases hn : n = 0
  · rw [if_pos hn, if_neg (by omega), if_neg (by omega)]
  · rw [if_neg hn]
    by_cases hm : m = 0
    · rw [if_pos hm, if_pos hm]
    · rw [if_neg hm, if_neg hm]
      simp only []
      rw [List.getElem?_set_ne (by omega)]
theorem set_row (s : Sto) (n : Nat) (c : Blk) : (s.set n c).row = s.row := by unfold Sto.set; split <;> rfl
theorem set_len (s : Sto) (n : Nat) (c : Blk) : (s.set n c).blks.length = s.blks.length := by unfold Sto.set; split <;> simp
theorem set_free (s : Sto) (n : Nat) (c : Blk) : (s.set n c).free = s.free := by unfold Sto.set; split <;> rfl
theorem set_used (s : Sto) (n : Nat) (c : Blk) : (s.set n c).used = s.used := by unfold Sto.set; split <;> rfl
theorem set_hand (s : Sto) (n : Nat) (c : Blk) : (s.set n c).hand = s.hand := by unfold Sto.set; split <;> rfl
theorem set_sought (s : Sto) (n : Nat) (c : Blk) : (s.set n c).sought = s.sought := by unfold Sto.set; split <;> rfl
theorem set_set (s : Sto) (n : Nat) (b c : Blk) : (s.set n b).set n c = s.set n c := by
  unfold Sto.set
  split <;> simp
def Sto.getD (s : Sto) (n : Nat) : Blk := (s.get n).getD ⟨false, 0, 0, 0, 0⟩
theorem getD_of {s : Sto} {n : Nat} {b : Blk} (h : s.get n = some b) : s.getD n = b := by simp [Sto.getD, h]
def Sto.linked1 (s : Sto) (n bk nx : Nat) : Sto := s.set n { s.getD n with back := bk, next := nx }
def Sto.linked2 (s : Sto) (n bk nx : Nat) : Sto := (s.linked1 n bk nx).set bk { (s.linked1 n bk nx).getD bk with next := n }
/-- a block put into the ring -/
def Sto.linked (s : Sto) (n bk nx : Nat) : Sto := (s.linked2 n bk nx).set nx { (s.linked2 n bk nx).getD nx with back := n }
section
variable {W : World} {sb : Nat} {vr vb vf : Value} {s : Sto}
theorem link_c (h : Lay W sb vr vb vf s) (hlen : s.blks.length ≤ 1000000000) (n bk nx : Nat) (bn bb bx : Blk) (hn : s.get n = some bn) (hb : s.get bk = some bb) (hnx : bb.next = nx) (hx : s.get nx = some bx) (hne1 : bk ≠ n) (hne2 : nx ≠ n) {S : Nat → Prop} (hO : Own S sb vr vb vf) :
    Calls Try.prog 83 #[.pointer (some ⟨sb, 0, none⟩), .int .i64 n, .int .i64 bk] W fun e w' => e = .returned (.tuple #[]) ∧ Lay w' sb vr vb vf (s.linked n bk nx) ∧ Upd S W w' := by
  obtain ⟨Bn, On, pn⟩ := h.pt hn
  obtain ⟨Bb, Ob, pb⟩ := h.pt hb
  obtain ⟨Bx, Ox, px⟩ := h.pt hx
  have hU := Upd.refl S W
  have g1 : (s.linked1 n bk nx).get bk = some bb := by unfold Sto.linked1; rw [get_set_ne _ hne1, hb]
  have g2 : ∃ b2, (s.linked2 n bk nx).get nx = some b2 := by
    unfold Sto.linked2
    by_cases e : nx = bk
    · subst e; exact ⟨_, get_set_same g1 _⟩
    · rw [get_set_ne _ e]; unfold Sto.linked1; rw [get_set_ne _ hne2]; exact ⟨_, hx⟩
  obtain ⟨b2, g2⟩ := g2
  have l1 : (s.linked1 n bk nx).blks.length ≤ 1000000000 := by unfold Sto.linked1; rw [set_len]; exact hlen
  have l2 : (s.linked2 n bk nx).blks.length ≤ 1000000000 := by unfold Sto.linked2; rw [set_len]; exact l1
  go_enter Try.func83, Try.ntmps83
  obtain ⟨_, _, _, _, c4⟩ := bcells h hb pb
  rw [hnx] at c4
  have cb := block_c W sb vr vb vf s h bk bb hb hlen Bb Ob pb
  go_upto_region 1 with (go_at_call 59; (with_reducible refine cb.mono ?_); rintro e w' ⟨rfl, hw⟩; (have hw' := hw.symm); subst hw'; clear hw)
  clear cb c4
  have cb := block_c W sb vr vb vf s h n bn hn hlen Bn On pn
  obtain ⟨_, _, _, d3, d4⟩ := bcells h hn pn
  have t3 := h.bthaw hn pn 3
  have t4 := h.bthaw hn pn 4
  go_upto_region 2 with (go_at_call 59; (with_reducible refine cb.mono ?_); rintro e w' ⟨rfl, hw⟩; (have hw' := hw.symm); subst hw'; clear hw)
  have h1 := (h.bstore (c := { bn with back := bk }) hn pn 3 (by omega) (.int .i64 bk) rfl)
  have h2 := (h1.bstore (c := { bn with back := bk, next := nx }) (get_set_same hn _) pn 4 (by omega) (.int .i64 nx) rfl)
  have e1 : (s.set n { bn with back := bk }).set n { bn with back := bk, next := nx } = s.linked1 n bk nx := by rw [set_set]; unfold Sto.linked1; rw [getD_of hn]
  have hL1 : Lay ((W.setCell ⟨Bn, On + 3, none⟩ (.int .i64 bk)).setCell ⟨Bn, On + 4, none⟩ (.int .i64 nx)) sb vr vb vf (s.linked1 n bk nx) := by rw [← e1]; exact h2
  have hU1 := (hU.setCell (p := ⟨Bn, On + 3, none⟩) (.inl (hO.pt pn)) (.int .i64 bk)).setCell (p := ⟨Bn, On + 4, none⟩) (.inl (hO.pt pn)) (.int .i64 nx)
  clear h1 h2 e1 cb d3 d4 t3 t4
  generalize World.setCell (World.setCell W _ _) _ _ = W1 at *
  have cb := block_c W1 sb vr vb vf _ hL1 bk bb g1 l1 Bb Ob pb
  obtain ⟨_, _, _, _, d4⟩ := bcells hL1 g1 pb
  have t4 := hL1.bthaw g1 pb 4
  go_upto_region 3 with (go_at_call 59; (with_reducible refine cb.mono ?_); rintro e w' ⟨rfl, hw⟩; (have hw' := hw.symm); subst hw'; clear hw)
  have hL2 : Lay (W1.setCell ⟨Bb, Ob + 4, none⟩ (.int .i64 n)) sb vr vb vf (s.linked2 n bk nx) := hL1.bstore g1 pb 4 (by omega) (.int .i64 n) (by rw [getD_of g1]; rfl)
  have hU2 := hU1.setCell (p := ⟨Bb, Ob + 4, none⟩) (.inl (hO.pt pb)) (.int .i64 n)
  clear cb d4 t4 hL1 hU1
  generalize World.setCell W1 _ _ = W2 at *
  have cb := block_c W2 sb vr vb vf _ hL2 nx b2 g2 l2 Bx Ox px
  obtain ⟨_, _, _, d3, _⟩ := bcells hL2 g2 px
  have t3 := hL2.bthaw g2 px 3
  have hL3 : Lay (W2.setCell ⟨Bx, Ox + 3, none⟩ (.int .i64 n)) sb vr vb vf (s.linked n bk nx) := hL2.bstore g2 px 3 (by omega) (.int .i64 n) (by rw [getD_of g2]; rfl)
  have hU3 := hid (hU2.setCell (p := ⟨Bx, Ox + 3, none⟩) (.inl (hO.pt px)) (.int .i64 n))
  have HL := hid hL3
  clear hL3
  go_wp2_with (go_at_call 59; (with_reducible refine cb.mono ?_); rintro e w' ⟨rfl, hw⟩; (have hw' := hw.symm); subst hw'; clear hw)
  go_end0
  exact ⟨rfl, HL, hU3⟩
end
end Go.Proofs.Ytenbjlmomkiknab.W
