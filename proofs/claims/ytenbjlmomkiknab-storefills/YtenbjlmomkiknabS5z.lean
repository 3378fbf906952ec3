/- container/heap over the free Ids: Push, Pop; leastId. -/
import Derived.Test.YtenbjlmomkiknabS5y
namespace Go.Proofs.Ytenbjlmomkiknab.W
open Go.ChangeShapes Go.WideShapes Go.RowKit Go.Shelf
set_option linter.unusedVariables false
section
variable {W : World} {sb : Nat} {vr vb vf : Value} {s : Sto}
theorem lenIds_c (o : Option Addr) (n c : Nat) (w : World) : Calls Try.prog 119 #[.slice o n c] w fun e w' => e = .returned (.int .i64 n) ∧ w' = w := by
  go_enter Try.func119, Try.ntmps119
  go_wp2
  go_ret
  exact ⟨rfl, rfl⟩
theorem heapPush_c (h : Lay W sb vr vb vf s) (hlen : s.free.length ≤ 100000000) (hh : IsHeap s.free s.free.length) (x : Int) {S : Nat → Prop} (hO : Own S sb vr vb vf) :
    Calls Try.prog 57 #[.iface 103 (.pointer (some ⟨sb, 7, none⟩)), .iface 3 (.int .i64 x)] W fun e w' => e = .returned (.tuple #[]) ∧ Upd S W w' ∧ ∃ free' vf', free'.Perm (s.free ++ [x]) ∧ IsHeap free' free'.length ∧ Lay w' sb vr vb vf' (s.fr free') ∧ Own (Nx S W w') sb vr vb vf' := by
  have m0 := meth_push sb W
  have c0 := push_m h (by omega) x hO
  go_enter Try.func57, Try.ntmps57
  go_upto_region 1 with (go_at_call 123; (with_reducible refine c0.mono ?_); rintro e W1 ⟨rfl, hU1, vf1, hL1, hO1⟩; clear c0 m0)
  have hl1 : (s.fr (s.free ++ [x])).free.length = s.free.length + 1 := by simp [Sto.fr]
  obtain ⟨g, cap, hvf, hcap⟩ := own_slice hL1.free (by simp)
  have hvf' : vf1 = .slice (some ⟨g, 0, none⟩) (s.fr (s.free ++ [x])).free.length cap := hvf
  have c7 := hL1.cell 7
  rw [hvf'] at c7
  have m1 := meth_len sb W1 (some ⟨g, 0, none⟩) (s.fr (s.free ++ [x])).free.length cap c7
  have hL1' : Lay W1 sb vr vb vf1 (s.fr (s.free ++ [x])) := hL1
  have cu := up_c hL1' hvf' (by rw [hl1]; omega) s.free.length (by rw [hl1]; exact up_start hh x)
  have cl := fun w => lenIds_c (some ⟨g, 0, none⟩) (s.fr (s.free ++ [x])).free.length cap w
  have HG : Hid (S g ∨ (W.heap.size ≤ g ∧ g < W1.heap.size)) := hO1.free g (by rw [hvf]; rfl)
  have HU := (show Hid _ from hU1)
  have HO := (show Hid _ from hO1)
  rw [hl1] at m1 cl
  have lb : ((s.free.length : Nat) : Int) ≤ 100000000 := by omega
  clear hL1 hL1' hU1 hO1 c7 hvf hvf' hcap
  go_wp2_with (first | (go_at_call 119; (with_reducible refine (cl _).mono ?_); rintro e w' ⟨rfl, hw⟩; (have hw' := hw.symm); subst hw'; clear hw) | (go_at_call 84; (with_reducible refine cu.mono ?_); rintro e W2 ⟨rfl, hU2, free', hp', hh', hL2⟩; clear cu))
  go_end0
  have hpl : free'.length = s.free.length + 1 := by rw [hp'.length_eq]; exact hl1
  rw [hl1] at hh'
  refine ⟨rfl, HU.out.trans (hU2.mono (by rintro k rfl; exact HG.out)), free', vf1, hp', by rw [hpl]; exact hh', hL2, HO.out.on hU2.size⟩
theorem pop_perm {l l' : List Int} {n : Nat} (hl : l'.length = n + 1) (hp' : l'.Perm l) : (hp l' n :: l'.dropLast).Perm l := by
  have e : l' = l'.dropLast ++ [hp l' n] := by
    have e1 : l'.drop n = [hp l' n] := by
      rw [List.drop_eq_getElem_cons (by omega), List.drop_of_length_le (by omega)]
      simp [hp, hl]
    have e2 : l'.dropLast = l'.take n := by rw [List.dropLast_eq_take, hl]; rfl
    rw [e2, ← e1, List.take_append_drop]
  have h1 : (hp l' n :: l'.dropLast).Perm (l'.dropLast ++ [hp l' n]) := (List.perm_append_singleton _ _).symm
  rw [← e] at h1
  exact h1.trans hp'
theorem dropLast_hp {l : List Int} {n k : Nat} (hl : l.length = n + 1) (hk : k < n) : hp l.dropLast k = hp l k := by
  unfold hp
  simp only [List.getD]
  rw [List.getElem?_dropLast, if_pos (by omega)]
theorem heapPop_c (h : Lay W sb vr vb vf s) (n : Nat) (hn : s.free.length = n + 1) (hlen : s.free.length ≤ 100000000) (hh : IsHeap s.free s.free.length) {S : Nat → Prop} (hO : Own S sb vr vb vf) :
    Calls Try.prog 81 #[.iface 103 (.pointer (some ⟨sb, 7, none⟩))] W fun e w' => e = .returned (.iface 3 (.int .i64 (hp s.free 0))) ∧ Upd S W w' ∧ ∃ free' vf', (hp s.free 0 :: free').Perm s.free ∧ IsHeap free' free'.length ∧ Lay w' sb vr vb vf' (s.fr free') ∧ Own S sb vr vb vf' := by
  obtain ⟨x0, hx0⟩ : ∃ x0, x0 = hp s.free 0 := ⟨_, rfl⟩
  rw [← hx0]
  have HX := (show Hid _ from hx0)
  clear hx0
  obtain ⟨g, cap, hf, hcap⟩ := own_slice h.free (by omega)
  have hSg : S g := hO.free g (by rw [hf]; rfl)
  have c7 := h.cell 7
  rw [hf] at c7
  have m1 := meth_len sb W (some ⟨g, 0, none⟩) s.free.length cap c7
  have m2 := meth_swap sb W (some ⟨g, 0, none⟩) s.free.length cap c7
  have cl := fun w => lenIds_c (some ⟨g, 0, none⟩) s.free.length cap w
  have csw : Calls Try.prog 121 #[.slice (some ⟨g, 0, none⟩) (n + 1) cap, .int .i64 0, .int .i64 n] W fun e w' => e = .returned (.tuple #[]) ∧ Lay w' sb vr vb vf (s.fr (swp s.free 0 n)) ∧ Upd (fun k => k = g) W w' := swap_h h (by rw [hf, hn]) hn (by omega) 0 n (by omega) (by omega)
  have HF := (show Hid _ from hf)
  have hlb : (n : Int) ≤ 100000000 := by omega
  rw [hn] at m1 m2 cl
  clear hf c7
  go_enter Try.func81, Try.ntmps81
  go_upto_region 3 with (first | (go_at_call 119; (with_reducible refine (cl _).mono ?_); rintro e w' ⟨rfl, hw⟩; (have hw' := hw.symm); subst hw'; clear hw) | (go_at_call 121; (with_reducible refine csw.mono ?_); rintro e W1 ⟨rfl, hL1, hU1⟩; clear csw))
  have hL1' : Lay W1 sb vr vb vf (s.fr (swp s.free 0 n)) := hL1
  have hl1 : (s.fr (swp s.free 0 n)).free.length = n + 1 := by show (swp s.free 0 n).length = _; rw [swp_len, hn]
  have hf1 : vf = .slice (some ⟨g, 0, none⟩) (s.fr (swp s.free 0 n)).free.length cap := by rw [HF.out, hl1, hn]
  have cd := down_c hL1' hf1 (by omega) n (by omega) (down_start (by rw [← hn]; exact hh) hn)
  have HU1 := (show Hid _ from hU1.mono (T := S) (by rintro k rfl; exact hSg))
  clear hL1 hL1' hU1 hf1 m1 m2 cl
  go_upto_region 4 with (go_at_call 97; (with_reducible refine cd.mono ?_); rintro e W2 ⟨⟨v2, rfl⟩, hU2, free', hp', hh', hk', hL2⟩; clear cd)
  have hpl : free'.length = n + 1 := by rw [hp'.length_eq]; exact hl1
  have hp2 : free'.Perm s.free := hp'.trans (swp_perm s.free 0 n (by omega) (by omega))
  have hx : hp free' n = hp s.free 0 := by
    rw [hk' n (Nat.le_refl _)]
    show hp (swp s.free 0 n) n = _
    rw [hp_swp _ _ _ _ (by omega) (by omega), if_pos rfl]
  have hL2' : Lay W2 sb vr vb vf (s.fr free') := hL2
  have cp := pop_m hL2' n hpl (by show free'.length ≤ _; omega) hO
  rw [show (s.fr free').free.getD n 0 = x0 from hx.trans HX.out.symm] at cp
  have m3 := meth_pop sb W2
  have HU2 := (show Hid _ from HU1.out.trans' (hU2.mono (T := S) (by rintro k rfl; exact hSg)))
  have HPm : Hid ((x0 :: free'.dropLast).Perm s.free) := by
    have := pop_perm hpl hp2
    rw [hx, ← HX.out] at this
    exact this
  have HH : Hid (IsHeap free'.dropLast free'.dropLast.length) := by
    intro k h0 hk
    have hdl : free'.dropLast.length = n := by simp [hpl]
    rw [hdl] at hk
    rw [dropLast_hp hpl (by omega), dropLast_hp hpl hk]
    exact hh' k h0 hk
  clear hL2 hL2' hU2 hp' hh' hk' hp2 hx
  go_wp2_with (go_at_call 122; (with_reducible refine cp.mono ?_); rintro e W3 ⟨rfl, hU3, vf3, hL3, hO3⟩; clear cp)
  go_ret
  exact ⟨rfl, HU2.out.trans' hU3, free'.dropLast, vf3, HPm.out, HH.out, hL3, hO3⟩
theorem leastId_pop (h : Lay W sb vr vb vf s) (n : Nat) (hn : s.free.length = n + 1) (hlen : s.free.length ≤ 100000000) (hh : IsHeap s.free s.free.length) {S : Nat → Prop} (hO : Own S sb vr vb vf) :
    Calls Try.prog 50 #[.pointer (some ⟨sb, 0, none⟩)] W fun e w' => e = .returned (.int .i64 (hp s.free 0)) ∧ Upd S W w' ∧ ∃ free' vf', (hp s.free 0 :: free').Perm s.free ∧ IsHeap free' free'.length ∧ Lay w' sb vr vb vf' (s.fr free') ∧ Own S sb vr vb vf' := by
  obtain ⟨o, cap, hvf⟩ := slice_of h.free
  have c7 := h.cell 7
  simp [Sto.obj, hvf, hn] at c7
  have cp := heapPop_c h n hn hlen hh hO
  clear hvf
  generalize hp s.free 0 = x0 at *
  have hta := assert_int x0
  go_enter Try.func50, Try.ntmps50
  go_wp2_with (go_at_call 81; (with_reducible refine cp.mono ?_); rintro e W3 ⟨rfl, hU3, free', vf3, hp3, hh3, hL3, hO3⟩; clear cp)
  go_ret
  exact ⟨rfl, hU3, free', vf3, hp3, hh3, hL3, hO3⟩
end
end Go.Proofs.Ytenbjlmomkiknab.W
