import Derived.Test.YtmeoonnofiicpaaS8mJ
/- act, whole. -/
namespace Go.Proofs.Ytmeoonnofiicpaa.W.R5
open Go.ChangeShapes Go.WideShapes Go.RowKit Go.Shelf
set_option linter.unusedVariables false
set_option linter.unusedSimpArgs false
section
variable {B0 : Nat} {W w' w'' : World} {K : Nat → Prop} {sb rb M M1 M2 n : Nat} {A A1 A2 : List (Option (List Nat))} {a : Si.A6}
theorem jq_below (h : Jq B0 W w' K sb rb A1 M1 A2 M2 n a) (hB : Below w'.heap.size w' w'') : Jq B0 W w'' K sb rb A1 M1 A2 M2 n a := by
  obtain ⟨S, l, v, h0, h1, h2, h3, h4, h5, h6⟩ := h
  have l2 := (Array.getElem?_eq_some_iff.1 h6.c2).1
  have z := hB.size
  exact ⟨S, l, v, h0.on (fun k e => hB.block k (h3 k e).2.1), h1.below hB, h2, fun k e => ⟨(h3 k e).1, by have := (h3 k e).2.1; omega, (h3 k e).2.2⟩, h4, h5.trans' (Upd.of_below hB), h6.on (fun k e1 e2 => hB.block k (by omega))⟩
theorem id_cases (A : List (Option (List Nat))) (id : Int) : (id < 0 ∨ (A[id.toNat]?).getD none = none) ∨ ∃ (k : Nat) (x : List Nat), id = k ∧ A[k]? = some (some x) := by
  by_cases h0 : id < 0
  · exact .inl (.inl h0)
  · cases hx : (A[id.toNat]?).getD none with
    | none => exact .inl (.inr rfl)
    | some x =>
      refine .inr ⟨id.toNat, x, by omega, ?_⟩
      cases hy : A[id.toNat]? with
      | none => rw [hy] at hx; cases hx
      | some y => rw [hy] at hx; exact congrArg some hx
/-- what act leaves -/
def Aft (B0 : Nat) (W : World) (K : Nat → Prop) (sb rb : Nat) (A : List (Option (List Nat))) (M n : Nat) (w' : World) : Prop := Upd K W w' ∧ ∃ A' M', Bo B0 w' (fun k => K k ∨ W.heap.size ≤ k) sb rb A' M' n ∧ A'.length ≤ A.length + 1 ∧ M' ≤ M + 8388608
theorem aft_same (h : Bo B0 W K sb rb A M n) (hB : Below W.heap.size W w') : Aft B0 W K sb rb A M n w' := by
  obtain ⟨S, l, v, h1, h2, h3, h4, h5⟩ := bo_below h hB
  exact ⟨Upd.of_below hB, A, M, ⟨S, l, v, h1, h2, h3, fun k e => ⟨(h4 k e).1, (h4 k e).2.1, .inl (h4 k e).2.2⟩, fun k e => .inl (h5 k e)⟩, by omega, by omega⟩
theorem aft_end {A' : List (Option (List Nat))} {M' : Nat} (h : Jq B0 W w' K sb rb A' M' A' M' n a) (hA : A'.length ≤ A.length + 1) (hM : M' ≤ M + 8388608) : Aft B0 W K sb rb A M n (w'.setCell ⟨W.heap.size + 2, 0, none⟩ (.bool true)) := ⟨(jq_end h).1, A', M', (jq_end h).2, hA, hM⟩
theorem act3_c (h : Bo B0 W K sb rb A M n) (hk : a.what = 3) : Calls Try.prog 7 #[(Value.pointer (some ⟨sb, 0, none⟩)), (Value.pointer (some ⟨rb, 0, none⟩)), (Value.agg #[.int .i64 a.what, .int .i64 a.n, .int .i64 a.id, .int .i64 a.off, .int .i64 a.wd, .int .u64 a.x])] W fun e w' => e = .returned (.bool true) ∧ Aft B0 W K sb rb A M n w' := by
  have kx : ∀ w', Jq B0 W w' K sb rb A M A M n a → Bx W w' rb a := fun w' ⟨_, _, _, _, _, _, _, _, _, h⟩ => h
  rcases id_cases A a.id with hx | ⟨k, x, hi, hx⟩
  · refine (act3_g a hk 0 30 (fun w => Jq B0 W w K sb rb A M A M n a) (fun w => Jq B0 W w K sb rb A M A M n a) ?_ kx ?_ kx).mono ?_
    · intro w' bx hB hz
      have j := jq_start h hB bx
      have j' := j
      obtain ⟨S, l, v, h0, h1, h2, h3, h4, h5, h6⟩ := j'
      refine (len_st_err h0 a.id hx).mono ?_
      rintro e w2 ⟨rfl, rfl⟩
      exact ⟨rfl, j⟩
    · intro w' j
      have j' := j
      obtain ⟨S, l, v, h0, h1, h2, h3, h4, h5, h6⟩ := j'
      refine (rlen_none h1 hx).mono ?_
      rintro e w2 ⟨rfl, b2⟩
      exact ⟨rfl, jq_below j b2⟩
    · rintro e w' ⟨rfl, w2, j, rfl⟩
      exact ⟨rfl, aft_end j (by omega) (by omega)⟩
  · refine (act3_g a hk (x.length : Nat) 0 (fun w => Jq B0 W w K sb rb A M A M n a) (fun w => Jq B0 W w K sb rb A M A M n a) ?_ kx ?_ kx).mono ?_
    · intro w' bx hB hz
      have j := jq_start h hB bx
      have j' := j
      obtain ⟨S, l, v, h0, h1, h2, h3, h4, h5, h6⟩ := j'
      rw [hi]
      refine (len_st h0 k x hx).mono ?_
      rintro e w2 ⟨rfl, rfl⟩
      exact ⟨rfl, j⟩
    · intro w' j
      have j' := j
      obtain ⟨S, l, v, h0, h1, h2, h3, h4, h5, h6⟩ := j'
      rw [hi]
      refine (rlen_some h1 hx).mono ?_
      rintro e w2 ⟨rfl, b2⟩
      exact ⟨rfl, jq_below j b2⟩
    · rintro e w' ⟨rfl, w2, j, rfl⟩
      exact ⟨rfl, aft_end j (by omega) (by omega)⟩
theorem act2_c (h : Bo B0 W K sb rb A M n) (hk : a.what = 2) : Calls Try.prog 7 #[(Value.pointer (some ⟨sb, 0, none⟩)), (Value.pointer (some ⟨rb, 0, none⟩)), (Value.agg #[.int .i64 a.what, .int .i64 a.n, .int .i64 a.id, .int .i64 a.off, .int .i64 a.wd, .int .u64 a.x])] W fun e w' => e = .returned (.bool true) ∧ Aft B0 W K sb rb A M n w' := by
  have kx : ∀ A1 A2 w', Jq B0 W w' K sb rb A1 M A2 M n a → Bx W w' rb a := fun A1 A2 w' ⟨_, _, _, _, _, _, _, _, _, h⟩ => h
  rcases id_cases A a.id with hx | ⟨k, x, hi, hx⟩
  · refine (act2_g a hk 30 (fun w => Jq B0 W w K sb rb A M A M n a) (fun w => Jq B0 W w K sb rb A M A M n a) ?_ (kx _ _) ?_ (kx _ _)).mono ?_
    · intro w' bx hB hz
      have j := jq_start h hB bx
      have j' := j
      obtain ⟨S, l, v, h0, h1, h2, h3, h4, h5, h6⟩ := j'
      refine (give_st_err h0 a.id hx).mono ?_
      rintro e w2 ⟨rfl, rfl⟩
      exact ⟨rfl, j⟩
    · intro w' j
      have j' := j
      obtain ⟨S, l, v, h0, h1, h2, h3, h4, h5, h6⟩ := j'
      refine (rgive_none h1 hx).mono ?_
      rintro e w2 ⟨rfl, b2⟩
      exact ⟨rfl, jq_below j b2⟩
    · rintro e w' ⟨rfl, w2, j, rfl⟩
      exact ⟨rfl, aft_end j (by omega) (by omega)⟩
  · refine (act2_g a hk 0 (fun w => Jq B0 W w K sb rb (A.set k none) M A M n a) (fun w => Jq B0 W w K sb rb (A.set k none) M (A.set k none) M n a) ?_ (kx _ _) ?_ (kx _ _)).mono ?_
    · intro w' bx hB hz
      obtain ⟨S, l, v, h0, h1, h2, h3, h4, h5, h6⟩ := jq_start h hB bx
      rw [hi]
      refine (give_st h0 k x hx).mono ?_
      rintro e w2 ⟨rfl, hU, hS⟩
      exact ⟨rfl, jq_one h1 h2 h3 h4 h5 h6 hU hS⟩
    · intro w' j
      obtain ⟨S, l, v, h0, h1, h2, h3, h4, h5, h6⟩ := j
      rw [hi]
      refine (rgive_ok h1 hx).mono ?_
      rintro e w2 ⟨rfl, hU, l', v', hR, hM⟩
      exact ⟨rfl, jq_two h0 h1 h2 h3 h4 h5 h6 (hU.mono (fun k e => .inl e)) hR hM⟩
    · rintro e w' ⟨rfl, w2, j, rfl⟩
      exact ⟨rfl, aft_end j (by rw [List.length_set]; omega) (by omega)⟩
theorem act1_c (h : Bo B0 W K sb rb A M n) (hk : a.what = 1) (hA : A.length < n) (hA2 : A.length < 1000) (hM : M + 8388608 ≤ 100000000000) : Calls Try.prog 7 #[(Value.pointer (some ⟨sb, 0, none⟩)), (Value.pointer (some ⟨rb, 0, none⟩)), (Value.agg #[.int .i64 a.what, .int .i64 a.n, .int .i64 a.id, .int .i64 a.off, .int .i64 a.wd, .int .u64 a.x])] W fun e w' => e = .returned (.bool true) ∧ Aft B0 W K sb rb A M n w' := by
  have kx : ∀ A1 A2 M1 M2 w', Jq B0 W w' K sb rb A1 M1 A2 M2 n a → Bx W w' rb a := fun A1 A2 M1 M2 w' ⟨_, _, _, _, _, _, _, _, _, h⟩ => h
  by_cases c0 : a.n < 0
  · refine (act1_g a hk 0 13 (fun w => Jq B0 W w K sb rb A M A M n a) (fun w => Jq B0 W w K sb rb A M A M n a) ?_ (kx _ _ _ _) ?_ (kx _ _ _ _)).mono ?_
    · intro w' bx hB hz
      refine (take_low a.n c0 _).mono ?_
      rintro e w2 ⟨rfl, rfl⟩
      exact ⟨rfl, jq_start h hB bx⟩
    · intro w' j
      refine (rtake_low w' rb a.n c0).mono ?_
      rintro e w2 ⟨rfl, rfl⟩
      exact ⟨rfl, j⟩
    · rintro e w' ⟨rfl, w2, j, rfl⟩
      exact ⟨rfl, aft_end j (by omega) (by omega)⟩
  · by_cases c1 : 8388608 < a.n
    · refine (act1_g a hk 0 2 (fun w => Jq B0 W w K sb rb A M A M n a) (fun w => Jq B0 W w K sb rb A M A M n a) ?_ (kx _ _ _ _) ?_ (kx _ _ _ _)).mono ?_
      · intro w' bx hB hz
        refine (take_high a.n c1 _).mono ?_
        rintro e w2 ⟨rfl, rfl⟩
        exact ⟨rfl, jq_start h hB bx⟩
      · intro w' j
        refine (rtake_long w' rb a.n c1).mono ?_
        rintro e w2 ⟨rfl, rfl⟩
        exact ⟨rfl, j⟩
      · rintro e w' ⟨rfl, w2, j, rfl⟩
        exact ⟨rfl, aft_end j (by omega) (by omega)⟩
    · obtain ⟨m, hm⟩ : ∃ m : Nat, a.n = m := ⟨a.n.toNat, by omega⟩
      have hm8 : m ≤ 8388608 := by omega
      have hu8 : up8N m ≤ 8388608 := by unfold up8N; omega
      have hsum : sumA (putA A (leastA A) (some (List.replicate m 0))) = sumA A + up8N m := by rw [sumA_put, List.length_replicate]
      have htop : sumA A ≤ M := by
        obtain ⟨S, l, v, ⟨s, E, vr, vb, vf, hL, hO, f⟩, _⟩ := h
        exact f.top
      obtain ⟨A', hA'⟩ : ∃ A', putA A (leastA A) (some (List.replicate m 0)) = A' := ⟨_, rfl⟩
      obtain ⟨M', hM'⟩ : ∃ M', max M (sumA A') = M' := ⟨_, rfl⟩
      rw [hA'] at hsum
      have hMM : M ≤ M' ∧ M' ≤ M + 8388608 ∧ sumA A + up8N m ≤ M' := by omega
      refine (act1_g a hk (leastA A : Nat) 0 (fun w => Jq B0 W w K sb rb A' M' A M n a) (fun w => Jq B0 W w K sb rb A' M' A' M' n a) ?_ (kx _ _ _ _) ?_ (kx _ _ _ _)).mono ?_
      · intro w' bx hB hz
        obtain ⟨S, l, v, h0, h1, h2, h3, h4, h5, h6⟩ := jq_start h hB bx
        have hn9 : n ≤ 100000000 := by
          obtain ⟨s, E, vr, vb, vf, hL, hO, f⟩ := h0
          exact f.n9
        rw [hm]
        refine (take_st (St.up h0 hMM.1 (by omega) (Nat.le_refl n) hn9) m hm8 hMM.2.2 hA).mono ?_
        rintro e w2 ⟨rfl, hU, hS⟩
        rw [hA'] at hS
        exact ⟨rfl, jq_one h1 h2 h3 h4 h5 h6 hU hS⟩
      · intro w' j
        obtain ⟨S, l, v, h0, h1, h2, h3, h4, h5, h6⟩ := j
        rw [hm]
        refine (rtake_ok h1 m hm8 hA2).mono ?_
        rintro e w2 ⟨rfl, hU, l', v', hR, hMi⟩
        rw [hA', hM'] at hR
        exact ⟨rfl, jq_two h0 h1 h2 h3 h4 h5 h6 (hU.mono (fun k e => .inl e)) hR hMi⟩
      · rintro e w' ⟨rfl, w2, j, rfl⟩
        exact ⟨rfl, aft_end j (by rw [← hA']; exact putA_len A _) hMM.2.1⟩
end
end Go.Proofs.Ytmeoonnofiicpaa.W.R5
