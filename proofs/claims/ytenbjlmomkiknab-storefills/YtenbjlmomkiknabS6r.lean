/- Package store: New and Save over what all Ids hold. -/
import Derived.Test.YtenbjlmomkiknabS6q
namespace Go.Proofs.Ytenbjlmomkiknab.W
open Go.ChangeShapes Go.WideShapes Go.RowKit Go.Shelf
set_option linter.unusedVariables false
theorem seg_saved_in (row : List Nat) (p l o v w : Nat) (h : o + w ≤ l) (hr : p + l ≤ row.length) : seg (saved row (p + o) v w) p l = saved (seg row p l) o v w := by
  apply List.ext_getElem?
  intro i
  have hl := seg_len row p l hr
  by_cases hi : i < l
  · rw [seg_get _ _ _ _ hi, saved_get _ _ _ _ _ (by omega), saved_get _ _ _ _ _ (by omega), seg_get _ _ _ _ hi]
    by_cases c : o ≤ i ∧ i < o + w
    · rw [if_pos (by omega), if_pos c, show p + i - (p + o) = i - o by omega]
    · rw [if_neg (by omega), if_neg c]
  · rw [List.getElem?_eq_none (by simp [seg]; omega), List.getElem?_eq_none (by rw [saved_len]; omega)]
theorem seg_saved_out (row : List Nat) (q v w a n : Nat) (hr : q + w ≤ row.length) (ho : a + n ≤ q ∨ q + w ≤ a) : seg (saved row q v w) a n = seg row a n :=
  seg_ext (fun i hi => by rw [saved_get _ _ _ _ _ hr, if_neg (by omega)])
theorem saved_byte (row : List Nat) (p v k : Nat) (h : ∀ x ∈ row, x < 256) : ∀ x ∈ saved row p v k, x < 256 := by
  induction k with
  | zero => exact h
  | succ k ih =>
    intro x hx
    rcases List.mem_or_eq_of_mem_set hx with g | g
    · exact ih x g
    · rw [g]; exact Nat.mod_lt _ (by omega)
section
variable {W : World} {sb : Nat} {S : Nat → Prop} {A : List (Option (List Nat))} {U N : Nat}
theorem save_st (h : St W S sb A U N) (id : Nat) (x : List Nat) (hx : A[id]? = some (some x)) (o wd v : Nat) (hv : v < 18446744073709551616) (hw : wd = 1 ∨ wd = 2 ∨ wd = 4 ∨ wd = 8) (ha : o % wd = 0) (ho : o + wd ≤ x.length) : Calls Try.prog 25 #[.pointer (some ⟨sb, 0, none⟩), .int .i64 id, .int .i64 o, .int .i64 wd, .int .u64 v] W fun e w' => e = .returned (.int .i64 0) ∧ Upd S W w' ∧ St w' S sb (A.set id (some (saved x o v wd))) U N := by
  obtain ⟨s, E, vr, vb, vf, hL, hO, f⟩ := h
  have hidA := (List.getElem?_eq_some_iff.1 hx).1
  have hAx : A[id] = some x := (List.getElem?_eq_some_iff.1 hx).2
  have hheld : held s id = some x := by rw [f.all.2, hx]; rfl
  obtain ⟨b, hb, hlv, hxs⟩ := held_some hheld
  obtain ⟨p, l, hp, hl, hin⟩ := fine_in f.good hb hlv
  have hxl : x = seg s.row p l := by rw [hxs, hp, hl, Int.toNat_natCast, Int.toNat_natCast]
  have hxl2 : x.length = l := by rw [hxl]; exact seg_len _ _ _ hin
  have hsA := sumA_set A id (some (saved x o v wd)) hidA
  rw [hAx] at hsA
  have e1 : lenA (some (saved x o v wd)) = lenA (some x) := by show up8N _ = up8N _; rw [saved_len]
  rw [e1] at hsA
  have hsum : sumA (A.set id (some (saved x o v wd))) = sumA A := by omega
  refine (save_ok hL f.fit id wd v hv b (ext_of hb hlv) hw o p hp (by omega) (by omega) (by omega) hO).mono ?_
  rintro e w' ⟨rfl, hL', hU'⟩
  refine ⟨rfl, hU', _, E, vr, vb, vf, hL', hO, ?_, ⟨?_, ?_⟩, by rw [hsum]; exact f.sum, f.lens, ?_, by rw [hsum]; exact f.top, by rw [List.length_set]; exact f.num, f.u9, f.n9⟩
  · have g := f.good
    exact ⟨g.nodup, by show Lies E (saved _ _ _ _).length; rw [saved_len]; exact g.lies, g.get, saved_byte _ _ _ _ g.byte, g.hand, g.zero, g.heap, g.nodupF, g.free, g.used, by show (saved _ _ _ _).length % 8 = 0; rw [saved_len]; exact g.row8⟩
  · rw [List.length_set]; exact f.all.1
  · intro i
    by_cases c : i = id
    · rw [c, List.getElem?_set_self hidA]
      unfold held
      show (match s.blks[id]? with | some b => if b.live = true then some (seg (saved s.row (p + o) v wd) b.pos.toNat b.len.toNat) else none | none => none) = some (saved x o v wd)
      rw [hb]
      simp only [hlv, if_true, hp, hl, Int.toNat_natCast]
      rw [seg_saved_in _ _ _ _ _ _ (by omega) hin, ← hxl]
    · rw [List.getElem?_set_ne (by omega), ← f.all.2 i]
      refine held_get i rfl ?_
      intro b' hb' hlv'
      rw [get_blks] at hb'
      show seg (saved s.row (p + o) v wd) _ _ = _
      rcases fine_at f.good hb' hlv' with ⟨k', hk', hki', rfl⟩ | ⟨_, rfl⟩
      · rcases fine_at f.good hb hlv with ⟨k, hk, hki, rfl⟩ | ⟨_, rfl⟩
        · have hp' : (rg E (k + 1)).p = p := Int.ofNat_inj.1 hp
          have hl' : (rg E (k + 1)).l = l := Int.ofNat_inj.1 hl
          have hne : k ≠ k' := by rintro rfl; omega
          show seg _ (rg E (k' + 1)).p (rg E (k' + 1)).l = seg _ (rg E (k' + 1)).p (rg E (k' + 1)).l
          refine seg_saved_out _ _ _ _ _ _ (by omega) ?_
          have u1 := up8N_ge (rg E (k + 1)).l
          have u2 := up8N_ge (rg E (k' + 1)).l
          rcases Nat.lt_or_gt_of_ne hne with c | c
          · have := rg_lt f.good.lies (i := k + 1) (j := k' + 1) (by omega) hk'
            unfold Ex.stop at this
            right; omega
          · have := rg_lt f.good.lies (i := k' + 1) (j := k + 1) (by omega) hk
            unfold Ex.stop at this
            left; omega
        · have : l = 0 := Int.ofNat_inj.1 hl.symm
          omega
      · rfl
  · show (saved _ _ _ _).length ≤ _
    rw [saved_len]; exact f.row
theorem new_st (W : World) (U N : Nat) (hU : U ≤ 100000000000) (hN : N ≤ 100000000) : Calls Try.prog 18 #[] W fun e w' => e = .returned (.pointer (some ⟨W.heap.size, 0, none⟩)) ∧ St w' (fun k => k = W.heap.size) W.heap.size [] U N ∧ Below W.heap.size W w' ∧ w'.heap.size = W.heap.size + 1 := by
  refine (new_c W).mono ?_
  rintro e w' ⟨rfl, hL, hB, hz⟩
  refine ⟨rfl, ⟨emptySto, [], _, _, _, hL, ?_, ?_⟩, hB, hz⟩
  · exact ⟨rfl, by simp [Value.ownBlock], by simp [Value.ownBlock], by simp [Value.ownBlock]⟩
  · refine ⟨⟨?_, ?_, ?_, ?_, ?_, ?_, ?_, ?_, ?_, rfl, rfl⟩, ⟨rfl, fun i => by simp [held, emptySto]⟩, rfl, ?_, ?_, Nat.zero_le _, Nat.zero_le _, hU, hN⟩
    · simp [ring]
    · refine ⟨?_, ?_, ?_⟩
      · intro i e f' he hf
        simp [ring] at hf
      · intro e he; cases he
      · intro e he
        simp [ring] at he
        rw [he]; exact Nat.le_refl _
    · intro i e he
      cases i with
      | zero => simp [ring] at he; subst he; rfl
      | succ i => simp [ring] at he
    · intro x hx; cases hx
    · exact ⟨front, List.mem_cons_self .., rfl⟩
    · intro id b hb; simp [emptySto] at hb
    · intro k h0 hk; exact absurd hk (by simp [emptySto])
    · exact List.nodup_nil
    · intro x; simp [emptySto]
    · intro e he; cases he
    · show 0 ≤ _; omega
end
end Go.Proofs.Ytenbjlmomkiknab.W
