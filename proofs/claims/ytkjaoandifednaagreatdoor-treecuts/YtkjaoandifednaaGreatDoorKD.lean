import Derived.Test.YtkjaoandifednaaGreatDoorKB
/- Package tree: is a text a name; does a text fit. -/
namespace Go.Proofs.YtkjaoandifednaaGreatDoor.W.Tr
open Go.ChangeShapes Go.WideShapes Go.RowKit Go.Shelf
set_option linter.unusedVariables false
set_option linter.unusedSimpArgs false
/-- is it one name, and no more? -/
def nameP (s : ByteArray) : Bool := match srcY s.data.toList with
  | [y, z] => decide (y.c = 0) && decide (z.c = 0) && (y.t.kind == 1) && (y.t.text.toList == s.toList)
  | _ => false
theorem nameP_bad (s : ByteArray) (y : Yd) (h : (srcY s.data.toList).find? (fun y => y.c != 0) = some y) : nameP s = false := by
  have h1 := List.find?_some h
  have h2 := List.mem_of_find?_eq_some h
  unfold nameP
  split
  · rename_i a b e
    rw [e] at h2
    simp at h1 h2
    rcases h2 with rfl | rfl <;> simp [h1]
  · rfl
theorem nameP_len (s : ByteArray) (h : ¬ (srcY s.data.toList).length = 2) : nameP s = false := by
  unfold nameP
  split
  · rename_i a b e
    rw [e] at h
    exact absurd rfl h
  · rfl
set_option maxRecDepth 100000 in
set_option maxHeartbeats 1000000 in
theorem isName_c (s : ByteArray) (hs : s.size ≤ 1000000) (w : World) (ht : Tabs w) (hm : MarksIn w) : Calls Tryz.prog 74 #[.string s] w fun e w' => e = .returned (.bool (nameP s)) ∧ Below w.heap.size w w' := by
  have ca := all_c s hs w ht hm
  clear ht hm
  cases hf : (srcY s.data.toList).find? (fun y => y.c != 0) with
  | some y =>
    rw [nameP_bad s y hf]
    have cb : Calls Tryz.prog 110 #[.string s] w fun e w' => Below w.heap.size w w' ∧ e = .returned (.tuple #[.slice none 0 0, .agg #[.int .i64 y.c, .int .i64 y.f]]) := by
      refine ca.mono ?_
      rintro e w' ⟨hB, h⟩
      rcases h with ⟨z, h1, h2⟩ | ⟨h0, _⟩
      · obtain rfl := Option.some.inj (hf.symm.trans h1)
        exact ⟨hB, h2⟩
      · have := List.find?_some hf
        rw [h0 y (List.mem_of_find?_eq_some hf)] at this
        cases this
    clear ca hf
    go_enter Tryz.func74, Tryz.ntmps74
    go_wp2_with (go_at_call 110; (with_reducible refine cb.mono ?_); rintro e w2 ⟨hB2, rfl⟩; (have HB := hid hB2); clear hB2 cb)
    go_ret
    exact ⟨rfl, HB.out.alloc HB.out.size _⟩
  | none =>
    have cb : Calls Tryz.prog 110 #[.string s] w fun e w' => Below w.heap.size w w' ∧ ∃ o cap, e = .returned (.tuple #[.slice o (srcY s.data.toList).length cap, .agg #[.int .i64 0, .int .i64 0]]) ∧ (∀ y ∈ srcY s.data.toList, y.c = 0) ∧ w'.ownsRow w.heap.size 64 5 (.slice o (srcY s.data.toList).length cap) (srcY s.data.toList).length (rowsY (srcY s.data.toList)) := by
      refine ca.mono ?_
      rintro e w' ⟨hB, h⟩
      rcases h with ⟨z, h1, h2⟩ | ⟨h0, v, he, hown⟩
      · rw [hf] at h1; cases h1
      · obtain ⟨o, cap, rfl⟩ := slice_ofX hown
        exact ⟨hB, o, cap, he, h0, hown⟩
    clear ca hf
    by_cases h2 : (srcY s.data.toList).length = 2
    · obtain ⟨y, z, hY⟩ : ∃ y z, srcY s.data.toList = [y, z] := by
        match hh : srcY s.data.toList, h2 with
        | [y, z], _ => exact ⟨y, z, rfl⟩
      clear h2
      have hp : ∀ y' ∈ srcY s.data.toList, y'.c = 0 → True := fun _ _ _ => trivial
      obtain ⟨q, hq⟩ : ∃ q, nameP s = q := ⟨_, rfl⟩
      rw [hq]
      unfold nameP at hq
      rw [hY] at hq cb
      simp only [List.length_cons, List.length_nil, Nat.reduceAdd] at cb
      simp only at hq
      clear hp hY
      obtain ⟨k1, hk1⟩ : ∃ k, (y.t.kind == 1) = k := ⟨_, rfl⟩
      obtain ⟨k2, hk2⟩ : ∃ k, (y.t.text.toList == s.toList) = k := ⟨_, rfl⟩
      rw [hk1, hk2] at hq
      have key : Calls Tryz.prog 74 #[.string s] w fun e w' => (y.c = 0 ∧ z.c = 0) ∧ e = .returned (.bool (k1 && k2)) ∧ Below w.heap.size w w' := by
        cases k1 <;> cases k2
        all_goals
          go_enter Tryz.func74, Tryz.ntmps74
          go_wp2_with (go_at_call 110; (with_reducible refine cb.mono ?_); rintro e w2 ⟨hB2, o, cap, rfl, h0, hown⟩; (have HB := hid hB2); (have H0 := hid h0); (rcases hown.2 with ⟨e1, _⟩ | ⟨g, cap', cur, e1, e2, e3, e4, e5, e6, e7⟩); (cases e1); (simp only [Value.slice.injEq, true_and] at e1); (obtain ⟨rfl, rfl⟩ := e1); (have hl := (Array.getElem?_eq_some_iff.1 e3).1); (have d : ∀ k, k < 10 → (w2.alloc (.cells #[.int .i64 0, .int .i64 0] 25)).cell? ⟨g, k, none⟩ = (rowsY [y, z])[k]? := fun k hk => by rw [cell_of_row _ g k _ _ _ ((Below.heap_alloc _ _ _ hl).trans e3), ← e7, List.getElem?_take, if_pos (by simpa using hk), Array.getElem?_toList]); (have d0 : (w2.alloc (.cells #[.int .i64 0, .int .i64 0] 25)).cell? ⟨g, 0, none⟩ = some (.int .i64 y.t.kind) := d 0 (by decide)); (have d2 : (w2.alloc (.cells #[.int .i64 0, .int .i64 0] 25)).cell? ⟨g, 2, none⟩ = some (.string y.t.text) := d 2 (by decide)); (have g4 := hid e4); clear hB2 cb h0 hown d e2 e3 e4 e5 e6 e7)
          go_ret
          exact ⟨⟨H0.out y (by simp), H0.out z (by simp)⟩, by first | rfl | simp_all, HB.out.alloc HB.out.size _⟩
      refine key.mono ?_
      rintro e w' ⟨⟨h1, h2⟩, h3, h4⟩
      refine ⟨?_, h4⟩
      rw [h3, ← hq, h1, h2]
      simp
    · rw [nameP_len s h2]
      have b2 : (((srcY s.data.toList).length : Int) == 2) = false := by
        have : ¬ ((srcY s.data.toList).length : Int) = 2 := by omega
        simpa using this
      generalize (srcY s.data.toList).length = n at *
      generalize rowsY (srcY s.data.toList) = xs at *
      have cc : Calls Tryz.prog 110 #[.string s] w fun e w' => Below w.heap.size w w' ∧ ∃ o cap, e = .returned (.tuple #[.slice o n cap, .agg #[.int .i64 0, .int .i64 0]]) := cb.mono (by rintro e w' ⟨hB, o, cap, he, _⟩; exact ⟨hB, o, cap, he⟩)
      clear cb h2
      go_enter Tryz.func74, Tryz.ntmps74
      go_wp2_with (go_at_call 110; (with_reducible refine cc.mono ?_); rintro e w2 ⟨hB2, o, cap, rfl⟩; (have HB := hid hB2); clear hB2 cc)
      go_ret
      exact ⟨rfl, HB.out.alloc HB.out.size _⟩
/-- does a text fit what is asked for? -/
def textP (what : Int) (t : ByteArray) : Bool := if what = 1 then nameP t else if what = 2 then (t.toList == []) || nameP t else if what = 3 then comp t || decide (¬ tight t = 0) else if what = 4 then (t.toList == [45]) || (t.toList == [126]) else if what = 5 then true else (t.toList == [])
set_option maxRecDepth 100000 in
set_option maxHeartbeats 4000000 in
theorem textFits_c (what : Int) (s : ByteArray) (hs : s.size ≤ 1000000) (w : World) (ht : Tabs w) (hm : MarksIn w) : Calls Tryz.prog 55 #[.int .i64 what, .string s] w fun e w' => e = .returned (.bool (textP what s)) ∧ Below w.heap.size w w' := by
  have cn := isName_c s hs w ht hm
  have cc := compares_c s w
  have ct := tight_c s w
  clear ht hm
  unfold textP
  generalize nameP s = nm at *
  generalize comp s = cp at *
  by_cases h1 : what = 1
  · subst h1
    rw [if_pos rfl]
    go_enter Tryz.func55, Tryz.ntmps55
    go_wp2_with (go_at_call 74; (with_reducible refine cn.mono ?_); rintro e w2 ⟨rfl, hB⟩; (have HB := hid hB); clear hB)
    go_ret
    exact ⟨rfl, HB.out⟩
  rw [if_neg h1]
  have b1 : (what == 1) = false := by simpa using h1
  by_cases h2 : what = 2
  · subst h2
    rw [if_pos rfl]
    cases h : (s.toList == [])
    · go_enter Tryz.func55, Tryz.ntmps55
      go_wp2_with (go_at_call 74; (with_reducible refine cn.mono ?_); rintro e w2 ⟨rfl, hB⟩; (have HB := hid hB); clear hB)
      go_ret
      exact ⟨by simp, HB.out⟩
    · go_enter Tryz.func55, Tryz.ntmps55
      go_wp2_with fail
      go_ret
      exact ⟨by simp, Below.refl _ _⟩
  rw [if_neg h2]
  have b2 : (what == 2) = false := by simpa using h2
  by_cases h3 : what = 3
  · subst h3
    rw [if_pos rfl]
    cases cp
    · by_cases ht0 : tight s = 0
      · rw [ht0] at ct ⊢
        go_enter Tryz.func55, Tryz.ntmps55
        go_wp2_with (first | (go_at_call 75; (with_reducible refine cc.mono ?_); rintro e w2 ⟨rfl, hw⟩; (have hw' := hw.symm); subst hw'; clear hw) | (go_at_call 76; (with_reducible refine ct.mono ?_); rintro e w2 ⟨rfl, hw⟩; (have hw' := hw.symm); subst hw'; clear hw))
        go_ret
        exact ⟨by simp, Below.refl _ _⟩
      · have b0 : (((tight s : Nat) : Int) == 0) = false := by
          have : ¬ ((tight s : Nat) : Int) = 0 := by omega
          simpa using this
        have b00 : (((tight s : Nat) : Int) != 0) = true := by simp [bne, b0]
        go_enter Tryz.func55, Tryz.ntmps55
        go_wp2_with (first | (go_at_call 75; (with_reducible refine cc.mono ?_); rintro e w2 ⟨rfl, hw⟩; (have hw' := hw.symm); subst hw'; clear hw) | (go_at_call 76; (with_reducible refine ct.mono ?_); rintro e w2 ⟨rfl, hw⟩; (have hw' := hw.symm); subst hw'; clear hw))
        go_ret
        exact ⟨by simp [ht0], Below.refl _ _⟩
    · go_enter Tryz.func55, Tryz.ntmps55
      go_wp2_with (go_at_call 75; (with_reducible refine cc.mono ?_); rintro e w2 ⟨rfl, hw⟩; (have hw' := hw.symm); subst hw'; clear hw)
      go_ret
      exact ⟨by simp, Below.refl _ _⟩
  rw [if_neg h3]
  have b3 : (what == 3) = false := by simpa using h3
  clear cn cc ct
  by_cases h4 : what = 4
  · subst h4
    rw [if_pos rfl]
    cases h : (s.toList == [45])
    · go_enter Tryz.func55, Tryz.ntmps55
      go_wp2_with fail
      go_ret
      exact ⟨by simp, Below.refl _ _⟩
    · go_enter Tryz.func55, Tryz.ntmps55
      go_wp2_with fail
      go_ret
      exact ⟨by simp, Below.refl _ _⟩
  rw [if_neg h4]
  have b4 : (what == 4) = false := by simpa using h4
  by_cases h5 : what = 5
  · subst h5
    rw [if_pos rfl]
    go_enter Tryz.func55, Tryz.ntmps55
    go_wp2_with fail
    go_ret
    exact ⟨rfl, Below.refl _ _⟩
  rw [if_neg h5]
  have b5 : (what == 5) = false := by simpa using h5
  go_enter Tryz.func55, Tryz.ntmps55
  go_wp2_with fail
  go_ret
  exact ⟨by simp, Below.refl _ _⟩
end Go.Proofs.YtkjaoandifednaaGreatDoor.W.Tr
/- Package tree: fits, where it is so. -/
namespace Go.Proofs.YtkjaoandifednaaGreatDoor.W.Tr
open Go.ChangeShapes Go.WideShapes Go.RowKit Go.Shelf
set_option linter.unusedVariables false
set_option linter.unusedSimpArgs false
/-- a node with its kids' number, as a value -/
def nv (p : Nd × Nat) : Value := nodV p.1.kind p.1.a (p.2 : Nat) p.1.text p.1.int p.1.bits
def fitsP (p : Nd × Nat) : Bool := decide ((ruleP p.1.kind).least ≤ (p.2 : Nat)) && decide (((p.2 : Nat) : Int) ≤ (ruleP p.1.kind).most) && textP (ruleP p.1.kind).text p.1.text && numsP p.1.kind p.1.int p.1.bits
set_option maxRecDepth 100000 in
set_option maxHeartbeats 1000000 in
theorem fits_c (p : Nd × Nat) (hp : fitsP p = true) (hs : p.1.text.size ≤ 1000000) (w : World) (ht : Tabs w) (hm : MarksIn w) : Calls Tryz.prog 31 #[nv p] w fun e w' => e = .returned (.bool true) ∧ Below w.heap.size w w' := by
  obtain ⟨⟨k, a, t, i, b⟩, c⟩ := p
  have cr := ruleOf_c k
  have cn := nums_c k a (c : Nat) t i b
  have ct := fun (what : Int) (w : World) (ht : Tabs w) (hm : MarksIn w) => textFits_c what t hs w ht hm
  simp only [fitsP, Bool.and_eq_true, decide_eq_true_eq] at hp
  obtain ⟨⟨⟨h1, h2⟩, h3⟩, h4⟩ := hp
  unfold nv
  simp only
  generalize ruleP k = r at *
  obtain ⟨r0, r1, r2, r3⟩ := r
  simp only at h1 h2 h3
  have ct1 : ∀ w, Tabs w → MarksIn w → Calls Tryz.prog 55 #[.int .i64 r1, .string t] w fun e w' => e = .returned (.bool true) ∧ Below w.heap.size w w' := by
    intro w ht hm
    have := ct r1 w ht hm
    rw [h3] at this
    exact this
  rw [h4] at cn
  unfold nodV at cn ⊢
  unfold rulV at cr
  simp only at cr
  clear ct h3 h4 hs
  have bw : Below w.heap.size w (w.alloc (.cells #[.int .i64 k, .int .i64 a, .int .i64 (c : Nat), .string t, .int .i64 i, .int .u64 b] 44)) := (Below.refl _ w).alloc (Nat.le_refl _) _
  have HT := hid ht
  have HM := hid hm
  clear ht hm
  go_enter Tryz.func31, Tryz.ntmps31
  go_wp2_with (first | (go_at_call 54; (with_reducible refine (cr _).mono ?_); rintro e w2 ⟨rfl, hB2⟩; (have hb2 := bw.trans (hB2.mono bw.size)); (have hn := (hB2.block w.heap.size (by simp)).trans (World.alloc_heap_new w _)); (have hb3 : Below w2.heap.size w2 (w2.alloc (.cells #[.int .i64 r0, .int .i64 r1, .int .i64 r2, .int .i64 r3] 111)) := (Below.refl _ w2).alloc (Nat.le_refl _) _); (have hn2 := row_keepX hn hb3); (have q0 := row_cellsX hn2 0); (have q1 := row_cellsX hn2 1); (have q2 := row_cellsX hn2 2); (have q3 := row_cellsX hn2 3); (have q4 := row_cellsX hn2 4); (have q5 := row_cellsX hn2 5); simp only [List.getElem?_toArray, List.getElem?_cons_succ, List.getElem?_cons_zero] at q0 q1 q2 q3 q4 q5; (have HB := hid (hb2.trans (hb3.mono hb2.size))); clear hB2 hb2 hb3 hn hn2) | (go_at_call 55; (with_reducible refine (ct1 _ (HT.out.below HB.out) (HM.out.below HB.out)).mono ?_); rintro e w5 ⟨rfl, hB5⟩; (have HB5 := hid (HB.out.trans (hB5.mono HB.out.size))); (have s0 := It.below_cell hB5 q0); (have s1 := It.below_cell hB5 q1); (have s2 := It.below_cell hB5 q2); (have s3 := It.below_cell hB5 q3); (have s4 := It.below_cell hB5 q4); (have s5 := It.below_cell hB5 q5); clear hB5) | (go_at_call 56; (with_reducible refine (cn _).mono ?_); rintro e w6 ⟨rfl, hB6⟩; (have HB6 := hid (HB5.out.trans (hB6.mono HB5.out.size))); clear hB6))
  go_ret
  exact ⟨rfl, HB6.out⟩
end Go.Proofs.YtkjaoandifednaaGreatDoor.W.Tr
