/- Contract of the reference: a number read, whole or double, whatever the text. -/
import Derived.Test.YtmdpnoebpjoiaaaDoorRS4
import Derived.Test.YtmdpnoebpjoiaaaDoorZ4
namespace Go.Proofs.YtmdpnoebpjoiaaaDoor.W
open Go.ChangeShapes Go.WideShapes Go.RowKit
set_option linter.unusedVariables false
set_option maxRecDepth 1000000 in
set_option maxHeartbeats 1000000 in
theorem refParse_long (s : ByteArray) (w : World) (hs : s.size ≤ maxLen) (h : 64 < (s.size : Int)) :
    Calls Tryd.prog 20 #[.string s] w fun e w' => e = .returned (numV (false, 0, 0, 2)) ∧ Below w.heap.size w w' := by
  unfold maxLen at hs
  go_enter Tryd.func20, Tryd.ntmps20
  go_wp2_with fail
  exact bodyPost_ret (v := numV (false, 0, 0, 2)) (by simp [results, Tryd.results20, go_sem, numV]) rfl ⟨rfl, (Below.refl _ _).alloc (Nat.le_refl _) _⟩
set_option maxRecDepth 1000000 in
set_option maxHeartbeats 1000000 in
theorem refParse_nan (x : Int) (w : World) (cf : ∀ w, Calls Tryd.prog 18 #[.string ⟨#[110, 97, 110]⟩] w fun r w' => r = .returned (.tuple #[.int .u64 x, .int .i64 0]) ∧ Below w.heap.size w w') :
    Calls Tryd.prog 20 #[.string ⟨#[110, 97, 110]⟩] w fun r w' => r = .returned (numV (false, 0, x, 0)) ∧ Below w.heap.size w w' := by
  go_enter Tryd.func20, Tryd.ntmps20
  go_wp2_with (go_at_call 18; (with_reducible refine (cf _).mono ?_); rintro e w2 ⟨rfl, hb⟩; obtain ⟨hc1, hf1, hB⟩ := after_alloc hb; (have a0 := hc1 0); (have a1 := hc1 1); (have a2 := hc1 2); (have f0 := hf1 0); (have f1 := hf1 1); (have f2 := hf1 2); simp at a0 a1 a2)
  generalize hV : World.setCell (World.setCell (World.setCell _ _ _) _ _) _ _ = V
  obtain ⟨fR, gR⟩ := stored3 hV hc1 (Nat.le_refl _) hB
  exact bodyPost_ret (v := .tuple #[.agg #[.bool false, .int .i64 0, .int .u64 x], .int .i64 0]) (by simp [results, Tryd.results20, go_sem, fR]) rfl ⟨rfl, gR⟩
set_option maxRecDepth 1000000 in
set_option maxHeartbeats 1000000 in
theorem refParse_inf (x : Int) (w : World) (cf : ∀ w, Calls Tryd.prog 18 #[.string ⟨#[105, 110, 102]⟩] w fun r w' => r = .returned (.tuple #[.int .u64 x, .int .i64 0]) ∧ Below w.heap.size w w') :
    Calls Tryd.prog 20 #[.string ⟨#[105, 110, 102]⟩] w fun r w' => r = .returned (numV (false, 0, x, 0)) ∧ Below w.heap.size w w' := by
  go_enter Tryd.func20, Tryd.ntmps20
  go_wp2_with (go_at_call 18; (with_reducible refine (cf _).mono ?_); rintro e w2 ⟨rfl, hb⟩; obtain ⟨hc1, hf1, hB⟩ := after_alloc hb; (have a0 := hc1 0); (have a1 := hc1 1); (have a2 := hc1 2); (have f0 := hf1 0); (have f1 := hf1 1); (have f2 := hf1 2); simp at a0 a1 a2)
  generalize hV : World.setCell (World.setCell (World.setCell _ _ _) _ _) _ _ = V
  obtain ⟨fR, gR⟩ := stored3 hV hc1 (Nat.le_refl _) hB
  exact bodyPost_ret (v := .tuple #[.agg #[.bool false, .int .i64 0, .int .u64 x], .int .i64 0]) (by simp [results, Tryd.results20, go_sem, fR]) rfl ⟨rfl, gR⟩
set_option maxRecDepth 1000000 in
set_option maxHeartbeats 1000000 in
theorem refParse_minf (x : Int) (w : World) (cf : ∀ w, Calls Tryd.prog 18 #[.string ⟨#[45, 105, 110, 102]⟩] w fun r w' => r = .returned (.tuple #[.int .u64 x, .int .i64 0]) ∧ Below w.heap.size w w') :
    Calls Tryd.prog 20 #[.string ⟨#[45, 105, 110, 102]⟩] w fun r w' => r = .returned (numV (false, 0, x, 0)) ∧ Below w.heap.size w w' := by
  go_enter Tryd.func20, Tryd.ntmps20
  go_wp2_with (go_at_call 18; (with_reducible refine (cf _).mono ?_); rintro e w2 ⟨rfl, hb⟩; obtain ⟨hc1, hf1, hB⟩ := after_alloc hb; (have a0 := hc1 0); (have a1 := hc1 1); (have a2 := hc1 2); (have f0 := hf1 0); (have f1 := hf1 1); (have f2 := hf1 2); simp at a0 a1 a2)
  generalize hV : World.setCell (World.setCell (World.setCell _ _ _) _ _) _ _ = V
  obtain ⟨fR, gR⟩ := stored3 hV hc1 (Nat.le_refl _) hB
  exact bodyPost_ret (v := .tuple #[.agg #[.bool false, .int .i64 0, .int .u64 x], .int .i64 0]) (by simp [results, Tryd.results20, go_sem, fR]) rfl ⟨rfl, gR⟩
set_option maxRecDepth 1000000 in
set_option maxHeartbeats 1000000 in
theorem refParse_empty (w : World) (ci : ∀ w, Calls Tryd.prog 16 #[.string ⟨#[]⟩] w fun r w' => r = .returned (.tuple #[.int .i64 0, .int .i64 20]) ∧ w' = w) :
    Calls Tryd.prog 20 #[.string ⟨#[]⟩] w fun r w' => r = .returned (numV (false, 0, 0, 20)) ∧ Below w.heap.size w w' := by
  go_enter Tryd.func20, Tryd.ntmps20
  go_wp2_with (go_at_call 16; (with_reducible refine (ci _).mono ?_); rintro e w2 ⟨rfl, hz⟩; (have hz' := hz.symm); subst hz'; clear hz)
  exact bodyPost_ret (v := numV (false, 0, 0, 20)) (by simp [results, Tryd.results20, go_sem, numV]) rfl ⟨rfl, (Below.refl _ _).alloc (Nat.le_refl _) _⟩
def MarkB (T : ByteArray) : Prop := ∃ h : 1 < T.size, ((T[0].toNat : Int) == 48) = true ∧ ((T[1].toNat : Int) == 120) = true
def NoMarkB (T : ByteArray) : Prop := ¬ 2 ≤ (T.size : Int) ∨ (∃ h : 1 < T.size, ((T[0].toNat : Int) == 48) = false) ∨ (∃ h : 1 < T.size, ((T[0].toNat : Int) == 48) = true ∧ ((T[1].toNat : Int) == 120) = false)
/-- what a double, or a whole number, and its error are told as -/
def fltN (x e : Int) : Bool × Int × Int × Int := if e = 0 then (false, 0, x, 0) else (false, 0, 0, e)
def whlN (x e : Int) : Bool × Int × Int × Int := if e = 0 then (true, x, 0, 0) else (false, 0, 0, e)
set_option maxRecDepth 1000000 in
set_option maxHeartbeats 4000000 in
theorem refParse_plusF (s : ByteArray) (w : World) (he : s.toList.isEmpty = false) (s0 : 0 < s.size) (s64 : s.size ≤ 64) (hc : ((s[0].toNat : Int) == 45) = false) (n1 : (s.toList == [110, 97, 110]) = false) (n2 : (s.toList == [105, 110, 102]) = false) (n3 : (s.toList == [45, 105, 110, 102]) = false) (x e : Int) (cf : ∀ w, Calls Tryd.prog 18 #[.string s] w fun r w' => r = .returned (.tuple #[.int .u64 x, .int .i64 e]) ∧ Below w.heap.size w w') (hm : MarkB s) :
    Calls Tryd.prog 20 #[.string s] w fun r w' => r = .returned (numV (fltN x e)) ∧ Below w.heap.size w w' := by
  obtain ⟨t2, m0, m1⟩ := hm
  have t2' : 2 ≤ (s.size : Int) := by omega
  by_cases h : e = 0
  · subst h
    go_enter Tryd.func20, Tryd.ntmps20
    go_wp2_with (go_at_call 18; (with_reducible refine (cf _).mono ?_); rintro e w2 ⟨rfl, hb⟩; obtain ⟨hc1, hf1, hB⟩ := after_alloc hb; (have a0 := hc1 0); (have a1 := hc1 1); (have a2 := hc1 2); (have f0 := hf1 0); (have f1 := hf1 1); (have f2 := hf1 2); simp at a0 a1 a2)
    generalize hV : World.setCell (World.setCell (World.setCell _ _ _) _ _) _ _ = V
    obtain ⟨fR, gR⟩ := stored3 hV hc1 (Nat.le_refl _) hB
    exact bodyPost_ret (v := .tuple #[.agg #[.bool false, .int .i64 0, .int .u64 x], .int .i64 0]) (by simp [results, Tryd.results20, go_sem, fR]) rfl ⟨rfl, gR⟩
  · have he2 : (e != 0) = true := by rw [bne_iff_ne]; exact h
    have H := hid (show fltN x e = (false, 0, 0, e) by unfold fltN; rw [if_neg h])
    clear h
    go_enter Tryd.func20, Tryd.ntmps20
    go_wp2_with (go_at_call 18; (with_reducible refine (cf _).mono ?_); rintro e w2 ⟨rfl, hb⟩; obtain ⟨hc1, hf1, hB⟩ := after_alloc hb; (have a0 := hc1 0); (have a1 := hc1 1); (have a2 := hc1 2); (have f0 := hf1 0); (have f1 := hf1 1); (have f2 := hf1 2); simp at a0 a1 a2)
    generalize hV : World.setCell (World.setCell (World.setCell _ _ _) _ _) _ _ = V
    obtain ⟨fR, gR⟩ := stored3 hV hc1 (Nat.le_refl _) hB
    exact bodyPost_ret (v := .tuple #[.agg #[.bool false, .int .i64 0, .int .u64 0], .int .i64 e]) (by simp [results, Tryd.results20, go_sem, fR]) rfl ⟨by rw [H.out]; rfl, gR⟩
set_option maxRecDepth 1000000 in
set_option maxHeartbeats 4000000 in
theorem refParse_plusI (s : ByteArray) (w : World) (he : s.toList.isEmpty = false) (s0 : 0 < s.size) (s64 : s.size ≤ 64) (hc : ((s[0].toNat : Int) == 45) = false) (n1 : (s.toList == [110, 97, 110]) = false) (n2 : (s.toList == [105, 110, 102]) = false) (n3 : (s.toList == [45, 105, 110, 102]) = false) (x e : Int) (ci : ∀ w, Calls Tryd.prog 16 #[.string s] w fun r w' => r = .returned (.tuple #[.int .i64 x, .int .i64 e]) ∧ w' = w) (hm : NoMarkB s) :
    Calls Tryd.prog 20 #[.string s] w fun r w' => r = .returned (numV (whlN x e)) ∧ Below w.heap.size w w' := by
  rcases hm with h | ⟨t2, m0⟩ | ⟨t2, m0, m1⟩
  · by_cases h : e = 0
    · subst h
      go_enter Tryd.func20, Tryd.ntmps20
      go_wp2_with (go_at_call 16; (with_reducible refine (ci _).mono ?_); rintro e w2 ⟨rfl, hz⟩; (have hz' := hz.symm); subst hz'; clear hz)
      exact bodyPost_ret (v := .tuple #[.agg #[.bool true, .int .i64 x, .int .u64 0], .int .i64 0]) (by simp [results, Tryd.results20, go_sem]) rfl ⟨rfl, (Below.refl _ _).alloc (Nat.le_refl _) _⟩
    · have he2 : (e != 0) = true := by rw [bne_iff_ne]; exact h
      have H := hid (show whlN x e = (false, 0, 0, e) by unfold whlN; rw [if_neg h])
      clear h
      go_enter Tryd.func20, Tryd.ntmps20
      go_wp2_with (go_at_call 16; (with_reducible refine (ci _).mono ?_); rintro e w2 ⟨rfl, hz⟩; (have hz' := hz.symm); subst hz'; clear hz)
      exact bodyPost_ret (v := .tuple #[.agg #[.bool false, .int .i64 0, .int .u64 0], .int .i64 e]) (by simp [results, Tryd.results20, go_sem]) rfl ⟨by rw [H.out]; rfl, (Below.refl _ _).alloc (Nat.le_refl _) _⟩
  · have t2' : 2 ≤ (s.size : Int) := by omega
    by_cases h : e = 0
    · subst h
      go_enter Tryd.func20, Tryd.ntmps20
      go_wp2_with (go_at_call 16; (with_reducible refine (ci _).mono ?_); rintro e w2 ⟨rfl, hz⟩; (have hz' := hz.symm); subst hz'; clear hz)
      exact bodyPost_ret (v := .tuple #[.agg #[.bool true, .int .i64 x, .int .u64 0], .int .i64 0]) (by simp [results, Tryd.results20, go_sem]) rfl ⟨rfl, (Below.refl _ _).alloc (Nat.le_refl _) _⟩
    · have he2 : (e != 0) = true := by rw [bne_iff_ne]; exact h
      have H := hid (show whlN x e = (false, 0, 0, e) by unfold whlN; rw [if_neg h])
      clear h
      go_enter Tryd.func20, Tryd.ntmps20
      go_wp2_with (go_at_call 16; (with_reducible refine (ci _).mono ?_); rintro e w2 ⟨rfl, hz⟩; (have hz' := hz.symm); subst hz'; clear hz)
      exact bodyPost_ret (v := .tuple #[.agg #[.bool false, .int .i64 0, .int .u64 0], .int .i64 e]) (by simp [results, Tryd.results20, go_sem]) rfl ⟨by rw [H.out]; rfl, (Below.refl _ _).alloc (Nat.le_refl _) _⟩
  · have t2' : 2 ≤ (s.size : Int) := by omega
    by_cases h : e = 0
    · subst h
      go_enter Tryd.func20, Tryd.ntmps20
      go_wp2_with (go_at_call 16; (with_reducible refine (ci _).mono ?_); rintro e w2 ⟨rfl, hz⟩; (have hz' := hz.symm); subst hz'; clear hz)
      exact bodyPost_ret (v := .tuple #[.agg #[.bool true, .int .i64 x, .int .u64 0], .int .i64 0]) (by simp [results, Tryd.results20, go_sem]) rfl ⟨rfl, (Below.refl _ _).alloc (Nat.le_refl _) _⟩
    · have he2 : (e != 0) = true := by rw [bne_iff_ne]; exact h
      have H := hid (show whlN x e = (false, 0, 0, e) by unfold whlN; rw [if_neg h])
      clear h
      go_enter Tryd.func20, Tryd.ntmps20
      go_wp2_with (go_at_call 16; (with_reducible refine (ci _).mono ?_); rintro e w2 ⟨rfl, hz⟩; (have hz' := hz.symm); subst hz'; clear hz)
      exact bodyPost_ret (v := .tuple #[.agg #[.bool false, .int .i64 0, .int .u64 0], .int .i64 e]) (by simp [results, Tryd.results20, go_sem]) rfl ⟨by rw [H.out]; rfl, (Below.refl _ _).alloc (Nat.le_refl _) _⟩
set_option maxRecDepth 1000000 in
set_option maxHeartbeats 4000000 in
theorem refParse_minusF (s T : ByteArray) (w : World) (s0 : 0 < s.size) (s64 : s.size ≤ 64) (he : s.toList.isEmpty = false) (hc : ((s[0].toNat : Int) == 45) = true) (hT : s.extract 1 s.size = T) (n1 : (s.toList == [110, 97, 110]) = false) (n2 : (s.toList == [105, 110, 102]) = false) (n3 : (s.toList == [45, 105, 110, 102]) = false) (t64 : T.size ≤ 64) (x e : Int) (cf : ∀ w, Calls Tryd.prog 18 #[.string s] w fun r w' => r = .returned (.tuple #[.int .u64 x, .int .i64 e]) ∧ Below w.heap.size w w') (hm : MarkB T) :
    Calls Tryd.prog 20 #[.string s] w fun r w' => r = .returned (numV (fltN x e)) ∧ Below w.heap.size w w' := by
  obtain ⟨t2, m0, m1⟩ := hm
  have t2' : 2 ≤ (T.size : Int) := by omega
  by_cases h : e = 0
  · subst h
    go_enter Tryd.func20, Tryd.ntmps20
    go_wp2_with (go_at_call 18; (with_reducible refine (cf _).mono ?_); rintro e w2 ⟨rfl, hb⟩; obtain ⟨hc1, hf1, hB⟩ := after_alloc hb; (have a0 := hc1 0); (have a1 := hc1 1); (have a2 := hc1 2); (have f0 := hf1 0); (have f1 := hf1 1); (have f2 := hf1 2); simp at a0 a1 a2)
    generalize hV : World.setCell (World.setCell (World.setCell _ _ _) _ _) _ _ = V
    obtain ⟨fR, gR⟩ := stored3 hV hc1 (Nat.le_refl _) hB
    exact bodyPost_ret (v := .tuple #[.agg #[.bool false, .int .i64 0, .int .u64 x], .int .i64 0]) (by simp [results, Tryd.results20, go_sem, fR]) rfl ⟨rfl, gR⟩
  · have he2 : (e != 0) = true := by rw [bne_iff_ne]; exact h
    have H := hid (show fltN x e = (false, 0, 0, e) by unfold fltN; rw [if_neg h])
    clear h
    go_enter Tryd.func20, Tryd.ntmps20
    go_wp2_with (go_at_call 18; (with_reducible refine (cf _).mono ?_); rintro e w2 ⟨rfl, hb⟩; obtain ⟨hc1, hf1, hB⟩ := after_alloc hb; (have a0 := hc1 0); (have a1 := hc1 1); (have a2 := hc1 2); (have f0 := hf1 0); (have f1 := hf1 1); (have f2 := hf1 2); simp at a0 a1 a2)
    generalize hV : World.setCell (World.setCell (World.setCell _ _ _) _ _) _ _ = V
    obtain ⟨fR, gR⟩ := stored3 hV hc1 (Nat.le_refl _) hB
    exact bodyPost_ret (v := .tuple #[.agg #[.bool false, .int .i64 0, .int .u64 0], .int .i64 e]) (by simp [results, Tryd.results20, go_sem, fR]) rfl ⟨by rw [H.out]; rfl, gR⟩
set_option maxRecDepth 1000000 in
set_option maxHeartbeats 4000000 in
theorem refParse_minusI (s T : ByteArray) (w : World) (s0 : 0 < s.size) (s64 : s.size ≤ 64) (he : s.toList.isEmpty = false) (hc : ((s[0].toNat : Int) == 45) = true) (hT : s.extract 1 s.size = T) (n1 : (s.toList == [110, 97, 110]) = false) (n2 : (s.toList == [105, 110, 102]) = false) (n3 : (s.toList == [45, 105, 110, 102]) = false) (t64 : T.size ≤ 64) (x e : Int) (ci : ∀ w, Calls Tryd.prog 16 #[.string s] w fun r w' => r = .returned (.tuple #[.int .i64 x, .int .i64 e]) ∧ w' = w) (hm : NoMarkB T) :
    Calls Tryd.prog 20 #[.string s] w fun r w' => r = .returned (numV (whlN x e)) ∧ Below w.heap.size w w' := by
  rcases hm with h | ⟨t2, m0⟩ | ⟨t2, m0, m1⟩
  · by_cases h : e = 0
    · subst h
      go_enter Tryd.func20, Tryd.ntmps20
      go_wp2_with (go_at_call 16; (with_reducible refine (ci _).mono ?_); rintro e w2 ⟨rfl, hz⟩; (have hz' := hz.symm); subst hz'; clear hz)
      exact bodyPost_ret (v := .tuple #[.agg #[.bool true, .int .i64 x, .int .u64 0], .int .i64 0]) (by simp [results, Tryd.results20, go_sem]) rfl ⟨rfl, (Below.refl _ _).alloc (Nat.le_refl _) _⟩
    · have he2 : (e != 0) = true := by rw [bne_iff_ne]; exact h
      have H := hid (show whlN x e = (false, 0, 0, e) by unfold whlN; rw [if_neg h])
      clear h
      go_enter Tryd.func20, Tryd.ntmps20
      go_wp2_with (go_at_call 16; (with_reducible refine (ci _).mono ?_); rintro e w2 ⟨rfl, hz⟩; (have hz' := hz.symm); subst hz'; clear hz)
      exact bodyPost_ret (v := .tuple #[.agg #[.bool false, .int .i64 0, .int .u64 0], .int .i64 e]) (by simp [results, Tryd.results20, go_sem]) rfl ⟨by rw [H.out]; rfl, (Below.refl _ _).alloc (Nat.le_refl _) _⟩
  · have t2' : 2 ≤ (T.size : Int) := by omega
    by_cases h : e = 0
    · subst h
      go_enter Tryd.func20, Tryd.ntmps20
      go_wp2_with (go_at_call 16; (with_reducible refine (ci _).mono ?_); rintro e w2 ⟨rfl, hz⟩; (have hz' := hz.symm); subst hz'; clear hz)
      exact bodyPost_ret (v := .tuple #[.agg #[.bool true, .int .i64 x, .int .u64 0], .int .i64 0]) (by simp [results, Tryd.results20, go_sem]) rfl ⟨rfl, (Below.refl _ _).alloc (Nat.le_refl _) _⟩
    · have he2 : (e != 0) = true := by rw [bne_iff_ne]; exact h
      have H := hid (show whlN x e = (false, 0, 0, e) by unfold whlN; rw [if_neg h])
      clear h
      go_enter Tryd.func20, Tryd.ntmps20
      go_wp2_with (go_at_call 16; (with_reducible refine (ci _).mono ?_); rintro e w2 ⟨rfl, hz⟩; (have hz' := hz.symm); subst hz'; clear hz)
      exact bodyPost_ret (v := .tuple #[.agg #[.bool false, .int .i64 0, .int .u64 0], .int .i64 e]) (by simp [results, Tryd.results20, go_sem]) rfl ⟨by rw [H.out]; rfl, (Below.refl _ _).alloc (Nat.le_refl _) _⟩
  · have t2' : 2 ≤ (T.size : Int) := by omega
    by_cases h : e = 0
    · subst h
      go_enter Tryd.func20, Tryd.ntmps20
      go_wp2_with (go_at_call 16; (with_reducible refine (ci _).mono ?_); rintro e w2 ⟨rfl, hz⟩; (have hz' := hz.symm); subst hz'; clear hz)
      exact bodyPost_ret (v := .tuple #[.agg #[.bool true, .int .i64 x, .int .u64 0], .int .i64 0]) (by simp [results, Tryd.results20, go_sem]) rfl ⟨rfl, (Below.refl _ _).alloc (Nat.le_refl _) _⟩
    · have he2 : (e != 0) = true := by rw [bne_iff_ne]; exact h
      have H := hid (show whlN x e = (false, 0, 0, e) by unfold whlN; rw [if_neg h])
      clear h
      go_enter Tryd.func20, Tryd.ntmps20
      go_wp2_with (go_at_call 16; (with_reducible refine (ci _).mono ?_); rintro e w2 ⟨rfl, hz⟩; (have hz' := hz.symm); subst hz'; clear hz)
      exact bodyPost_ret (v := .tuple #[.agg #[.bool false, .int .i64 0, .int .u64 0], .int .i64 e]) (by simp [results, Tryd.results20, go_sem]) rfl ⟨by rw [H.out]; rfl, (Below.refl _ _).alloc (Nat.le_refl _) _⟩
theorem beq_chr (c d : UInt8) (h : c ≠ d) : ((c.toNat : Int) == (d.toNat : Int)) = false := by rw [chr_eq]; exact decide_eq_false h
theorem markB_ways (T : ByteArray) : NoMarkB T ∧ (∀ r, T.data.toList ≠ 48 :: 120 :: r) ∨ MarkB T ∧ ∃ r, T.data.toList = 48 :: 120 :: r := by
  by_cases h : 1 < T.size
  · have hd := drop_two T 0 h
    rw [List.drop_zero] at hd
    have hd' : T.data.toList = T[0] :: T[1] :: T.data.toList.drop 2 := hd
    by_cases h0 : T[0] = 48
    · by_cases h1 : T[1] = 120
      · refine Or.inr ⟨⟨h, by rw [h0]; rfl, by rw [h1]; rfl⟩, _, by rw [hd', h0, h1]⟩
      · refine Or.inl ⟨Or.inr (Or.inr ⟨h, by rw [h0]; rfl, beq_chr _ 120 h1⟩), fun r e => ?_⟩
        rw [hd'] at e
        injection e with e1 e2
        injection e2 with e3 e4
        exact h1 e3
    · refine Or.inl ⟨Or.inr (Or.inl ⟨h, beq_chr _ 48 h0⟩), fun r e => ?_⟩
      rw [hd'] at e
      injection e with e1 e2
      exact h0 e1
  · refine Or.inl ⟨Or.inl (by omega), fun r e => ?_⟩
    have hl := congrArg List.length e
    rw [size_list] at hl
    simp only [List.length_cons] at hl
    omega
theorem floatB_mark (l : List UInt8) (h1 : l ≠ nanT) (h2 : l ≠ infT) (h3 : l ≠ 45 :: infT) : floatB l = (match rest1 l with | 48 :: 120 :: _ => true | _ => false) := by
  have e1 : (l == nanT) = false := beq_eq_false_iff_ne.2 h1
  have e2 : (l == infT) = false := beq_eq_false_iff_ne.2 h2
  have e3 : (l == 45 :: infT) = false := beq_eq_false_iff_ne.2 h3
  unfold floatB
  rw [e1, e2, e3, Bool.or_false, Bool.or_false, Bool.or_false]
  by_cases hm : ∃ d, l = 45 :: d
  · obtain ⟨d, rfl⟩ := hm
    show _ = (match d with | 48 :: 120 :: _ => true | _ => false)
    split
    · rename_i e; injection e with _ e; subst e; rfl
    · rename_i e; injection e with e; exact absurd e (by decide)
    · rename_i g1 g2
      split
      · rename_i r; exact (g1 _ rfl).elim
      · rfl
  · obtain ⟨_, g2⟩ := rest_not l (fun d e => hm ⟨d, e⟩)
    rw [g2]
    split
    · rename_i r; exact (hm ⟨_, rfl⟩).elim
    · rfl
    · rename_i g1 g2
      split
      · rename_i r; exact (g2 _ rfl).elim
      · rfl
theorem readN_fltN (l : List UInt8) (h64 : l.length ≤ 64) (h : floatB l = true) : readN l = fltN (readF l).1 (readF l).2 := by
  unfold readN fltN
  rw [if_neg (by omega), if_pos h]
theorem readN_whlN (l : List UInt8) (h64 : l.length ≤ 64) (h : floatB l = false) : readN l = whlN (readI l).1 (readI l).2 := by
  unfold readN whlN
  rw [if_neg (by omega), if_neg (by rw [h]; decide)]
theorem refParse_c (s : ByteArray) (hs : s.size ≤ maxLen) (w : World) :
    Calls Tryd.prog 20 #[.string s] w fun e w' => e = .returned (numV (readN s.data.toList)) ∧ Below w.heap.size w w' := by
  have sz := size_list s
  have tl := toList_eq s
  have cf := fun w => refParseFloat_c s hs w
  have ci := fun w => refParseInt_c s hs w
  by_cases c64 : s.size ≤ 64
  · by_cases h1 : s.data.toList = nanT
    · have := refParse_nan 9221120237041090560 w (fun w => refPF_nan w)
      rw [h1, ba_list s _ h1]
      exact this
    by_cases h2 : s.data.toList = infT
    · have := refParse_inf 9218868437227405312 w (fun w => refPF_inf w)
      rw [h2, ba_list s _ h2]
      exact this
    by_cases h3 : s.data.toList = 45 :: infT
    · have := refParse_minf 18442240474082181120 w (fun w => refPF_minf w)
      rw [h3, ba_list s _ h3]
      exact this
    have n1 := names_of s _ h1
    have n2 := names_of s _ h2
    have n3 := names_of s _ h3
    have hfl := floatB_mark _ h1 h2 h3
    cases hl : s.data.toList with
    | nil =>
      have c := refParseInt_c s hs
      rw [hl] at c
      rw [ba_list s _ hl] at c ⊢
      exact refParse_empty w c
    | cons c r =>
      obtain ⟨s0, h0⟩ := cons_at s c r hl
      have he : s.toList.isEmpty = false := by rw [tl, hl]; rfl
      by_cases hc : c = 45
      · subst hc
        have hc' : ((s[0].toNat : Int) == 45) = true := by rw [h0]; rfl
        have hx : s.extract 1 s.size = ⟨r.toArray⟩ := by
          have := cut_from0 s 1
          rw [hl] at this
          exact this
        have hrs := size_list ⟨r.toArray⟩
        have hr : (⟨r.toArray⟩ : ByteArray).data.toList = r := rfl
        rw [hr] at hrs
        have szl := sz
        rw [hl] at szl
        simp only [List.length_cons] at szl
        rw [← hl]
        have hrest : rest1 s.data.toList = r := by rw [hl]; rfl
        rw [hrest] at hfl
        rcases markB_ways ⟨r.toArray⟩ with ⟨hn, hno⟩ | ⟨hm, q, hq⟩
        · have hf : floatB s.data.toList = false := by
            rw [hfl]
            split
            · rename_i q; exact (hno q rfl).elim
            · rfl
          rw [readN_whlN _ (by omega) hf]
          exact refParse_minusI s _ w s0 c64 he hc' hx n1 n2 n3 (by omega) _ _ ci hn
        · have hq' : r = 48 :: 120 :: q := hq
          have hf : floatB s.data.toList = true := by rw [hfl, hq']; rfl
          rw [readN_fltN _ (by omega) hf]
          exact refParse_minusF s _ w s0 c64 he hc' hx n1 n2 n3 (by omega) _ _ cf hm
      · obtain ⟨g1, g2⟩ := rest_not (c :: r) (fun d e => hc (by injection e))
        have hc' : ((s[0].toNat : Int) == 45) = false := by rw [h0, show (45 : Int) = ((45 : UInt8).toNat : Int) from rfl, chr_is]; exact decide_eq_false hc
        rw [← hl] at g2 ⊢
        rw [g2] at hfl
        rcases markB_ways s with ⟨hn, hno⟩ | ⟨hm, q, hq⟩
        · have hf : floatB s.data.toList = false := by
            rw [hfl]
            split
            · rename_i q e; exact (hno q e).elim
            · rfl
          rw [readN_whlN _ (by omega) hf]
          exact refParse_plusI s w he s0 c64 hc' n1 n2 n3 _ _ ci hn
        · have hf : floatB s.data.toList = true := by rw [hfl, hq]; rfl
          rw [readN_fltN _ (by omega) hf]
          exact refParse_plusF s w he s0 c64 hc' n1 n2 n3 _ _ cf hm
  · have E : readN s.data.toList = (false, 0, 0, 2) := by unfold readN; rw [if_pos (by omega)]
    rw [E]
    exact refParse_long s w hs (by omega)
end Go.Proofs.YtmdpnoebpjoiaaaDoor.W
