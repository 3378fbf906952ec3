import Derived.Test.YtfjkkndmngaaiaaDoorXD
import Derived.Test.YtfjkkndmngaaiaaDoorLexTwoWalkJ
/- LexBlanks: the walk. -/
namespace Go.Proofs.YtfjkkndmngaaiaaDoor.W
open Go.ChangeShapes Go.WideShapes Go.RowKit Go.Shelf
set_option linter.unusedVariables false
theorem ins_len (k : Nat) : (insL k).length ≤ 14 := by
  by_cases h1 : k = 1
  · subst h1; decide
  · by_cases h2 : k = 2
    · subst h2; decide
    · by_cases h3 : k = 3
      · subst h3; decide
      · rw [insL_none k h1 h2 h3]; decide
theorem wf_len (src : List UInt8) (Ys : List Yd) (hT : T src 0 = Ys) (hc : ∀ y ∈ Ys, y.c = 0) (ks : Nat → Nat) : ∀ (d i : Nat), i + d + 1 = Ys.length → (wf (Sx' src Ys ks) d i).length + pl Ys i ≤ pl Ys (i + d) + 14 * d
  | 0, i, h => by
    show 0 + pl Ys i ≤ pl Ys (i + 0) + 14 * 0
    have e : i + 0 = i := rfl
    rw [e]; omega
  | d + 1, i, h => by
    obtain ⟨x, g, s⟩ := stepY src Ys hT hc i (by omega)
    have ih := wf_len src Ys hT hc ks d (i + 1) (by omega)
    have il := ins_len (ks i)
    have nx := s.nx
    have e : (wf (Sx' src Ys ks) (d + 1) i).length = x.length + g.length + (insL (ks i)).length + (wf (Sx' src Ys ks) d (i + 1)).length := by
      show ((seg src Ys i ++ insL (ks i)) ++ wf (Sx' src Ys ks) d (i + 1)).length = _
      rw [s.sg]
      simp
      omega
    have e2 : i + 1 + d = i + (d + 1) := by omega
    rw [e2] at ih
    omega
theorem getD_at (L : List Yd) (k : Nat) (h : k < L.length) : L.getD k y0 = L[k] := by rw [List.getD_eq_getElem?_getD, List.getElem?_eq_getElem h]; rfl
theorem lexBlanks_walk (A : ByteArray) (o : Option Addr) (n cap : Nat) (zs : List Int) (wa : A.size ≤ maxLen) (w : World) (hrow : IsRow .i64 w o n cap zs) (ht : Tabs w) (hm : MarksIn w) :
    Calls Tryd.prog 5 #[.string A, .slice o n cap] w fun e w' => e = .returned (.bool true) ∧ Below w.heap.size w w' := by
  by_cases cA : 5000 < A.size
  · exact lexBlanks_long A cA o n cap w
  have hA : A.size ≤ 5000 := by omega
  have lA := size_list A
  have sA : srcY A.data.toList = T A.data.toList 0 := src_T _ (by omega)
  obtain ⟨ts, z, hT, hts, hz⟩ := T_form _ A.data.toList 0 (Nat.le_refl _)
  rcases hz with hz | ⟨z1, z2, z3, z4⟩
  · obtain ⟨Ys, hYs⟩ : ∃ Ys, ts ++ [z] = Ys := ⟨_, rfl⟩
    rw [hYs] at hT
    have hc : ∀ y ∈ Ys, y.c = 0 := by
      intro y hy
      rw [← hYs] at hy
      rcases List.mem_append.1 hy with hy | hy
      · exact (hts y hy).1
      · simp only [List.mem_singleton] at hy
        rw [hy, hz]
    have hlen : Ys.length = ts.length + 1 := by rw [← hYs]; simp
    have hXl : ts.length + 1 ≤ A.size + 1 := by
      have := srcY_len A.data.toList
      rw [sA, hT, hlen, lA] at this
      exact this
    have hm' : ts.length < Ys.length := by omega
    have hlast : Ys[ts.length] = z := by
      have : Ys[ts.length]? = some z := by rw [← hYs]; simp
      rw [List.getElem?_eq_getElem hm'] at this
      exact Option.some.inj this
    have hlD : Ys.getD (Ys.length - 1) y0 = z := by
      have e : Ys.length - 1 = ts.length := by omega
      rw [e, getD_at _ _ hm', hlast]
    have hP := places A.data.toList Ys hT hc
    have hend : pl Ys (Ys.length - 1) = A.data.toList.length := by
      unfold pl
      rw [hlD, hz]
      show (((0 + A.data.toList.length : Nat) : Int)).toNat = _
      rw [Int.toNat_natCast]; omega
    obtain ⟨L, h1, h2, h3, _, _⟩ := wide_T A.data.toList Ys hT hc (by rw [hlD, hz]) hend (ksOf zs n) ts.length 0 0 (by omega)
    have hwl := wf_len A.data.toList Ys hT hc (ksOf zs n) ts.length 0 (by omega)
    have hple := (hP ts.length hm').le
    rw [Nat.zero_add] at hwl
    have hcL : ∀ y ∈ L, y.c = 0 := by
      intro y hy
      obtain ⟨j, hj, rfl⟩ := List.getElem_of_mem hy
      have := (h3 j (by omega)).2.1
      rwa [getD_at L j hj] at this
    refine lexBlanks_good A hA o n cap zs Ys L ts.length (ts.length + 1) rfl hlen (by omega) h2 ?_ ?_ ?_ ?_ ?_ ?_ w hrow ht hm ?_ ?_ ?_
    · intro h; rw [hlast, hz]; rfl
    · intro k h
      have := (hP k h).a
      rwa [getD_at Ys k h] at this
    · intro k h
      obtain ⟨x, g, s⟩ := stepY A.data.toList Ys hT hc k h
      have := s.nx
      have := List.length_pos_iff.2 s.ne
      omega
    · intro k h
      have := (hP k h).le
      omega
    · intro k h h'
      obtain ⟨a1, a2, a3, a4, a5⟩ := h3 k (by omega)
      rw [Nat.zero_add, getD_at L k h', getD_at Ys k h] at a1
      rw [Nat.zero_add, Nat.zero_add, getD_at L k h'] at a4
      exact ⟨a1, a4⟩
    · intro k h
      have := (h3 k (by omega)).2.2.1
      rwa [Nat.zero_add] at this
    · intro w ht hm
      have := all_good A (by omega) Ys (by rw [sA, hT]) hc (by omega) w ht hm
      rw [hlen] at this
      exact this
    · intro V hV big w ht hm
      have hVl : V.size = (wf (Sx' A.data.toList Ys (ksOf zs n)) ts.length 0).length := by rw [← hV, size_list]
      refine all_bad V (by omega) ⟨noTk, 0, 2, 0⟩ ?_ w ht hm
      unfold srcY
      rw [if_pos (by rw [size_list]; exact big)]
      rfl
    · intro V hV big w ht hm
      have hVl : V.size = (wf (Sx' A.data.toList Ys (ksOf zs n)) ts.length 0).length := by rw [← hV, size_list]
      have := all_good V (by omega) L (by rw [src_T _ (by rw [size_list]; omega), hV, h1]) hcL (by omega) w ht hm
      rw [h2] at this
      exact this
  · exact lexBlanks_bad A hA o n cap z.c z.f z1 w ht hm (fun w ht hm => all_bad A (by omega) z (by rw [sA, hT]; exact find_last ts z (fun y hy => (hts y hy).1) z1) w ht hm)
end Go.Proofs.YtfjkkndmngaaiaaDoor.W
