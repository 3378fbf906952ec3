import Derived.Test.YtkjaoandifednaaGreatDoorKI
import Derived.Test.YtkjaoandifednaaGreatDoorCtWJ
import Derived.Test.YtkjaoandifednaaGreatDoorKG
/- TreeCuts: the walk. -/
namespace Go.Proofs.YtkjaoandifednaaGreatDoor.W.Tr
open Go.ChangeShapes Go.WideShapes Go.RowKit Go.Shelf
set_option linter.unusedVariables false
set_option linter.unusedSimpArgs false
theorem cut_num (a1 : Int) (k : Nat) : ∃ n : Nat, n ≤ k ∧ (a1.tmod ((k : Int) + 1) = n ∨ a1.tmod ((k : Int) + 1) = -(n : Int) ∧ 0 < n) := by
  have h1 : (a1.tmod ((k : Int) + 1)).natAbs < k + 1 := by
    have := Int.natAbs_tmod a1 ((k : Int) + 1)
    rw [this]
    have e : ((k : Int) + 1).natAbs = k + 1 := by omega
    rw [e]
    exact Nat.mod_lt _ (by omega)
  refine ⟨(a1.tmod ((k : Int) + 1)).natAbs, by omega, ?_⟩
  generalize a1.tmod ((k : Int) + 1) = m at *
  omega
theorem cut_ends (t : ByteArray) (ht : t.size ≤ 6000) : ∃ x y : Int, ((x == 0) = true ∨ (x == 0) = false ∧ y ≤ (t.size : Nat)) ∧ ∀ w, Tabs w → MarksIn w → Calls Tryz.prog 8 #[.string t] w fun e w' => ∃ r, e = .returned (.tuple #[r, .agg #[.int .i64 x, .int .i64 y]]) ∧ Below w.heap.size w w' := by
  obtain ⟨r, hr⟩ := ends t.data.toList
  cases r with
  | error f =>
    have hc := ends_code hr
    have ha := ends_at _ (by rw [size_list]; exact ht) hr
    rw [size_list] at ha
    refine ⟨f.1, f.2, .inr ⟨by simpa using hc, ha⟩, fun w hT hM => ?_⟩
    refine (parse_bad t (by omega) w hT hM hr).mono ?_
    rintro e w' ⟨rfl, hB⟩
    exact ⟨_, rfl, hB⟩
  | ok p =>
    obtain ⟨fo, s'⟩ := p
    refine ⟨0, 0, .inl rfl, fun w hT hM => ?_⟩
    refine (parse_good t (by omega) w hT hM hr).mono ?_
    rintro e w' ⟨r, rfl, hB, _⟩
    exact ⟨r, rfl, hB⟩
theorem cuts_good (src : ByteArray) (hs : src.size ≤ 6000) (a1 : Int) (fo : Fo) (s' : Cs) (hE : Ends src.data.toList (.ok (fo, s'))) (w : World) (ht : Tabs w) (hm : MarksIn w) : Calls Tryz.prog 4 #[.string src, .int .i64 a1] w fun e w' => e = .returned (.bool true) ∧ Below w.heap.size w w' := by
  have sl := size_list src
  have c0 : ∀ w, Tabs w → MarksIn w → Calls Tryz.prog 8 #[.string src] w fun e w' => ∃ r, e = .returned (.tuple #[r, .agg #[.int .i64 0, .int .i64 0]]) ∧ Below w.heap.size w w' := by
    intro w hT hM
    refine (parse_good src (by omega) w hT hM hE).mono ?_
    rintro e w' ⟨r, rfl, hB, _⟩
    exact ⟨r, rfl, hB⟩
  obtain ⟨n, hn, hm0⟩ := cut_num a1 src.size
  have z3 : (src.extract 0 n).size = n := by simp [ByteArray.size_extract]; omega
  obtain ⟨x3, y3, h3, c3⟩ := cut_ends (src.extract 0 n) (by omega)
  rw [z3] at h3
  have l2 : ∀ u v : UInt8, (src ++ ⟨#[u, v]⟩).data.toList = src.data.toList ++ [u, v] := fun u v => by simp only [ByteArray.data_append, Array.toList_append]
  have k2 : ∀ u v : UInt8, (src ++ ⟨#[u, v]⟩).size ≤ 1000000 := fun u v => by
    have h := size_list (src ++ ⟨#[u, v]⟩)
    rw [l2, List.length_append, sl] at h
    rw [← h]
    show src.size + 2 ≤ 1000000
    omega
  have hq := cut_shut _ (by rw [sl]; exact hs) hE
  rw [sl, ← l2] at hq
  have c2 : ∀ w, Tabs w → MarksIn w → Calls Tryz.prog 8 #[.string (src ++ ⟨#[10, 125]⟩)] w fun e w' => e = .returned (.tuple #[.slice none 0 0, .agg #[.int .i64 70, .int .i64 ((src.size : Int) + 1)]]) ∧ Below w.heap.size w w' := fun w hT hM => parse_bad _ (k2 _ _) w hT hM hq
  have cr := fun w => remark_c src hs w
  cases hb : remL src.data.toList.reverse
  · rw [hb] at cr
    have hp := cut_bad _ (by rw [sl]; exact hs) hE (rem_none _ hb)
    rw [sl, ← l2] at hp
    have c1 : ∀ w, Tabs w → MarksIn w → Calls Tryz.prog 8 #[.string (src ++ ⟨#[32, 33]⟩)] w fun e w' => ∃ o cap, e = .returned (.tuple #[.slice o 0 cap, .agg #[.int .i64 60, .int .i64 ((src.size : Int) + 1)]]) ∧ Below w.heap.size w w' := by
      intro w hT hM
      refine (parse_bad _ (k2 _ _) w hT hM hp).mono ?_
      rintro e w' ⟨rfl, hB⟩
      exact ⟨none, 0, rfl, hB⟩
    exact cuts_x src hs a1 n 0 60 _ x3 y3 false hn hm0 h3 c0 c1 c2 c3 cr (fun w hT hM => awake12_c w hT hM) rfl (.inl ⟨by decide, by simp⟩) w ht hm
  · rw [hb] at cr
    obtain ⟨r1, hr1⟩ := ends (src ++ ⟨#[32, 33]⟩).data.toList
    cases r1 with
    | error f =>
      have c1 : ∀ w, Tabs w → MarksIn w → Calls Tryz.prog 8 #[.string (src ++ ⟨#[32, 33]⟩)] w fun e w' => ∃ o cap, e = .returned (.tuple #[.slice o 0 cap, .agg #[.int .i64 f.1, .int .i64 f.2]]) ∧ Below w.heap.size w w' := by
        intro w hT hM
        refine (parse_bad _ (k2 _ _) w hT hM hr1).mono ?_
        rintro e w' ⟨rfl, hB⟩
        exact ⟨none, 0, rfl, hB⟩
      refine cuts_x src hs a1 n 0 f.1 f.2 x3 y3 true hn hm0 h3 c0 c1 c2 c3 cr (fun w hT hM => awake12_c w hT hM) rfl ?_ w ht hm
      cases e1 : (f.1 == 60)
      · exact .inr (.inl ⟨rfl, rfl⟩)
      · cases e2 : (f.2 == (src.size : Int) + 1)
        · exact .inr (.inr ⟨rfl, rfl, rfl⟩)
        · exact .inl ⟨rfl, rfl⟩
    | ok p =>
      obtain ⟨g, s1⟩ := p
      obtain ⟨nd, md, hf⟩ : ∃ nd m, g = Fo.one nd m := by obtain ⟨n, h⟩ := hr1; exact pg_form' n _ _ _ _ h
      have hpos : ¬ (rowF g).length = 0 := by rw [hf]; simp [Fo.one, rowF]
      refine cuts_y src hs a1 (rowF g).length 0 0 hpos c0 ?_ cr w ht hm
      intro w hT hM
      refine (parse_good _ (k2 _ _) w hT hM hr1).mono ?_
      rintro e w' ⟨r, rfl, hB, ho⟩
      rcases ho.2 with ⟨_, h0⟩ | ⟨gb, cap, cur, rfl, _⟩
      · exact absurd h0 hpos
      · exact ⟨_, cap, rfl, hB⟩
end Go.Proofs.YtkjaoandifednaaGreatDoor.W.Tr
namespace Go.Proofs.YtkjaoandifednaaGreatDoor.W
set_option linter.unusedVariables false
open Go.ChangeShapes Go.WideShapes Go.RowKit Go.Shelf
theorem treeCuts_walk (src : ByteArray) (a1 : Int) (w0 : src.size ≤ maxLen) (w1 : (Lit.int .i64 a1).wf = true) (w : World) (ht : Tabs w) (hm : MarksIn w) : Calls Tryz.prog 4 #[.string src, .int .i64 a1] w fun e w' => e = .returned (.bool true) ∧ Below w.heap.size w w' := by
  by_cases h : 6000 < src.size
  · exact Tr.cuts_long src h a1 w
  have hs : src.size ≤ 6000 := by omega
  obtain ⟨r, hr⟩ := Tr.ends src.data.toList
  cases r with
  | error f =>
    have hc := Tr.ends_code hr
    exact Tr.cuts_bad src hs a1 f.1 f.2 (by simpa using hc) (fun w hT hM => Tr.parse_bad src (by omega) w hT hM hr) w ht hm
  | ok p =>
    obtain ⟨fo, s'⟩ := p
    exact Tr.cuts_good src hs a1 fo s' hr w ht hm
end Go.Proofs.YtkjaoandifednaaGreatDoor.W
