/- Package lex: how a byte of a string is spelt: spelt. -/
import Derived.Test.YtdoojooepkdlhaaDoorX1g
namespace Go.Proofs.YtdoojooepkdlhaaDoor.W
open Go.ChangeShapes Go.WideShapes Go.RowKit Go.Shelf
set_option linter.unusedVariables false
theorem list_head (s : ByteArray) (h : 0 < s.size) : s.data.toList = s[0] :: s.data.toList.drop 1 := by
  have e := get_at s 0 h
  cases hl : s.data.toList with
  | nil => rw [hl] at e; cases e
  | cons c r => rw [hl] at e; injection e with e; rw [e]; rfl
theorem list_two (s : ByteArray) (h : 1 < s.size) : s.data.toList.drop 1 = s[1] :: s.data.toList.drop 2 := by
  have e := get_at s 1 h
  have e2 : (s.data.toList.drop 1)[0]? = some s[1] := by rw [List.getElem?_drop]; exact e
  have e3 : s.data.toList.drop 2 = (s.data.toList.drop 1).drop 1 := by rw [List.drop_drop]
  rw [e3]
  cases hl : s.data.toList.drop 1 with
  | nil => rw [hl] at e2; cases e2
  | cons c r => rw [hl] at e2; injection e2 with e2; rw [e2]; rfl
theorem u8_ne {c : UInt8} {n : Nat} (hn : n < 256) (h : c.toNat ≠ n) : c ≠ n.toUInt8 := by
  rintro rfl
  apply h
  simp
  omega
theorem u8_is {c : UInt8} {n : Nat} (h : c.toNat = n) : c = n.toUInt8 := by rw [← h]; simp
set_option maxHeartbeats 2000000 in
theorem spelt_c (s : ByteArray) (h0 : 0 < s.size) (hs : s.size ≤ 1000000) (w : World) : Calls Tryd.prog 43 #[.string s] w fun e w' => e = .returned (.tuple #[.int .u8 ((speltP s.data.toList).1 : Nat), .int .i64 ((speltP s.data.toList).2 : Nat)]) ∧ Below w.heap.size w w' := by
  have cx := hexByte_c s hs
  have z0 : (0 : Int) < s.size := by omega
  have hl := list_head s h0
  obtain ⟨f1, f2⟩ := spelt_head s[0] (s.data.toList.drop 1)
  rw [← hl] at f1 f2
  by_cases a1 : s[0].toNat < 32
  · rw [f1 (.inl a1)]
    clear f1 f2 hl cx
    go_enter Tryd.func43, Tryd.ntmps43
    go_wp2
    go_ret2
    exact ⟨rfl, Below.refl _ _⟩
  · by_cases a2 : 126 < s[0].toNat
    · rw [f1 (.inr a2)]
      clear f1 f2 hl cx
      go_enter Tryd.func43, Tryd.ntmps43
      go_wp2
      go_ret2
      exact ⟨rfl, Below.refl _ _⟩
    · by_cases a3 : s[0].toNat = 92
      · have e0 : s[0] = 92 := u8_is a3
        rw [e0] at hl
        obtain ⟨g1, g2⟩ := spelt_esc (s.data.toList.drop 1)
        rw [← hl] at g1 g2
        by_cases b : s.size < 2
        · have b' : (s.size : Int) < 2 := by omega
          rw [g1 (List.drop_eq_nil_of_le (by rw [size_list]; omega))]
          clear f1 f2 hl cx g1 g2 e0
          go_enter Tryd.func43, Tryd.ntmps43
          go_wp2
          go_ret2
          exact ⟨rfl, Below.refl _ _⟩
        · have z1 : (1 : Int) < s.size := by omega
          have h1 : 1 < s.size := by omega
          have b' : ¬ (s.size : Int) < 2 := by omega
          obtain ⟨k1, k2, k3, k4, k5⟩ := g2 _ _ (list_two s h1)
          by_cases d1 : s[1].toNat = 92
          · rw [k1 (u8_is d1)]
            clear f1 f2 hl cx g1 g2 e0 k1 k2 k3 k4 k5
            go_enter Tryd.func43, Tryd.ntmps43
            go_wp2
            go_ret2
            exact ⟨rfl, Below.refl _ _⟩
          · by_cases d2 : s[1].toNat = 34
            · rw [k2 (u8_is d2)]
              clear f1 f2 hl cx g1 g2 e0 k1 k2 k3 k4 k5
              go_enter Tryd.func43, Tryd.ntmps43
              go_wp2
              go_ret2
              exact ⟨rfl, Below.refl _ _⟩
            · by_cases d3 : s[1].toNat = 110
              · rw [k3 (u8_is d3)]
                clear f1 f2 hl cx g1 g2 e0 k1 k2 k3 k4 k5
                go_enter Tryd.func43, Tryd.ntmps43
                go_wp2
                go_ret2
                exact ⟨rfl, Below.refl _ _⟩
              · by_cases d4 : s[1].toNat = 120
                · have ek := k4 (u8_is d4)
                  rw [ek]
                  clear f1 f2 hl g1 g2 e0 k1 k2 k3 k4 k5 ek
                  generalize (hexBP s.data.toList).1 = P1 at *
                  generalize (hexBP s.data.toList).2 = P2 at *
                  go_enter Tryd.func43, Tryd.ntmps43
                  go_wp2_with (go_at_call 56; (with_reducible refine (cx _).mono ?_); rintro e w2 ⟨rfl, hB⟩)
                  go_ret2
                  exact ⟨rfl, hB⟩
                · rw [k5 (u8_ne (by decide) d1) (u8_ne (by decide) d2) (u8_ne (by decide) d3) (u8_ne (by decide) d4)]
                  clear f1 f2 hl cx g1 g2 e0 k1 k2 k3 k4 k5
                  go_enter Tryd.func43, Tryd.ntmps43
                  go_wp2
                  go_ret2
                  exact ⟨rfl, Below.refl _ _⟩
      · rw [f2 (by omega) (u8_ne (by decide) a3)]
        clear f1 f2 hl cx
        go_enter Tryd.func43, Tryd.ntmps43
        go_wp2
        go_ret2
        exact ⟨rfl, Below.refl _ _⟩
end Go.Proofs.YtdoojooepkdlhaaDoor.W
