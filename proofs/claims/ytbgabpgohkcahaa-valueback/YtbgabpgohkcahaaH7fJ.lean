import Derived.Test.YtbgabpgohkcahaaBase4
/- Package heap: the pieces of n bytes: the iterator. -/
namespace Go.Proofs.Ytbgabpgohkcahaa.W
open Go.ChangeShapes Go.WideShapes Go.RowKit Go.Shelf
set_option linter.unusedVariables false
/-- where the piece k of n bytes begins -/
def pieceO (n k : Nat) : Nat := if k ≤ n / 8 then 8 * k else 8 * (n / 8) + (k - n / 8)
/-- how many bytes it has -/
def pieceW (n k : Nat) : Nat := if k < n / 8 then 8 else 1
/-- how many pieces there are -/
def pieceN (n : Nat) : Nat := n / 8 + n % 8
theorem piece_next (n k : Nat) : pieceO n (k + 1) = pieceO n k + pieceW n k := by
  unfold pieceO pieceW
  by_cases h : k < n / 8
  · rw [if_pos (by omega), if_pos (by omega), if_pos h]; omega
  · by_cases h2 : k ≤ n / 8
    · rw [if_neg (by omega), if_pos h2, if_neg h]; omega
    · rw [if_neg (by omega), if_neg h2, if_neg h]; omega
theorem piece_end (n : Nat) : pieceO n (pieceN n) = n := by
  unfold pieceO pieceN
  by_cases h : n % 8 = 0
  · rw [if_pos (by omega)]; omega
  · rw [if_neg (by omega)]; omega
theorem piece_lt (n k : Nat) (h : k < pieceN n) : pieceO n k + pieceW n k ≤ n ∧ pieceO n k % pieceW n k = 0 := by
  unfold pieceO pieceW pieceN at *
  by_cases h1 : k < n / 8
  · rw [if_pos (by omega), if_pos h1]; omega
  · by_cases h2 : k ≤ n / 8
    · rw [if_pos h2, if_neg h1]; omega
    · rw [if_neg h2, if_neg h1]; omega
theorem piece_zero (n : Nat) : pieceO n 0 = 0 := by unfold pieceO; rw [if_pos (by omega)]
/-- the pieces, as they are told -/
def piecesV (n : Nat) : List (Array Value) := (List.range (pieceN n)).map (fun k => #[.int .i64 (pieceO n k : Nat), .int .i64 (pieceW n k : Nat)])
theorem pieces_c (W : World) (n : Nat) : Calls Try.prog 91 #[.int .i64 n] W fun e w' => e = .returned (.func (.func 96) #[] #[.pointer (some ⟨W.heap.size, 0, none⟩)]) ∧ w' = W.alloc (.cells #[.int .i64 n] 3) := by
  go_enter Try.func91, Try.ntmps91
  go_wp2
  go_ret
  exact ⟨rfl, rfl⟩
theorem pieces_iter (Bn nn : Nat) (hnn : nn ≤ 8388608) : Iter 96 #[.pointer (some ⟨Bn, 0, none⟩)] (piecesV nn) (fun _ W => W.cell? ⟨Bn, 0, none⟩ = some (.int .i64 nn)) := by
  intro n l J X hn hL hB hY W h0
  have hlen : (piecesV nn).length = pieceN nn := by unfold piecesV; rw [List.length_map, List.length_range]
  rw [hlen]
  have hY : ∀ i (hi : i < pieceN nn) W, J i W → YieldAt Fence.wide (n - 1) Try.prog l #[.int .i64 (pieceO nn i : Nat), .int .i64 (pieceW nn i : Nat)] W fun e W' => (e = .returned (.bool true) ∧ J (i + 1) W') ∨ (e = .returned (.bool false) ∧ X W') := by
    intro i hi W hJ
    have := hY i (by rw [hlen]; exact hi) W hJ
    unfold piecesV at this
    rw [List.getElem_map, List.getElem_range] at this
    exact this
  show CallsIn Fence.wide n Try.prog 96 #[.func (.yield l) #[] #[], .pointer (some ⟨Bn, 0, none⟩)] W fun e W' => (∃ v, e = .returned v) ∧ (J (pieceN nn) W' ∨ X W')
  refine callsIn_of_wp Try.func96 rfl trivial ?_ rfl
  simp only [Try.ntmps96, List.size_toArray, List.length_cons, List.length_nil, Nat.reduceAdd, Nat.reduceSub, Array.replicate_succ, Array.replicate_zero, List.push_toArray, List.append_toArray, List.nil_append, List.cons_append]
  gi_wp2
  gi_loopw [3, 4] (fun wd off wr => ∃ i o v : Nat, i ≤ pieceN nn ∧ o = pieceO nn i ∧ v = (if i ≤ nn / 8 then 8 else 1) ∧ off = .int .i64 o ∧ wd = .int .i64 v ∧ J i wr) (fun _ off _ => nn - (intOf off).toNat)
  case atStart => exact ⟨0, 0, 8, Nat.zero_le _, (piece_zero nn).symm, by rw [if_pos (Nat.zero_le _)], rfl, rfl, h0⟩
  case round =>
    obtain ⟨i, o, v, hi, ho, hv, rfl, rfl, hJi⟩ := hrel
    have cn := hL i wr hJi
    have HO := hid ho
    have HV := hid hv
    by_cases hlt : i < pieceN nn
    · have hp := piece_lt nn i hlt
      have hnx := piece_next nn i
      have hw1 : pieceW nn i = 8 ∨ pieceW nn i = 1 := by unfold pieceW; split <;> simp
      have o1 : (o : Int) < nn := by omega
      have v8 : v = 8 ∨ v = 1 := by rw [hv]; split <;> simp
      have a1 : IntKind.i64.wrap ((o : Int) + (v : Int)) = (o : Int) + (v : Int) := by rw [IntKind.wrap_i64]; omega
      have hvn : (if i + 1 ≤ nn / 8 then 8 else 1) = pieceW nn i := by
        unfold pieceW
        by_cases c : i < nn / 8
        · rw [if_pos (by omega), if_pos c]
        · rw [if_neg (by omega), if_neg c]
      have HVN := hid hvn
      have HP := hid hp
      obtain ⟨fn, tmps, assign, body, hy, hR⟩ := hY i hlt wr hJi
      rw [← ho] at hy
      have HX := hid hnx
      clear hY hL hB hJi hp hnx hvn ho hv
      by_cases hbig : o + v > nn
      · have hw : pieceW nn i = 1 := by
          have h1 := HO.out
          have h2 := HV.out
          have h3 := HP.out
          rcases hw1 with e | e
          · rw [← h1, e] at h3
            rcases v8 with e2 | e2 <;> omega
          · exact e
        have g1 : (o : Int) + (v : Int) > nn := by omega
        have a2 : IntKind.i64.wrap ((o : Int) + 1) = (o : Int) + 1 := by rw [IntKind.wrap_i64]; omega
        rw [hw, show ((1 : Nat) : Int) = 1 from rfl] at hy
        gi_wp2
        refine hR.mono ?_
        rintro e W3 (⟨rfl, hK3⟩ | ⟨rfl, hX3⟩)
        · clear hy hR
          gi_wp2
          go_roundw
          case rel => exact ⟨i + 1, o + 1, 1, hlt, by have := HX.out; rw [hw] at this; have := HO.out; omega, by have := HVN.out; omega, by go_num, rfl, hK3⟩
          case measure => show nn - (o + 1 : Int).toNat < nn - (o : Int).toNat; omega
        · clear hy hR
          gi_wp2
          refine bodyPost_ret (results_none rfl _ _ _) rfl ?_
          exact ⟨⟨_, rfl⟩, .inr hX3⟩
      · have hw : pieceW nn i = v := by
          have h1 := HO.out
          have h2 := HV.out
          have h3 := HP.out
          unfold pieceO at h1
          unfold pieceW
          by_cases c : i < nn / 8
          · rw [if_pos c]; rw [if_pos (by omega)] at h2; omega
          · rw [if_neg c]
            by_cases d : i ≤ nn / 8
            · rw [if_pos d] at h1 h2; omega
            · rw [if_neg d] at h2; omega
        have g1 : ¬ (o : Int) + (v : Int) > nn := by omega
        rw [hw] at hy
        gi_wp2
        refine hR.mono ?_
        rintro e W3 (⟨rfl, hK3⟩ | ⟨rfl, hX3⟩)
        · clear hy hR
          gi_wp2
          go_roundw
          case rel => exact ⟨i + 1, o + v, v, hlt, by have := HX.out; rw [hw] at this; have := HO.out; omega, by have := HVN.out; omega, by go_num, rfl, hK3⟩
          case measure => show nn - (o + v : Int).toNat < nn - (o : Int).toNat; omega
        · clear hy hR
          gi_wp2
          refine bodyPost_ret (results_none rfl _ _ _) rfl ?_
          exact ⟨⟨_, rfl⟩, .inr hX3⟩
    · have he : i = pieceN nn := by omega
      have o1 : ¬ (o : Int) < nn := by have := piece_end nn; rw [he] at ho; omega
      rw [he] at hJi
      clear hY hL hB ho hv
      gi_wp2
      go_end0
      exact ⟨⟨_, rfl⟩, .inl hJi⟩
end Go.Proofs.Ytbgabpgohkcahaa.W
