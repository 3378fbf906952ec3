import Derived.Test.YtgkakflnmpoadaaGreatDoorBase13
import Derived.Deep.DeepCutAuto
import Derived.WalkMore
import Derived.RegionTactic
import Derived.Laws.BytesArg
import Derived.Laws.IdiomStrings
import Derived.Deep.QuietTactic
import Derived.BigQuiet
import Derived.Laws.Concat
import Derived.Test.YtgkakflnmpoadaaGreatDoorBase12
/- Contract of package numtext: hexadecimal digits, with a point or none, read one by one. -/
namespace Go.Proofs.YtgkakflnmpoadaaGreatDoor.W.Nu.Q
open Go.ChangeShapes Go.WideShapes Go.RowKit

/-- what is answered of digits: a value, a power, or that there are too many; and what stands behind them -/
def DigAns (l : List UInt8) (v p : Int) (wd : Bool) (r : List UInt8) (ok : Bool) : Prop :=
  (ok = false ∧ readBody l = none) ∨
  (ok = true ∧ 0 ≤ v ∧ v < 18446744073709551616 ∧ -1000 ≤ p ∧ p ≤ 1000 ∧ r.length ≤ l.length ∧ ∃ (D : List UInt8) (b : Nat), readBody l = readPow (valH D) b r ∧ ∀ pw : Int, exactP (valH D) (pw - 4 * b) = numP v.toNat wd (pw + p))
theorem hex_none {c : UInt8} (h : hexV c = -1) : hexB c = false := by unfold hexB; rw [h]; decide
theorem hex_some {c : UInt8} (h : 0 ≤ hexV c) : hexB c = true := by unfold hexB; exact decide_eq_true h
theorem dot_int (c : UInt8) : ((c.toNat : Int) == 46) = (c == 46) := by
  rw [Bool.eq_iff_iff, beq_iff_eq, beq_iff_eq]
  constructor
  · intro e
    apply UInt8.toNat_inj.1
    have : c.toNat = 46 := by omega
    rw [this]; rfl
  · intro e; subst e; rfl
theorem drop_head (s : ByteArray) (k : Nat) (h : k < s.size) : (s.data.toList.drop k).head? = some s[k] := by
  rw [List.head?_drop]
  rw [List.getElem?_eq_getElem (by rw [size_list]; exact h)]
  rfl
/-- what the loop leaves -/
structure Scan (s : ByteArray) (k : Nat) (point : Int) (D : List UInt8) (v z : Nat) (wd : Bool) : Prop where
  le : k ≤ s.size
  place : Place (s.data.toList.take k) point D
  dig : Dig D v z wd
theorem Scan.bounds {s : ByteArray} {k : Nat} {point : Int} {D : List UInt8} {v z : Nat} {wd : Bool} (h : Scan s k point D v z wd) : -1 ≤ point ∧ point + 1 ≤ k ∧ z ≤ k ∧ D.length ≤ k := by
  obtain ⟨h1, h2, h3⟩ := h
  have hl : (s.data.toList.take k).length = k := by rw [List.length_take, size_list]; omega
  have hz := h3.2.1
  rcases h2 with ⟨a, b, c⟩ | ⟨A, B, a, b, c, d, e⟩
  · rw [b, hl] at hz
    exact ⟨by omega, by omega, hz, by rw [b, hl]; exact Nat.le_refl _⟩
  · have : A.length + 1 + B.length = k := by rw [← hl, a]; simp; omega
    have hD : D.length = A.length + B.length := by rw [b]; simp
    exact ⟨by omega, by omega, by omega, by omega⟩
theorem Scan.dot {s : ByteArray} {k : Nat} {point : Int} {D : List UInt8} {v z : Nat} {wd : Bool} (h : Scan s k point D v z wd) (hk : k < s.size) (hc : s[k] = 46) (hp : point < 0) : Scan s (k + 1) k D v z wd := by
  have hl : (s.data.toList.take k).length = k := by rw [List.length_take, size_list]; have := h.le; omega
  have hpl := (h.place.point hp).1
  rw [hl] at hpl
  exact ⟨hk, by rw [take_snoc s k hk, hc]; exact hpl, h.dig⟩
theorem Scan.nought {s : ByteArray} {k : Nat} {point : Int} {D : List UInt8} {v z : Nat} {wd : Bool} (h : Scan s k point D v z wd) (hk : k < s.size) (hx : hexV s[k] = 0) : Scan s (k + 1) point (D ++ [s[k]]) v (z + 1) wd :=
  ⟨hk, by rw [take_snoc s k hk]; exact h.place.digit _ (hex_some (by omega)), h.dig.nought _ hx⟩
theorem Scan.digit {s : ByteArray} {k : Nat} {point : Int} {D : List UInt8} {v z v' : Nat} {wd wd' : Bool} (h : Scan s k point D v z wd) (hk : k < s.size) (hx : 0 ≤ hexV s[k]) (hD : Dig (D ++ [s[k]]) v' 0 wd') : Scan s (k + 1) point (D ++ [s[k]]) v' 0 wd' :=
  ⟨hk, by rw [take_snoc s k hk]; exact h.place.digit _ (hex_some hx), hD⟩
theorem Scan.answer {s : ByteArray} {k : Nat} {point : Int} {D : List UInt8} {v z : Nat} {wd : Bool} (h : Scan s k point D v z wd) (hs : s.size ≤ 64) (hst : stopB point (s.data.toList.drop k)) (hk : ¬ (k = 0 ∨ point = 0 ∨ point = (k : Int) - 1)) :
    DigAns s.data.toList v (4 * (z : Int) - (if 0 < point then 4 * ((k : Int) - 1 - point) else 0)) wd (s.data.toList.drop k) true := by
  have hb := place_body h.place hst
  have hl : (s.data.toList.take k).length = k := by rw [List.length_take, size_list]; have := h.le; omega
  rw [List.take_append_drop, hl, if_neg hk] at hb
  obtain ⟨b1, b2, b3, b4⟩ := h.bounds
  have hv := h.dig.1
  have le := h.le
  refine Or.inr ⟨rfl, by omega, by omega, by by_cases hp : 0 < point <;> simp only [hp, if_true, if_false] <;> omega, by by_cases hp : 0 < point <;> simp only [hp, if_true, if_false] <;> omega, by rw [List.length_drop]; omega, D, _, hb, fun pw => ?_⟩
  rw [h.dig.exact, Int.toNat_natCast]
  congr 1
  by_cases hp : 0 < point
  · rw [if_pos hp, if_pos hp]; omega
  · rw [if_neg hp, if_neg hp]; omega
theorem Scan.refuse {s : ByteArray} {k : Nat} {point : Int} {D : List UInt8} {v z : Nat} {wd : Bool} (h : Scan s k point D v z wd) (hst : stopB point (s.data.toList.drop k)) (hk : k = 0 ∨ point = 0 ∨ point = (k : Int) - 1) :
    readBody s.data.toList = none := by
  have hb := place_body h.place hst
  have hl : (s.data.toList.take k).length = k := by rw [List.length_take, size_list]; have := h.le; omega
  rw [List.take_append_drop, hl, if_pos hk] at hb
  exact hb
theorem cut_from (s : ByteArray) (k : Nat) : s.extract k s.size = ⟨(s.data.toList.drop k).toArray⟩ := by
  obtain ⟨⟨l⟩⟩ := s
  rw [ByteArray.extract_mk]
  have e : (⟨⟨l⟩⟩ : ByteArray).size = l.length := rfl
  rw [e]
  simp
  rw [List.take_of_length_le (by rw [List.length_drop]; omega)]
theorem stored3 {w wk W : World} {b : Nat} {x y z p q r : Value} (hW : ((wk.setCell ⟨b, 0, none⟩ x).setCell ⟨b, 1, none⟩ y).setCell ⟨b, 2, none⟩ z = W) (f : ∀ i, wk.cell? ⟨b, i, none⟩ = #[p, q, r][i]?) (hb : w.heap.size ≤ b) (h : Below w.heap.size w wk) :
    (∀ i, W.cell? ⟨b, i, none⟩ = #[x, y, z][i]?) ∧ Below w.heap.size w W := by
  subst hW
  exact ⟨set_at (set_at (set_at f x (show 0 < 3 by decide)) y (show 1 < 3 by decide)) z (show 2 < 3 by decide), ((h.setCell (p := ⟨b, 0, none⟩) hb x).setCell (p := ⟨b, 1, none⟩) hb y).setCell (p := ⟨b, 2, none⟩) hb z⟩
set_option maxHeartbeats 4000000 in
theorem readDigits_c (s : ByteArray) (hs : s.size ≤ 64) (w : World) :
    Calls Tryz.prog 263 #[.string s] w fun e w' => (∃ v p wd r ok, e = .returned (.tuple #[.agg #[.int .u64 v, .int .i64 p, .bool wd], .string ⟨r.toArray⟩, .bool ok]) ∧ DigAns s.data.toList v p wd r ok) ∧ Below w.heap.size w w' := by
  obtain ⟨B, hB⟩ : ∃ B, w.heap.size = B := ⟨_, rfl⟩
  have HB := hid hB
  clear hB
  go_enter Tryz.func263, Tryz.ntmps263
  go_wp2_with fail
  go_step3
  go_wp2_with fail
  go_step3
  go_wp2_with fail
  go_loopw [5, 6, 7] (fun pt at_ nz wr => ∃ (k z v : Nat) (point : Int) (wd : Bool) (D : List UInt8), at_ = .int .i64 k ∧ nz = .int .i64 z ∧ pt = .int .i64 point ∧ Scan s k point D v z wd ∧ (∀ i, wr.cell? ⟨w.heap.size, i, none⟩ = #[Value.int .u64 v, .int .i64 0, .bool wd][i]?) ∧ (∀ i, wr.frozen? ⟨w.heap.size, i, none⟩ = false) ∧ Below w.heap.size w wr) (fun _ a _ _ => s.size - (intOf a).toNat)
  case atStart =>
    refine ⟨0, 0, 0, -1, false, [], rfl, rfl, rfl, ⟨Nat.zero_le _, Place.start, Dig.start⟩, ?_, ?_, (Below.refl _ _).alloc (Nat.le_refl _) _⟩
    · intro i
      exact World.cell?_alloc_new w _ _ _
    · intro i
      rw [frozen?_alloc_cells, World.frozen?]
      have : w.heap[w.heap.size]? = none := Array.getElem?_eq_none (Nat.le_refl _)
      rw [this]
  case round =>
    obtain ⟨k, z, v, point, wd, D, rfl, rfl, rfl, hsc, hcell, hfz, hbl⟩ := hrel
    have c0 := hcell 0
    have c1 := hcell 1
    have c2 := hcell 2
    have f0 := hfz 0
    have f1 := hfz 1
    have f2 := hfz 2
    simp at c0 c1 c2
    by_cases hlt : k < s.size
    · have le := hsc.le
      obtain ⟨b1, b2, b3, b4⟩ := hsc.bounds
      by_cases hdot : s[k] = 46 ∧ point < 0
      · obtain ⟨hc, hp⟩ := hdot
        have R := hid (hsc.dot hlt hc hp)
        have q : ((s[k].toNat : Int) == 46) = true := by rw [dot_int, hc]; rfl
        clear hsc hc
        go_wp2_with fail
        go_roundw
        case rel => exact ⟨k + 1, z, v, k, wd, D, by go_num, rfl, rfl, R.out, hcell, hfz, hbl⟩
        case measure => simp [intOf]; omega
      · obtain ⟨hr1, hr2⟩ := hexV_range s[k]
        by_cases hx : hexV s[k] = -1
        · have hst : stopB point (s.data.toList.drop k) := by
            intro c hc
            rw [drop_head s k hlt] at hc
            injection hc with hc
            subst hc
            exact ⟨hex_none hx, fun h46 => by
              apply Int.not_lt.1
              intro hp
              exact hdot ⟨h46, hp⟩⟩
          rcases (show ((s[k].toNat : Int) == 46) = false ∨ ((s[k].toNat : Int) == 46) = true ∧ ¬ point < 0 by
            rw [dot_int]
            cases h46 : (s[k] == 46) with
            | false => exact Or.inl rfl
            | true => exact Or.inr ⟨rfl, fun hp => hdot ⟨by simpa using h46, hp⟩⟩) with t1 | ⟨t1, t2⟩
          all_goals clear hdot b1 b2 b3 b4 le hr1 hr2
          · obtain ⟨b1, b2, b3, b4⟩ := hsc.bounds
            have le := hsc.le
            by_cases hk : k = 0 ∨ point = 0 ∨ point = (k : Int) - 1
            · have R := hid (hsc.refuse hst hk)
              clear hst hsc
              rcases (show ((k : Int) == 0) = true ∨ ((k : Int) == 0) = false ∧ (point == 0) = true ∨ ((k : Int) == 0) = false ∧ (point == 0) = false ∧ (point == (k : Int) - 1) = true by
                by_cases q1 : k = 0
                · exact Or.inl (by rw [beq_iff_eq]; omega)
                · by_cases q2 : point = 0
                  · exact Or.inr (Or.inl ⟨by rw [beq_eq_false_iff_ne]; omega, by rw [beq_iff_eq]; exact q2⟩)
                  · exact Or.inr (Or.inr ⟨by rw [beq_eq_false_iff_ne]; omega, by rw [beq_eq_false_iff_ne]; exact q2, by rw [beq_iff_eq]; omega⟩)) with q | ⟨q, q2⟩ | ⟨q, q2, q3⟩
              all_goals clear hk
              · go_wp2_with (first | (go_at_call 293; refine (indexHex_c _ _).mono ?_; rintro e w' ⟨rfl, rfl⟩))
                generalize hW : World.setCell (World.setCell (World.setCell _ _ _) _ _) _ _ = W
                obtain ⟨fR, gR⟩ := stored3 hW hcell (Nat.le_refl _) hbl
                simp only [Exit.noGoto_ret]
                exact bodyPost_ret (v := .tuple #[.agg #[.int .u64 0, .int .i64 0, .bool false], .string ⟨#[]⟩, .bool false]) (by simp [results, Tryz.results263, go_sem, fR]) rfl ⟨⟨0, 0, false, [], false, rfl, Or.inl ⟨rfl, R.out⟩⟩, gR⟩
              · go_wp2_with (first | (go_at_call 293; refine (indexHex_c _ _).mono ?_; rintro e w' ⟨rfl, rfl⟩))
                generalize hW : World.setCell (World.setCell (World.setCell _ _ _) _ _) _ _ = W
                obtain ⟨fR, gR⟩ := stored3 hW hcell (Nat.le_refl _) hbl
                simp only [Exit.noGoto_ret]
                exact bodyPost_ret (v := .tuple #[.agg #[.int .u64 0, .int .i64 0, .bool false], .string ⟨#[]⟩, .bool false]) (by simp [results, Tryz.results263, go_sem, fR]) rfl ⟨⟨0, 0, false, [], false, rfl, Or.inl ⟨rfl, R.out⟩⟩, gR⟩
              · go_wp2_with (first | (go_at_call 293; refine (indexHex_c _ _).mono ?_; rintro e w' ⟨rfl, rfl⟩))
                generalize hW : World.setCell (World.setCell (World.setCell _ _ _) _ _) _ _ = W
                obtain ⟨fR, gR⟩ := stored3 hW hcell (Nat.le_refl _) hbl
                simp only [Exit.noGoto_ret]
                exact bodyPost_ret (v := .tuple #[.agg #[.int .u64 0, .int .i64 0, .bool false], .string ⟨#[]⟩, .bool false]) (by simp [results, Tryz.results263, go_sem, fR]) rfl ⟨⟨0, 0, false, [], false, rfl, Or.inl ⟨rfl, R.out⟩⟩, gR⟩
            · have R := hid (hsc.answer hs hst hk)
              have q : ((k : Int) == 0) = false := by rw [beq_eq_false_iff_ne]; omega
              have q2 : (point == 0) = false := by rw [beq_eq_false_iff_ne]; omega
              have q3 : (point == (k : Int) - 1) = false := by rw [beq_eq_false_iff_ne]; omega
              clear hst hsc hk
              by_cases hp : 0 < point
              · rw [if_pos hp] at R
                go_wp2_with (first | (go_at_call 293; refine (indexHex_c _ _).mono ?_; rintro e w' ⟨rfl, rfl⟩))
                generalize hW : World.setCell (World.setCell _ _ _) _ _ = W
                have fW : ∀ i, W.cell? ⟨w.heap.size, i, none⟩ = #[Value.int .u64 v, .int .i64 (4 * (z : Int) - 4 * ((k : Int) - 1 - point)), .bool wd][i]? := by rw [← hW]; exact set_at (set_at hcell _ (show 1 < 3 by decide)) _ (show 1 < 3 by decide)
                have gW : Below w.heap.size w W := by rw [← hW]; exact (hbl.setCell (p := ⟨w.heap.size, 1, none⟩) (Nat.le_refl _) _).setCell (p := ⟨w.heap.size, 1, none⟩) (Nat.le_refl _) _
                have zW : ∀ i, W.frozen? ⟨w.heap.size, i, none⟩ = false := by rw [← hW]; intro i; rw [World.frozen?_setCell, World.frozen?_setCell]; exact hfz i
                have d0 := fW 0
                have d1 := fW 1
                have d2 := fW 2
                have e0 := zW 0
                have e1 := zW 1
                have e2 := zW 2
                simp at d0 d1 d2
                have FW := hid fW
                have hcf := cut_from s k
                clear c0 c1 c2 f0 f1 f2 hcell hfz hbl hW fW zW
                go_region
                go_wp2_with fail
                generalize hV : World.setCell (World.setCell (World.setCell _ _ _) _ _) _ _ = V
                obtain ⟨fR, gR⟩ := stored3 hV FW.out (Nat.le_refl _) gW
                simp only [Exit.noGoto_ret]
                exact bodyPost_ret (v := .tuple #[.agg #[.int .u64 v, .int .i64 (4 * (z : Int) - 4 * ((k : Int) - 1 - point)), .bool wd], .string ⟨(s.data.toList.drop k).toArray⟩, .bool true]) (by simp [results, Tryz.results263, go_sem, fR]) rfl ⟨⟨_, _, _, _, _, rfl, R.out⟩, gR.drew⟩
              · rw [if_neg hp, Int.sub_zero] at R
                go_wp2_with (first | (go_at_call 293; refine (indexHex_c _ _).mono ?_; rintro e w' ⟨rfl, rfl⟩))
                generalize hW : World.setCell _ _ _ = W
                have fW : ∀ i, W.cell? ⟨w.heap.size, i, none⟩ = #[Value.int .u64 v, .int .i64 (4 * (z : Int)), .bool wd][i]? := by rw [← hW]; exact set_at hcell _ (show 1 < 3 by decide)
                have gW : Below w.heap.size w W := by rw [← hW]; exact hbl.setCell (p := ⟨w.heap.size, 1, none⟩) (Nat.le_refl _) _
                have zW : ∀ i, W.frozen? ⟨w.heap.size, i, none⟩ = false := by rw [← hW]; intro i; rw [World.frozen?_setCell]; exact hfz i
                have d0 := fW 0
                have d1 := fW 1
                have d2 := fW 2
                have e0 := zW 0
                have e1 := zW 1
                have e2 := zW 2
                simp at d0 d1 d2
                have FW := hid fW
                have hcf := cut_from s k
                clear c0 c1 c2 f0 f1 f2 hcell hfz hbl hW fW zW
                go_region
                go_wp2_with fail
                generalize hV : World.setCell (World.setCell (World.setCell _ _ _) _ _) _ _ = V
                obtain ⟨fR, gR⟩ := stored3 hV FW.out (Nat.le_refl _) gW
                simp only [Exit.noGoto_ret]
                exact bodyPost_ret (v := .tuple #[.agg #[.int .u64 v, .int .i64 (4 * (z : Int)), .bool wd], .string ⟨(s.data.toList.drop k).toArray⟩, .bool true]) (by simp [results, Tryz.results263, go_sem, fR]) rfl ⟨⟨_, _, _, _, _, rfl, R.out⟩, gR.drew⟩
          · obtain ⟨b1, b2, b3, b4⟩ := hsc.bounds
            have le := hsc.le
            by_cases hk : k = 0 ∨ point = 0 ∨ point = (k : Int) - 1
            · have R := hid (hsc.refuse hst hk)
              clear hst hsc
              rcases (show ((k : Int) == 0) = true ∨ ((k : Int) == 0) = false ∧ (point == 0) = true ∨ ((k : Int) == 0) = false ∧ (point == 0) = false ∧ (point == (k : Int) - 1) = true by
                by_cases q1 : k = 0
                · exact Or.inl (by rw [beq_iff_eq]; omega)
                · by_cases q2 : point = 0
                  · exact Or.inr (Or.inl ⟨by rw [beq_eq_false_iff_ne]; omega, by rw [beq_iff_eq]; exact q2⟩)
                  · exact Or.inr (Or.inr ⟨by rw [beq_eq_false_iff_ne]; omega, by rw [beq_eq_false_iff_ne]; exact q2, by rw [beq_iff_eq]; omega⟩)) with q | ⟨q, q2⟩ | ⟨q, q2, q3⟩
              all_goals clear hk
              · go_wp2_with (first | (go_at_call 293; refine (indexHex_c _ _).mono ?_; rintro e w' ⟨rfl, rfl⟩))
                generalize hW : World.setCell (World.setCell (World.setCell _ _ _) _ _) _ _ = W
                obtain ⟨fR, gR⟩ := stored3 hW hcell (Nat.le_refl _) hbl
                simp only [Exit.noGoto_ret]
                exact bodyPost_ret (v := .tuple #[.agg #[.int .u64 0, .int .i64 0, .bool false], .string ⟨#[]⟩, .bool false]) (by simp [results, Tryz.results263, go_sem, fR]) rfl ⟨⟨0, 0, false, [], false, rfl, Or.inl ⟨rfl, R.out⟩⟩, gR⟩
              · go_wp2_with (first | (go_at_call 293; refine (indexHex_c _ _).mono ?_; rintro e w' ⟨rfl, rfl⟩))
                generalize hW : World.setCell (World.setCell (World.setCell _ _ _) _ _) _ _ = W
                obtain ⟨fR, gR⟩ := stored3 hW hcell (Nat.le_refl _) hbl
                simp only [Exit.noGoto_ret]
                exact bodyPost_ret (v := .tuple #[.agg #[.int .u64 0, .int .i64 0, .bool false], .string ⟨#[]⟩, .bool false]) (by simp [results, Tryz.results263, go_sem, fR]) rfl ⟨⟨0, 0, false, [], false, rfl, Or.inl ⟨rfl, R.out⟩⟩, gR⟩
              · go_wp2_with (first | (go_at_call 293; refine (indexHex_c _ _).mono ?_; rintro e w' ⟨rfl, rfl⟩))
                generalize hW : World.setCell (World.setCell (World.setCell _ _ _) _ _) _ _ = W
                obtain ⟨fR, gR⟩ := stored3 hW hcell (Nat.le_refl _) hbl
                simp only [Exit.noGoto_ret]
                exact bodyPost_ret (v := .tuple #[.agg #[.int .u64 0, .int .i64 0, .bool false], .string ⟨#[]⟩, .bool false]) (by simp [results, Tryz.results263, go_sem, fR]) rfl ⟨⟨0, 0, false, [], false, rfl, Or.inl ⟨rfl, R.out⟩⟩, gR⟩
            · have R := hid (hsc.answer hs hst hk)
              have q : ((k : Int) == 0) = false := by rw [beq_eq_false_iff_ne]; omega
              have q2 : (point == 0) = false := by rw [beq_eq_false_iff_ne]; omega
              have q3 : (point == (k : Int) - 1) = false := by rw [beq_eq_false_iff_ne]; omega
              clear hst hsc hk
              by_cases hp : 0 < point
              · rw [if_pos hp] at R
                go_wp2_with (first | (go_at_call 293; refine (indexHex_c _ _).mono ?_; rintro e w' ⟨rfl, rfl⟩))
                generalize hW : World.setCell (World.setCell _ _ _) _ _ = W
                have fW : ∀ i, W.cell? ⟨w.heap.size, i, none⟩ = #[Value.int .u64 v, .int .i64 (4 * (z : Int) - 4 * ((k : Int) - 1 - point)), .bool wd][i]? := by rw [← hW]; exact set_at (set_at hcell _ (show 1 < 3 by decide)) _ (show 1 < 3 by decide)
                have gW : Below w.heap.size w W := by rw [← hW]; exact (hbl.setCell (p := ⟨w.heap.size, 1, none⟩) (Nat.le_refl _) _).setCell (p := ⟨w.heap.size, 1, none⟩) (Nat.le_refl _) _
                have zW : ∀ i, W.frozen? ⟨w.heap.size, i, none⟩ = false := by rw [← hW]; intro i; rw [World.frozen?_setCell, World.frozen?_setCell]; exact hfz i
                have d0 := fW 0
                have d1 := fW 1
                have d2 := fW 2
                have e0 := zW 0
                have e1 := zW 1
                have e2 := zW 2
                simp at d0 d1 d2
                have FW := hid fW
                have hcf := cut_from s k
                clear c0 c1 c2 f0 f1 f2 hcell hfz hbl hW fW zW
                go_region
                go_wp2_with fail
                generalize hV : World.setCell (World.setCell (World.setCell _ _ _) _ _) _ _ = V
                obtain ⟨fR, gR⟩ := stored3 hV FW.out (Nat.le_refl _) gW
                simp only [Exit.noGoto_ret]
                exact bodyPost_ret (v := .tuple #[.agg #[.int .u64 v, .int .i64 (4 * (z : Int) - 4 * ((k : Int) - 1 - point)), .bool wd], .string ⟨(s.data.toList.drop k).toArray⟩, .bool true]) (by simp [results, Tryz.results263, go_sem, fR]) rfl ⟨⟨_, _, _, _, _, rfl, R.out⟩, gR.drew⟩
              · rw [if_neg hp, Int.sub_zero] at R
                go_wp2_with (first | (go_at_call 293; refine (indexHex_c _ _).mono ?_; rintro e w' ⟨rfl, rfl⟩))
                generalize hW : World.setCell _ _ _ = W
                have fW : ∀ i, W.cell? ⟨w.heap.size, i, none⟩ = #[Value.int .u64 v, .int .i64 (4 * (z : Int)), .bool wd][i]? := by rw [← hW]; exact set_at hcell _ (show 1 < 3 by decide)
                have gW : Below w.heap.size w W := by rw [← hW]; exact hbl.setCell (p := ⟨w.heap.size, 1, none⟩) (Nat.le_refl _) _
                have zW : ∀ i, W.frozen? ⟨w.heap.size, i, none⟩ = false := by rw [← hW]; intro i; rw [World.frozen?_setCell]; exact hfz i
                have d0 := fW 0
                have d1 := fW 1
                have d2 := fW 2
                have e0 := zW 0
                have e1 := zW 1
                have e2 := zW 2
                simp at d0 d1 d2
                have FW := hid fW
                have hcf := cut_from s k
                clear c0 c1 c2 f0 f1 f2 hcell hfz hbl hW fW zW
                go_region
                go_wp2_with fail
                generalize hV : World.setCell (World.setCell (World.setCell _ _ _) _ _) _ _ = V
                obtain ⟨fR, gR⟩ := stored3 hV FW.out (Nat.le_refl _) gW
                simp only [Exit.noGoto_ret]
                exact bodyPost_ret (v := .tuple #[.agg #[.int .u64 v, .int .i64 (4 * (z : Int)), .bool wd], .string ⟨(s.data.toList.drop k).toArray⟩, .bool true]) (by simp [results, Tryz.results263, go_sem, fR]) rfl ⟨⟨_, _, _, _, _, rfl, R.out⟩, gR.drew⟩
        · have t1 : ((s[k].toNat : Int) == 46) = false := by
            rw [dot_int, beq_eq_false_iff_ne]
            intro e
            rw [e] at hx
            exact hx (by decide)
          clear hdot
          by_cases h0 : hexV s[k] = 0
          · have R := hid (hsc.nought hlt h0)
            clear hsc hx hr1 hr2
            go_wp2_with (first | (go_at_call 293; refine (indexHex_c _ _).mono ?_; rintro e w' ⟨rfl, rfl⟩))
            go_roundw
            case rel => exact ⟨k + 1, z + 1, v, point, wd, D ++ [s[k]], by go_num, by go_num, rfl, R.out, hcell, hfz, hbl⟩
            case measure => simp [intOf]; omega
          · obtain ⟨d, hd⟩ := Int.eq_ofNat_of_zero_le (show 0 ≤ hexV s[k] by omega)
            have R := hid (fun v' wd' hD => hsc.digit (v' := v') (wd' := wd') hlt (by omega) hD)
            have hp := push_c w.heap.size D v z s[k] d 0 wd wr hcell hfz hsc.dig hd (by omega) (by omega)
            have d0 : ¬ (d : Int) = 0 := by omega
            have d1 : ¬ (d : Int) = -1 := by omega
            have d16 : (d : Int) < 16 := by omega
            have HZ := hid hfz
            have HB2 := hid hbl
            clear hsc hx hr1 hr2 h0 c0 c1 c2 f0 f1 f2 hcell hfz hbl
            go_wp2_with (first | (go_at_call 293; refine (indexHex_c _ _).mono ?_; rintro e w' ⟨rfl, rfl⟩) | (go_at_call 294; refine hp.mono ?_; rintro e w' ⟨rfl, i, x, v', wd', rfl, hc', hD'⟩))
            go_roundw
            case rel => exact ⟨k + 1, 0, v', point, wd', D ++ [s[k]], by go_num, rfl, rfl, R.out v' wd' hD', hc', fun j => by rw [World.frozen?_setCell]; exact HZ.out j, HB2.out.setCell (p := ⟨w.heap.size, i, none⟩) (Nat.le_refl _) _⟩
            case measure => simp [intOf]; omega
    · have hst : stopB point (s.data.toList.drop k) := by
        intro c hc
        rw [List.drop_of_length_le (by rw [size_list]; omega)] at hc
        cases hc
      obtain ⟨b1, b2, b3, b4⟩ := hsc.bounds
      have le := hsc.le
      by_cases hk : k = 0 ∨ point = 0 ∨ point = (k : Int) - 1
      · have R := hid (hsc.refuse hst hk)
        clear hst hsc
        rcases (show ((k : Int) == 0) = true ∨ ((k : Int) == 0) = false ∧ (point == 0) = true ∨ ((k : Int) == 0) = false ∧ (point == 0) = false ∧ (point == (k : Int) - 1) = true by
          by_cases q1 : k = 0
          · exact Or.inl (by rw [beq_iff_eq]; omega)
          · by_cases q2 : point = 0
            · exact Or.inr (Or.inl ⟨by rw [beq_eq_false_iff_ne]; omega, by rw [beq_iff_eq]; exact q2⟩)
            · exact Or.inr (Or.inr ⟨by rw [beq_eq_false_iff_ne]; omega, by rw [beq_eq_false_iff_ne]; exact q2, by rw [beq_iff_eq]; omega⟩)) with q | ⟨q, q2⟩ | ⟨q, q2, q3⟩
        all_goals clear hk
        · go_wp2_with fail
          generalize hW : World.setCell (World.setCell (World.setCell _ _ _) _ _) _ _ = W
          obtain ⟨fR, gR⟩ := stored3 hW hcell (Nat.le_refl _) hbl
          simp only [Exit.noGoto_ret]
          exact bodyPost_ret (v := .tuple #[.agg #[.int .u64 0, .int .i64 0, .bool false], .string ⟨#[]⟩, .bool false]) (by simp [results, Tryz.results263, go_sem, fR]) rfl ⟨⟨0, 0, false, [], false, rfl, Or.inl ⟨rfl, R.out⟩⟩, gR⟩
        · go_wp2_with fail
          generalize hW : World.setCell (World.setCell (World.setCell _ _ _) _ _) _ _ = W
          obtain ⟨fR, gR⟩ := stored3 hW hcell (Nat.le_refl _) hbl
          simp only [Exit.noGoto_ret]
          exact bodyPost_ret (v := .tuple #[.agg #[.int .u64 0, .int .i64 0, .bool false], .string ⟨#[]⟩, .bool false]) (by simp [results, Tryz.results263, go_sem, fR]) rfl ⟨⟨0, 0, false, [], false, rfl, Or.inl ⟨rfl, R.out⟩⟩, gR⟩
        · go_wp2_with fail
          generalize hW : World.setCell (World.setCell (World.setCell _ _ _) _ _) _ _ = W
          obtain ⟨fR, gR⟩ := stored3 hW hcell (Nat.le_refl _) hbl
          simp only [Exit.noGoto_ret]
          exact bodyPost_ret (v := .tuple #[.agg #[.int .u64 0, .int .i64 0, .bool false], .string ⟨#[]⟩, .bool false]) (by simp [results, Tryz.results263, go_sem, fR]) rfl ⟨⟨0, 0, false, [], false, rfl, Or.inl ⟨rfl, R.out⟩⟩, gR⟩
      · have R := hid (hsc.answer hs hst hk)
        have q : ((k : Int) == 0) = false := by rw [beq_eq_false_iff_ne]; omega
        have q2 : (point == 0) = false := by rw [beq_eq_false_iff_ne]; omega
        have q3 : (point == (k : Int) - 1) = false := by rw [beq_eq_false_iff_ne]; omega
        clear hst hsc hk
        by_cases hp : 0 < point
        · rw [if_pos hp] at R
          go_wp2_with fail
          generalize hW : World.setCell (World.setCell _ _ _) _ _ = W
          have fW : ∀ i, W.cell? ⟨w.heap.size, i, none⟩ = #[Value.int .u64 v, .int .i64 (4 * (z : Int) - 4 * ((k : Int) - 1 - point)), .bool wd][i]? := by rw [← hW]; exact set_at (set_at hcell _ (show 1 < 3 by decide)) _ (show 1 < 3 by decide)
          have gW : Below w.heap.size w W := by rw [← hW]; exact (hbl.setCell (p := ⟨w.heap.size, 1, none⟩) (Nat.le_refl _) _).setCell (p := ⟨w.heap.size, 1, none⟩) (Nat.le_refl _) _
          have zW : ∀ i, W.frozen? ⟨w.heap.size, i, none⟩ = false := by rw [← hW]; intro i; rw [World.frozen?_setCell, World.frozen?_setCell]; exact hfz i
          have d0 := fW 0
          have d1 := fW 1
          have d2 := fW 2
          have e0 := zW 0
          have e1 := zW 1
          have e2 := zW 2
          simp at d0 d1 d2
          have FW := hid fW
          have hcf := cut_from s k
          clear c0 c1 c2 f0 f1 f2 hcell hfz hbl hW fW zW
          go_region
          go_wp2_with fail
          generalize hV : World.setCell (World.setCell (World.setCell _ _ _) _ _) _ _ = V
          obtain ⟨fR, gR⟩ := stored3 hV FW.out (Nat.le_refl _) gW
          simp only [Exit.noGoto_ret]
          exact bodyPost_ret (v := .tuple #[.agg #[.int .u64 v, .int .i64 (4 * (z : Int) - 4 * ((k : Int) - 1 - point)), .bool wd], .string ⟨(s.data.toList.drop k).toArray⟩, .bool true]) (by simp [results, Tryz.results263, go_sem, fR]) rfl ⟨⟨_, _, _, _, _, rfl, R.out⟩, gR.drew⟩
        · rw [if_neg hp, Int.sub_zero] at R
          go_wp2_with fail
          generalize hW : World.setCell _ _ _ = W
          have fW : ∀ i, W.cell? ⟨w.heap.size, i, none⟩ = #[Value.int .u64 v, .int .i64 (4 * (z : Int)), .bool wd][i]? := by rw [← hW]; exact set_at hcell _ (show 1 < 3 by decide)
          have gW : Below w.heap.size w W := by rw [← hW]; exact hbl.setCell (p := ⟨w.heap.size, 1, none⟩) (Nat.le_refl _) _
          have zW : ∀ i, W.frozen? ⟨w.heap.size, i, none⟩ = false := by rw [← hW]; intro i; rw [World.frozen?_setCell]; exact hfz i
          have d0 := fW 0
          have d1 := fW 1
          have d2 := fW 2
          have e0 := zW 0
          have e1 := zW 1
          have e2 := zW 2
          simp at d0 d1 d2
          have FW := hid fW
          have hcf := cut_from s k
          clear c0 c1 c2 f0 f1 f2 hcell hfz hbl hW fW zW
          go_region
          go_wp2_with fail
          generalize hV : World.setCell (World.setCell (World.setCell _ _ _) _ _) _ _ = V
          obtain ⟨fR, gR⟩ := stored3 hV FW.out (Nat.le_refl _) gW
          simp only [Exit.noGoto_ret]
          exact bodyPost_ret (v := .tuple #[.agg #[.int .u64 v, .int .i64 (4 * (z : Int)), .bool wd], .string ⟨(s.data.toList.drop k).toArray⟩, .bool true]) (by simp [results, Tryz.results263, go_sem, fR]) rfl ⟨⟨_, _, _, _, _, rfl, R.out⟩, gR.drew⟩
end Go.Proofs.YtgkakflnmpoadaaGreatDoor.W.Nu.Q
/- Contracts of package numtext: a double's parts, its fraction and its power in digits. -/
namespace Go.Proofs.YtgkakflnmpoadaaGreatDoor.W.Nu.Q
open Go.ChangeShapes Go.WideShapes Go.RowKit

/-! ### masks and shifts -/
theorem and52 (n : Int) (h0 : 0 ≤ n) (h1 : n < 18446744073709551616) : bits .and .u64 n 4503599627370495 = n % 4503599627370496 := by
  rw [u64_and n _ h0 h1 (by decide) (by decide)]
  have e : (4503599627370495 : Int).toNat = 2 ^ 52 - 1 := by decide
  rw [e, Nat.and_two_pow_sub_one_eq_mod]
  omega
theorem andNot63 (n : Int) (h0 : 0 ≤ n) (h1 : n < 18446744073709551616) : bits .andNot .u64 n 9223372036854775808 = n % 9223372036854775808 := by
  rw [u64_andNot n 9223372036854775808 h0 h1 (by decide) (by decide)]
  have e : (18446744073709551615 - (9223372036854775808 : Int).toNat) = 2 ^ 63 - 1 := by decide
  rw [e, Nat.and_two_pow_sub_one_eq_mod]
  omega
theorem and_shift (x m i : Nat) : x &&& (m * 2 ^ i) = ((x / 2 ^ i) &&& m) * 2 ^ i := by
  apply Nat.eq_of_testBit_eq
  intro j
  rw [Nat.testBit_and, Nat.testBit_mul_two_pow, Nat.testBit_mul_two_pow, Nat.testBit_and, Nat.testBit_div_two_pow]
  by_cases h : i ≤ j
  · have e' : j - i + i = j := by omega
    simp [h, e']
  · simp [h]
theorem and63 (n : Int) (h0 : 0 ≤ n) (h1 : n < 18446744073709551616) : (bits .and .u64 n 9223372036854775808 != 0) = decide (9223372036854775808 ≤ n) := by
  rw [u64_and n _ h0 h1 (by decide) (by decide)]
  have e : (9223372036854775808 : Int).toNat = (2 ^ 1 - 1) * 2 ^ 63 := by decide
  rw [e, and_shift, Nat.and_two_pow_sub_one_eq_mod]
  rw [Bool.eq_iff_iff]
  simp only [bne_iff_ne, ne_eq, decide_eq_true_eq]
  omega
theorem shl_log (a : Int) (h0 : 0 < a) (h1 : a < 4503599627370496) :
    a.toNat.log2 ≤ 51 ∧ 4503599627370496 ≤ a * 2 ^ (52 - a.toNat.log2) ∧ a * 2 ^ (52 - a.toNat.log2) < 9007199254740992 := by
  obtain ⟨n, rfl⟩ := Int.eq_ofNat_of_zero_le (Int.le_of_lt h0)
  rw [Int.toNat_natCast]
  have hn : n ≠ 0 := by omega
  obtain ⟨l1, l2⟩ := high_le hn
  have hl : n.log2 ≤ 51 := by
    apply Nat.le_of_not_lt
    intro hh
    have : 2 ^ 52 ≤ 2 ^ n.log2 := Nat.pow_le_pow_right (by decide) hh
    have e : (2 : Nat) ^ 52 = 4503599627370496 := by decide
    omega
  refine ⟨hl, ?_⟩
  have a1 : 2 ^ n.log2 * 2 ^ (52 - n.log2) ≤ n * 2 ^ (52 - n.log2) := Nat.mul_le_mul_right _ l1
  have a2 : n * 2 ^ (52 - n.log2) < 2 ^ (n.log2 + 1) * 2 ^ (52 - n.log2) := Nat.mul_lt_mul_of_pos_right l2 (Nat.two_pow_pos _)
  rw [← Nat.pow_add] at a1 a2
  have e1 : n.log2 + (52 - n.log2) = 52 := by omega
  have e2 : n.log2 + 1 + (52 - n.log2) = 53 := by omega
  rw [e1] at a1
  rw [e2] at a2
  have e : ((n : Int) * 2 ^ (52 - n.log2)) = ((n * 2 ^ (52 - n.log2) : Nat) : Int) := by simp
  have e5 : (2 : Nat) ^ 52 = 4503599627370496 := by decide
  have e6 : (2 : Nat) ^ 53 = 9007199254740992 := by decide
  rw [e]
  omega
theorem frac_small (a : Int) (h0 : 0 < a) (h1 : a < 4503599627370496) : (a * 2 ^ (52 - a.toNat.log2)) % 4503599627370496 = (fracOf a.toNat : Nat) := by
  obtain ⟨s1, s2, s3⟩ := shl_log a h0 h1
  unfold fracOf
  rw [if_pos (by omega)]
  have e : (a * 2 ^ (52 - a.toNat.log2)) = ((a.toNat * 2 ^ (52 - a.toNat.log2) : Nat) : Int) := by
    have : (a.toNat : Int) = a := by omega
    simp [this]
  rw [e] at s2 s3 ⊢
  omega
set_option maxHeartbeats 400000 in
theorem scaled_c (a : Int) (h0 : 0 < a) (h1 : a < 9218868437227405312) (w : World) :
    Calls Tryz.prog 121 #[.int .u64 a] w fun e w' => e = .returned (.tuple #[.int .u64 (fracOf a.toNat : Nat), .int .i64 (powOf a.toNat)]) ∧ w' = w := by
  by_cases hs : a < 4503599627370496
  · obtain ⟨s1, s2, s3⟩ := shl_log a h0 hs
    have F := hid (frac_small a h0 hs)
    have P := hid (show powOf a.toNat = (a.toNat.log2 : Int) - 1074 by unfold powOf; rw [if_pos (by omega)])
    generalize hg : a.toNat.log2 = g at *
    generalize hb : a * 2 ^ (52 - g) = b at *
    have m := and52 b (by omega) (by omega)
    have e1 : (52 - (g : Int)).toNat = 52 - g := by omega
    have e2 : IntKind.u64.wrap b = b := by rw [IntKind.wrap_u64]; omega
    have e3 : IntKind.i64.wrap (53 - ((g : Int) + 1)) = 52 - (g : Int) := by rw [IntKind.wrap_i64]; omega
    go_enter Tryz.func121, Tryz.ntmps121
    go_wp2_with (go_at_call 191; refine (len64_c _ h0 (by omega) _).mono ?_; rintro e w' ⟨rfl, rfl⟩)
    go_ret2
    exact ⟨ret_ii (by rw [← F.out]) (by rw [P.out]; go_num), rfl⟩
  · have F := hid (show (fracOf a.toNat : Nat) = a % 4503599627370496 by unfold fracOf; rw [if_neg (by omega)]; omega)
    have P := hid (show powOf a.toNat = a / 4503599627370496 - 1023 by unfold powOf; rw [if_neg (by omega)]; omega)
    have m := and52 a (by omega) (by omega)
    go_enter Tryz.func121, Tryz.ntmps121
    go_wp2_with fail
    go_ret2
    exact ⟨ret_ii (by rw [F.out]) (by rw [P.out]), rfl⟩

/-! ### bytes in a row of one's own -/
theorem Tryz.info8 : (Tryz.prog.info? 5).map (fun i => (i.zero, i.size, i.bytes)) = some (some (.int .u8 0), 1, 1) := by kernel_rfl
def bytesV (l : List UInt8) : List Value := l.map fun b => Value.int .u8 (b.toNat : Int)
theorem bytesV_snoc (l : List UInt8) (c : UInt8) (n : Int) (h : (c.toNat : Int) = n) : bytesV (l ++ [c]) = bytesV l ++ [.int .u8 n] := by
  unfold bytesV
  rw [List.map_append, List.map_cons, List.map_nil, h]
theorem conv_own {w : World} {base : Nat} {v : Value} {n : Nat} (l : List UInt8) (h : w.ownsRow base 5 1 v n (bytesV l)) :
    (convert 62 9 v).run Tryz.prog w = .ok (.string ⟨l.toArray⟩) w := by
  have hn : n = l.length := by
    have := h.1
    simp [bytesV] at this
    omega
  subst hn
  have h2 := h.2
  rcases h2 with ⟨rfl, hz⟩ | ⟨g, cap, cur, rfl, _⟩
  · have : l = [] := List.eq_nil_of_length_eq_zero hz
    subst this
    exact run_convert_bytes_nil w 62 5 Tryz.underlying62 Tryz.underlying5 0 0 9 Tryz.underlying9
  · refine run_convert_bytes_back w 62 9 5 ⟨g, 0, none⟩ cap l Tryz.underlying62 Tryz.underlying5 Tryz.underlying9 ?_
    intro j hj
    exact h.cells rfl j _ (by simp [bytesV, List.getElem?_eq_getElem hj])
def lenOf : Value → Nat | .slice _ n _ => n | _ => 0
theorem owns_len {w : World} {base : Nat} {e : TypeId} {v : Value} {n : Nat} {xs : List Value} (h : w.ownsRow base e 1 v n xs) : lenOf v = n := by
  rcases h.2 with ⟨rfl, hz⟩ | ⟨g, cap, cur, rfl, _⟩
  · exact hz.symm
  · rfl
/-! ### a fraction's digits -/
theorem fracL_step (k f : Nat) (h : f ≠ 0) : fracL (k + 1) f = hexd (f / 281474976710656) :: fracL k (f % 281474976710656 * 16) := by rw [fracL, if_neg h]
/-- what is left to print -/
def Left (F : Nat) (pre : List UInt8) (f : Nat) : Prop := ∃ k, k ≤ 13 ∧ pre.length = 13 - k ∧ f < 4503599627370496 ∧ f % 2 ^ (52 - 4 * k) = 0 ∧ fracL 13 F = pre ++ fracL k f
theorem Left.start (F : Nat) (h : F < 4503599627370496) : Left F [] F := ⟨13, Nat.le_refl _, rfl, h, by
  have e0 : (2 : Nat) ^ (52 - 4 * 13) = 1 := by decide
  rw [e0]; omega, rfl⟩
theorem Left.lt {F f : Nat} {pre : List UInt8} (h : Left F pre f) : f < 4503599627370496 ∧ pre.length ≤ 13 := by
  obtain ⟨k, h1, h2, h3, h4, h5⟩ := h
  exact ⟨h3, by omega⟩
theorem Left.step {F f : Nat} {pre : List UInt8} (h : Left F pre f) (hf : f ≠ 0) : Left F (pre ++ [hexd (f / 281474976710656)]) (f % 281474976710656 * 16) ∧ pre.length < 13 := by
  obtain ⟨k, h1, h2, h3, h4, h5⟩ := h
  cases k with
  | zero =>
    have e : (2 : Nat) ^ (52 - 4 * 0) = 4503599627370496 := by decide
    rw [e] at h4; omega
  | succ k =>
    refine ⟨⟨k, by omega, by simp; omega, by omega, ?_, by rw [h5, fracL_step k f hf]; simp⟩, by omega⟩
    have e1 : (2 : Nat) ^ (52 - 4 * k) = 2 ^ (52 - 4 * (k + 1)) * 16 := by
      have : (16 : Nat) = 2 ^ 4 := by decide
      rw [this, ← Nat.pow_add]; congr 1; omega
    rw [e1, Nat.mul_mod_mul_right]
    have e2 : f % 281474976710656 % 2 ^ (52 - 4 * (k + 1)) = 0 := by
      have : (281474976710656 : Nat) = 2 ^ (52 - 4 * (k + 1)) * 2 ^ (4 * k) := by
        rw [← Nat.pow_add, show 52 - 4 * (k + 1) + 4 * k = 48 by omega]
      rw [this, Nat.mod_mul_right_mod]; exact h4
    rw [e2, Nat.zero_mul]
theorem Left.done {F : Nat} {pre : List UInt8} (h : Left F pre 0) : fracL 13 F = pre := by
  obtain ⟨k, h1, h2, h3, h4, h5⟩ := h
  have : fracL k 0 = [] := by cases k <;> rfl
  rw [h5, this, List.append_nil]
theorem hex_index (d : Nat) (h : d < 16) : (⟨#[48, 49, 50, 51, 52, 53, 54, 55, 56, 57, 97, 98, 99, 100, 101, 102]⟩ : ByteArray)[d]'h = hexd d := by
  have all : ∀ n : Fin 16, (⟨#[48, 49, 50, 51, 52, 53, 54, 55, 56, 57, 97, 98, 99, 100, 101, 102]⟩ : ByteArray)[n.val]'n.isLt = hexd n.val := by decide
  exact all ⟨d, h⟩
theorem frac_next (f : Int) (h0 : 0 ≤ f) (h1 : f < 4503599627370496) : bits .and .u64 (f * 16) 4503599627370495 = f % 281474976710656 * 16 := by
  rw [and52 _ (by omega) (by omega)]
  omega
def fracTx (f : Nat) : List UInt8 := if f = 0 then [] else 46 :: fracL 13 f
set_option maxHeartbeats 400000 in
set_option maxRecDepth 100000 in
theorem fractionText_c (F : Nat) (hF : F < 4503599627370496) (w : World) :
    Calls Tryz.prog 122 #[.int .u64 F] w fun e w' => e = .returned (.string ⟨(fracTx F).toArray⟩) ∧ Below w.heap.size w w' := by
  by_cases h0 : F = 0
  · subst h0
    go_enter Tryz.func122, Tryz.ntmps122
    go_wp2_with fail
    go_ret
    exact ⟨rfl, Below.refl _ _⟩
  · have hT := hid (show fracTx F = 46 :: fracL 13 F by unfold fracTx; rw [if_neg h0])
    obtain ⟨i0, hi, hz0, hz1, hz2⟩ := info_parts Tryz.info8
    have hF0 : ((F : Int) == 0) = false := by rw [beq_eq_false_iff_ne]; omega
    go_enter Tryz.func122, Tryz.ntmps122
    go_wp2_with fail
    go_loopw [0, 3] (fun x v wr => ∃ (f : Nat) (pre : List UInt8), x = .int .u64 f ∧ Left F pre f ∧ wr.ownsRow w.heap.size 5 1 v (pre.length + 1) (bytesV (46 :: pre)) ∧ Below w.heap.size w wr) (fun _ v _ => 15 - lenOf v)
    case atStart => exact ⟨F, [], rfl, Left.start F hF, World.ownsRow_lit w #[.int .u8 46] 1 (Nat.le_refl _) (by unfold maxLen; omega) rfl, (Below.refl _ _).alloc (Nat.le_refl _) _⟩
    case round =>
      obtain ⟨f, pre, rfl, hl, hown, hnx⟩ := hrel
      obtain ⟨l1, l2⟩ := hl.lt
      have hln := owns_len hown
      by_cases hf : f = 0
      · subst hf
        have hd := hl.done
        have kc := conv_own _ hown
        have HK := hid hd
        clear hd hown hl hln
        go_wp2_with fail
        go_ret
        exact ⟨ret_s (by rw [hT.out, HK.out]), hnx⟩
      · obtain ⟨hstep, hpl⟩ := hl.step hf
        have hn := frac_next f (by omega) (by omega)
        have hi0 : (f : Int) / 281474976710656 = ((f / 281474976710656 : Nat) : Int) := by omega
        have hd16 : f / 281474976710656 < 16 := by omega
        have hrr : (f : Int) % 281474976710656 * 16 = ((f % 281474976710656 * 16 : Nat) : Int) := by omega
        rw [hrr] at hn
        have hf' : ¬ (f : Int) = 0 := by omega
        have l1' : (f : Int) < 4503599627370496 := by omega
        have f0 : (0 : Int) ≤ (f : Int) := by omega
        generalize f / 281474976710656 = d at *
        have hx := hex_index d hd16
        generalize hexd d = c at *
        generalize f % 281474976710656 * 16 = r at *
        generalize (f : Int) = F' at *
        clear hrr hf l1
        have HL := hid hstep
        have HN := hid hln
        clear hstep hln hl
        go_wp2_with (first | (at_builtin; refine wpList_append_own _ rfl _ _ 62 rfl w.heap.size 5 i0 (.int .u8 0) 1 1 Tryz.underlying62 hi hz0 hz1 hz2 rfl (by decide) _ _ _ rfl (hown.alloc _) ⟨_, 0, none⟩ 1 1 [.int .u8 c.toNat] rfl rfl ?c1 ?c2 ?c3 ?c4 ?c5 ?_))
        case c1 =>
          intro j u hj
          match j, hj with
          | 0, hj => simp at hj; subst hj; simp [Addr.add]
        case c2 => intro u hu; simp at hu; subst hu; rfl
        case c3 => unfold maxLen; omega
        case c4 => omega
        case c5 => have := hnx.size; simp; omega
        · intro v' w1 hown' hgrow _
          have R1 := hid (bytesV_snoc (46 :: pre) c c.toNat rfl)
          have R2 : Below w.heap.size w w1 := (hnx.alloc (by have := hnx.size; omega) _).grown hgrow (by have := hnx.size; simp; omega) (fun g hg => (hown.lt g hg).1)
          have R3 := owns_len hown'
          have RN := hid R3
          clear hgrow hown hnx R3
          go_wp2
          go_roundw
          case rel => exact ⟨r, pre ++ [c], by go_num, HL.out, by have := R1.out; rw [List.cons_append] at this; rw [this, List.length_append]; exact hown', R2⟩
          case measure =>
            show 15 - lenOf v' < 15 - lenOf u3
            rw [HN.out, RN.out]; omega
end Go.Proofs.YtgkakflnmpoadaaGreatDoor.W.Nu.Q
/- Contract of package numtext: which pattern a value and a power are. -/
namespace Go.Proofs.YtgkakflnmpoadaaGreatDoor.W.Nu.Q
open Go.ChangeShapes Go.WideShapes Go.RowKit

def patV (o : Option Int) : Value := .tuple #[.int .u64 (o.getD 0), .bool o.isSome]
theorem odd_lt (n : Nat) (h : n ≠ 0) : oddN n ≤ n ∧ oddN n ≠ 0 := by
  obtain ⟨o1, o2⟩ := odd_twos n h
  have p := Nat.two_pow_pos (twos n)
  have : oddN n * 1 ≤ oddN n * 2 ^ twos n := Nat.mul_le_mul_left _ p
  omega
theorem shr_twos (n : Nat) (h : n ≠ 0) : n / 2 ^ twos n = oddN n := by
  obtain ⟨o1, o2⟩ := odd_twos n h
  have e : n / 2 ^ twos n = oddN n * 2 ^ twos n / 2 ^ twos n := by rw [← o2]
  rw [e]
  exact Nat.mul_div_cancel _ (Nat.two_pow_pos _)
theorem twos_le (n : Nat) (h : n ≠ 0) (h1 : n < 18446744073709551616) : twos n ≤ 63 ∧ n.log2 ≤ 63 := by
  have e := log2_odd n h
  have l : n.log2 ≤ 63 := by
    apply Nat.le_of_not_lt
    intro hh
    have : 2 ^ 64 ≤ 2 ^ n.log2 := Nat.pow_le_pow_right (by decide) hh
    have := (high_le h).1
    omega
  omega
set_option maxHeartbeats 400000 in
theorem numPattern_wide (v p : Int) (w : World) :
    Calls Tryz.prog 221 #[.agg #[.int .u64 v, .int .i64 p, .bool true]] w fun e w' => e = .returned (patV none) ∧ Below w.heap.size w w' := by
  go_enter Tryz.func221, Tryz.ntmps221
  go_wp2_with fail
  go_ret2
  exact ⟨rfl, (Below.refl _ _).alloc (Nat.le_refl _) _⟩
set_option maxHeartbeats 400000 in
theorem numPattern_zero (p : Int) (w : World) :
    Calls Tryz.prog 221 #[.agg #[.int .u64 0, .int .i64 p, .bool false]] w fun e w' => e = .returned (patV (some 0)) ∧ Below w.heap.size w w' := by
  go_enter Tryz.func221, Tryz.ntmps221
  go_wp2_with fail
  go_ret2
  exact ⟨rfl, (Below.refl _ _).alloc (Nat.le_refl _) _⟩
set_option maxHeartbeats 400000 in
theorem numPattern_num (v p tw od lg : Int) (ans : Option Int) (w : World) (ht : Tabs w) (v0 : ¬ v = 0) (p0 : -200000 ≤ p) (p1 : p ≤ 200000) (t0 : 0 ≤ tw) (t1 : tw ≤ 63) (l0 : 0 ≤ lg) (l1 : lg ≤ 63)
    (ct : ∀ w, Tabs w → Calls Tryz.prog 265 #[.int .u64 v] w fun e w' => e = .returned (.int .i64 tw) ∧ w' = w)
    (cl : ∀ w, Calls Tryz.prog 191 #[.int .u64 od] w fun e w' => e = .returned (.int .i64 (lg + 1)) ∧ w' = w)
    (hod : v / 2 ^ tw.toNat = od) (lo hi : Int) (hlo : p + tw = lo) (hhi : lo + (lg + 1) - 1 = hi)
    (hans : ((53 < lg + 1 ∨ ¬ 53 < lg + 1 ∧ lo < -1074 ∨ ¬ 53 < lg + 1 ∧ ¬ lo < -1074 ∧ 1023 < hi) ∧ ans = none) ∨
      (¬ 53 < lg + 1 ∧ ¬ lo < -1074 ∧ ¬ 1023 < hi ∧ hi < -1022 ∧ ∃ a, ans = some a ∧ IntKind.u64.wrap (od * 2 ^ (lo + 1074).toNat) = a) ∨
      (¬ 53 < lg + 1 ∧ ¬ lo < -1074 ∧ ¬ 1023 < hi ∧ ¬ hi < -1022 ∧ ∃ a b c d, ans = some a ∧ IntKind.u64.wrap (od * 2 ^ (53 - (lg + 1)).toNat) = b ∧ bits .and .u64 b 4503599627370495 = c ∧ IntKind.u64.wrap ((hi + 1023) * 4503599627370496) = d ∧ bits .or .u64 d c = a)) :
    Calls Tryz.prog 221 #[.agg #[.int .u64 v, .int .i64 p, .bool false]] w fun e w' => e = .returned (patV ans) ∧ Below w.heap.size w w' := by
  have htW : Tabs (w.alloc (Obj.cells #[Value.int .u64 v, .int .i64 p, .bool false] 223)) := ht.below ((Below.refl _ _).alloc (Nat.le_refl _) _)
  go_enter Tryz.func221, Tryz.ntmps221
  go_wp2_with (first | (go_at_call 265; refine (ct _ htW).mono ?_; rintro e w' ⟨rfl, rfl⟩))
  go_quiet (fail)
  rcases hans with ⟨h | ⟨h, h2⟩ | ⟨h, h2, h3⟩, rfl⟩ | ⟨h, h2, h3, h4, a, rfl, ha⟩ | ⟨h, h2, h3, h4, a, b, c, d, rfl, hb, hc, hd, ha⟩
  · go_wp2_with (first | (go_at_call 191; refine (cl _).mono ?_; rintro e w' ⟨rfl, rfl⟩))
    go_ret2
    exact ⟨rfl, Go.below_drewN ((Below.refl _ _).alloc (Nat.le_refl _) _) _⟩
  · go_wp2_with (first | (go_at_call 191; refine (cl _).mono ?_; rintro e w' ⟨rfl, rfl⟩))
    go_ret2
    exact ⟨rfl, Go.below_drewN ((Below.refl _ _).alloc (Nat.le_refl _) _) _⟩
  · go_wp2_with (first | (go_at_call 191; refine (cl _).mono ?_; rintro e w' ⟨rfl, rfl⟩))
    go_ret2
    exact ⟨rfl, Go.below_drewN ((Below.refl _ _).alloc (Nat.le_refl _) _) _⟩
  · go_wp2_with (first | (go_at_call 191; refine (cl _).mono ?_; rintro e w' ⟨rfl, rfl⟩))
    go_ret2
    exact ⟨rfl, Go.below_drewN ((Below.refl _ _).alloc (Nat.le_refl _) _) _⟩
  · go_wp2_with (first | (go_at_call 191; refine (cl _).mono ?_; rintro e w' ⟨rfl, rfl⟩))
    go_ret2
    exact ⟨rfl, Go.below_drewN ((Below.refl _ _).alloc (Nat.le_refl _) _) _⟩
theorem numPattern_c (v p : Int) (wd : Bool) (v0 : 0 ≤ v) (v1 : v < 18446744073709551616) (p0 : -200000 ≤ p) (p1 : p ≤ 200000) (w : World) (ht : Tabs w) :
    Calls Tryz.prog 221 #[.agg #[.int .u64 v, .int .i64 p, .bool wd]] w fun e w' => e = .returned (patV (numP v.toNat wd p)) ∧ Below w.heap.size w w' := by
  cases wd with
  | true => exact numPattern_wide v p w
  | false =>
    obtain ⟨n, rfl⟩ := Int.eq_ofNat_of_zero_le v0
    rw [Int.toNat_natCast]
    have e : numP n false p = exactP n p := rfl
    rw [e]
    by_cases hn : n = 0
    · subst hn
      have e0 : exactP 0 p = some 0 := by unfold exactP; rw [if_pos rfl]
      rw [e0]
      exact numPattern_zero p w
    · obtain ⟨o1, o2⟩ := odd_twos n hn
      obtain ⟨o3, o4⟩ := odd_lt n hn
      obtain ⟨t1, t2⟩ := twos_le n hn (by omega)
      have lo := log2_odd n hn
      obtain ⟨l1, l2⟩ := high_le o4
      refine numPattern_num n p (twos n) (oddN n) (oddN n).log2 _ w ht (by omega) p0 p1 (by omega) (by omega) (by omega) (by omega) (fun w h => ctz_c n (by omega) v1 w h) (fun w => len64_c (oddN n) (by omega) (by omega) w) ?_ _ _ rfl rfl ?_
      · rw [Int.toNat_natCast]
        have : (n : Int) / 2 ^ twos n = ((n / 2 ^ twos n : Nat) : Int) := by simp
        rw [this, shr_twos n hn]
      · unfold exactP
        rw [if_neg hn]
        by_cases c1 : 52 < (oddN n).log2 ∨ p + twos n < -1074 ∨ 1023 < p + twos n + (oddN n).log2
        · rw [if_pos c1]
          refine Or.inl ⟨?_, rfl⟩
          by_cases g1 : 53 < ((oddN n).log2 : Int) + 1
          · exact Or.inl g1
          · by_cases g2 : p + twos n < -1074
            · exact Or.inr (Or.inl ⟨g1, g2⟩)
            · exact Or.inr (Or.inr ⟨g1, g2, by omega⟩)
        · rw [if_neg c1]
          have k1 : (oddN n).log2 ≤ 52 := by omega
          have k2 : -1074 ≤ p + twos n := by omega
          have k3 : p + twos n + (oddN n).log2 ≤ 1023 := by omega
          by_cases c2 : p + twos n + (oddN n).log2 < -1022
          · rw [if_pos c2]
            refine Or.inr (Or.inl ⟨by omega, by omega, by omega, by omega, _, rfl, ?_⟩)
            have e1 : (oddN n : Int) * 2 ^ (p + twos n + 1074).toNat = ((oddN n * 2 ^ (p + twos n + 1074).toNat : Nat) : Int) := by simp
            have b1 : oddN n * 2 ^ (p + twos n + 1074).toNat < 2 ^ ((oddN n).log2 + 1) * 2 ^ (p + twos n + 1074).toNat := Nat.mul_lt_mul_of_pos_right l2 (Nat.two_pow_pos _)
            rw [← Nat.pow_add] at b1
            have b2 : 2 ^ ((oddN n).log2 + 1 + (p + twos n + 1074).toNat) ≤ 2 ^ 52 := Nat.pow_le_pow_right (by decide) (by omega)
            have b3 : (2 : Nat) ^ 52 = 4503599627370496 := by decide
            rw [e1, IntKind.wrap_u64]
            omega
          · rw [if_neg c2]
            have sh : (53 - (((oddN n).log2 : Int) + 1)).toNat = 52 - (oddN n).log2 := by omega
            have e1 : (oddN n : Int) * 2 ^ (52 - (oddN n).log2) = ((oddN n * 2 ^ (52 - (oddN n).log2) : Nat) : Int) := by simp
            have a1 : 2 ^ (oddN n).log2 * 2 ^ (52 - (oddN n).log2) ≤ oddN n * 2 ^ (52 - (oddN n).log2) := Nat.mul_le_mul_right _ l1
            have a2 : oddN n * 2 ^ (52 - (oddN n).log2) < 2 ^ ((oddN n).log2 + 1) * 2 ^ (52 - (oddN n).log2) := Nat.mul_lt_mul_of_pos_right l2 (Nat.two_pow_pos _)
            rw [← Nat.pow_add] at a1 a2
            rw [show (oddN n).log2 + (52 - (oddN n).log2) = 52 by omega] at a1
            rw [show (oddN n).log2 + 1 + (52 - (oddN n).log2) = 53 by omega] at a2
            have e5 : (2 : Nat) ^ 52 = 4503599627370496 := by decide
            have e6 : (2 : Nat) ^ 53 = 9007199254740992 := by decide
            rw [e5] at a1
            rw [e6] at a2
            refine Or.inr (Or.inr ⟨by omega, by omega, by omega, by omega, _, ((oddN n * 2 ^ (52 - (oddN n).log2) : Nat) : Int), ((oddN n * 2 ^ (52 - (oddN n).log2) - 4503599627370496 : Nat) : Int), (((p + twos n + (oddN n).log2 + 1023).toNat * 4503599627370496 : Nat) : Int), rfl, ?_, ?_, ?_, ?_⟩)
            · rw [sh, e1, IntKind.wrap_u64]
              omega
            · rw [and52 _ (by omega) (by omega)]
              omega
            · rw [IntKind.wrap_u64]
              omega
            · rw [u64_or_nat _ _ (by omega) (by omega), nat_join 52 _ _ (by rw [e5]; exact Nat.mul_mod_left _ _) (by rw [e5]; omega)]
end Go.Proofs.YtgkakflnmpoadaaGreatDoor.W.Nu.Q
/- Contracts of package numtext: what is printed of a double, and of a number. -/
namespace Go.Proofs.YtgkakflnmpoadaaGreatDoor.W.Nu.Q
open Go.ChangeShapes Go.WideShapes Go.RowKit

def powTx (p : Int) : List UInt8 := (if p < 0 then [45] else [43]) ++ decL p.natAbs
theorem powTx_neg (p : Int) (h : p < 0) : powTx p = intT p := by unfold powTx intT; rw [if_pos h, if_pos h]; rfl
theorem powTx_pos (p : Int) (h : ¬ p < 0) : powTx p = 43 :: intT p := by unfold powTx intT; rw [if_neg h, if_neg h]; rfl
theorem powTx_len (p : Int) (h0 : -2000 ≤ p) (h1 : p ≤ 2000) : (powTx p).length ≤ 5 := by
  have h := decL_length p.natAbs 4 (by omega) (by omega)
  unfold powTx
  rw [List.length_append]
  split <;> simp <;> omega
theorem fracTx_len (f : Nat) (h1 : f < 4503599627370496) : (fracTx f).length ≤ 14 := by
  obtain ⟨g1, -⟩ := one_frac f h1
  unfold fracTx
  split
  · simp
  · simp only [List.length_cons]; omega
theorem powerText_c (p : Int) (h0 : -2000 ≤ p) (h1 : p ≤ 2000) (w : World) (ht : Tabs w) :
    Calls Tryz.prog 123 #[.int .i64 p] w fun e w' => e = .returned (.string ⟨(powTx p).toArray⟩) ∧ Below w.heap.size w w' := by
  by_cases hs : p < 0
  · have H := hid (powTx_neg p hs)
    go_enter Tryz.func123, Tryz.ntmps123
    go_wp2_with (go_at_call 192; refine (itoa_c p (by omega) (by omega) _ ht).mono ?_; rintro e w' ⟨rfl, hb⟩)
    go_ret
    exact ⟨ret_s H.out.symm, hb⟩
  · have H := hid (powTx_pos p hs)
    have hl := int_len p (by omega) (by omega)
    have hc := fun w => run_string_add_lists (P := Tryz.prog) w [43] (intT p) (by decide) (by omega)
    clear hl
    go_enter Tryz.func123, Tryz.ntmps123
    go_wp2_with (go_at_call 192; refine (itoa_c p (by omega) (by omega) _ ht).mono ?_; rintro e w' ⟨rfl, hb⟩)
    go_ret
    exact ⟨ret_s H.out.symm, hb⟩
def signL (b : Bool) : List UInt8 := if b = true then [45] else []
theorem fltT_sign (u : Int) (u0 : 0 ≤ u) (u1 : u < 18446744073709551616) (hn : nanB u = false) : fltT u = signL (decide (9223372036854775808 ≤ u)) ++ posT (u % 9223372036854775808).toNat := by
  unfold fltT signL
  rw [hn]
  simp only [Bool.false_eq_true, if_false, decide_eq_true_eq]
  by_cases h : 9223372036854775808 ≤ u
  · rw [if_pos h, if_pos h]
    have : u - 9223372036854775808 = u % 9223372036854775808 := by omega
    rw [this]; rfl
  · rw [if_neg h, if_neg h]
    have : u = u % 9223372036854775808 := by omega
    rw [← this]; rfl
theorem posT_num (a : Nat) (h0 : a ≠ 0) (h1 : a ≠ 9218868437227405312) : posT a = [48, 120, 49] ++ fracTx (fracOf a) ++ [112] ++ powTx (powOf a) := by
  unfold posT fracTx powTx
  rw [if_neg h1, if_neg h0]
  simp only [List.append_assoc]
theorem nan_size (u : Int) : nanB u = decide (9218868437227405312 < u % 9223372036854775808) := by
  unfold nanB
  rfl
/-- the four ways of a double's text, by its sign and its size -/
theorem float_ways (u : Int) (u0 : 0 ≤ u) (u1 : u < 18446744073709551616) :
    (9218868437227405312 < u % 9223372036854775808 ∧ fltT u = nanT) ∨
    (u % 9223372036854775808 = 9218868437227405312 ∧ fltT u = signL (decide (9223372036854775808 ≤ u)) ++ infT) ∨
    (u % 9223372036854775808 = 0 ∧ fltT u = signL (decide (9223372036854775808 ≤ u)) ++ [48, 120, 48, 112, 43, 48]) ∨
    (0 < u % 9223372036854775808 ∧ u % 9223372036854775808 < 9218868437227405312 ∧ fltT u = signL (decide (9223372036854775808 ≤ u)) ++ [48, 120, 49] ++ fracTx (fracOf (u % 9223372036854775808).toNat) ++ [112] ++ powTx (powOf (u % 9223372036854775808).toNat)) := by
  by_cases hn : 9218868437227405312 < u % 9223372036854775808
  · refine Or.inl ⟨hn, ?_⟩
    unfold fltT
    rw [if_pos (by rw [nan_size]; exact decide_eq_true hn)]
  · have e := fltT_sign u u0 u1 (by rw [nan_size]; exact decide_eq_false hn)
    by_cases hi : u % 9223372036854775808 = 9218868437227405312
    · refine Or.inr (Or.inl ⟨hi, ?_⟩)
      rw [e, hi]; rfl
    · by_cases hz : u % 9223372036854775808 = 0
      · refine Or.inr (Or.inr (Or.inl ⟨hz, ?_⟩))
        rw [e, hz]; rfl
      · refine Or.inr (Or.inr (Or.inr ⟨by omega, by omega, ?_⟩))
        rw [e, posT_num _ (by omega) (by omega)]
        simp only [List.append_assoc]
set_option maxHeartbeats 400000 in
theorem float_core (u z : Int) (sg : Bool) (w : World) (ht : Tabs w) (hz0 : 0 ≤ z) (hz1 : z < 9223372036854775808)
    (hs : (bits .and .u64 u 9223372036854775808 != 0) = sg) (hz : bits .andNot .u64 u 9223372036854775808 = z) (hw : 9218868437227405312 < z ∨ z = 9218868437227405312 ∨ z = 0 ∨ (0 < z ∧ z < 9218868437227405312)) :
    Calls Tryz.prog 82 #[.int .u64 u] w fun e w' => (∃ l, e = .returned (.string ⟨l.toArray⟩) ∧ (9218868437227405312 < z → l = nanT) ∧ (z = 9218868437227405312 → l = signL sg ++ infT) ∧ (z = 0 → l = signL sg ++ [48, 120, 48, 112, 43, 48]) ∧
      (0 < z ∧ z < 9218868437227405312 → l = signL sg ++ [48, 120, 49] ++ fracTx (fracOf z.toNat) ++ [112] ++ powTx (powOf z.toNat))) ∧ Below w.heap.size w w' := by
  rcases hw with h | h | h | ⟨h1, h2⟩
  · cases sg <;>
    · go_enter Tryz.func82, Tryz.ntmps82
      go_wp2_with fail
      go_ret
      exact ⟨⟨nanT, rfl, fun _ => rfl, by omega, by omega, by omega⟩, Below.refl _ _⟩
  · subst h
    cases sg <;>
    · go_enter Tryz.func82, Tryz.ntmps82
      go_wp2_with fail
      go_ret
      exact ⟨⟨_, rfl, by omega, fun _ => rfl, by omega, by omega⟩, Below.refl _ _⟩
  · subst h
    cases sg <;>
    · go_enter Tryz.func82, Tryz.ntmps82
      go_wp2_with fail
      go_ret
      exact ⟨⟨_, rfl, by omega, by omega, fun _ => rfl, by omega⟩, Below.refl _ _⟩
  · obtain ⟨f1, -, f3, f4⟩ := fracOf_spec z.toNat (by omega) (by omega)
    have cs := scaled_c z h1 h2
    have cf := fractionText_c (fracOf z.toNat) f1
    have cp := powerText_c (powOf z.toNat) (by omega) (by omega)
    have hF := fracTx_len (fracOf z.toNat) f1
    have hQ := powTx_len (powOf z.toNat) (by omega) (by omega)
    generalize fracTx (fracOf z.toNat) = F at *
    generalize powTx (powOf z.toNat) = Q at *
    generalize ((fracOf z.toNat : Nat) : Int) = fr at *
    generalize powOf z.toNat = pw at *
    clear f1 f3 f4
    have g1 : ¬ 9218868437227405312 < z := by omega
    have g2 : ¬ z = 9218868437227405312 := by omega
    have g3 : ¬ z = 0 := by omega
    have G := hid (show ¬ 9218868437227405312 < z ∧ ¬ z = 9218868437227405312 ∧ ¬ z = 0 from ⟨g1, g2, g3⟩)
    clear hz0 hz1 h1 h2
    cases sg
    · obtain ⟨Y2, hY2⟩ : ∃ Y2, Y2 = [48, 120, 49] ++ F := ⟨_, rfl⟩
      obtain ⟨Y3, hY3⟩ : ∃ Y3, Y3 = Y2 ++ [112] := ⟨_, rfl⟩
      obtain ⟨Y4, hY4⟩ : ∃ Y4, Y4 = Y3 ++ Q := ⟨_, rfl⟩
      have y2 : Y2.length ≤ 20 := by rw [hY2, List.length_append]; simp; omega
      have y3 : Y3.length ≤ 21 := by rw [hY3, List.length_append]; simp; omega
      have c1 := fun w => run_string_add_lists (P := Tryz.prog) w [] [48, 120, 49] (by decide) (by decide)
      have c2 := fun w => run_string_add_lists (P := Tryz.prog) w [48, 120, 49] F (by decide) (by omega)
      have c3 := fun w => run_string_add_lists (P := Tryz.prog) w Y2 [112] (by omega) (by decide)
      have c4 := fun w => run_string_add_lists (P := Tryz.prog) w Y3 Q (by omega) (by omega)
      simp only [← hY2, ← hY3, ← hY4] at c2 c3 c4
      have H := hid (show Y4 = signL false ++ [48, 120, 49] ++ F ++ [112] ++ Q by rw [hY4, hY3, hY2]; rfl)
      clear hY2 hY3 hY4 y2 y3 hF hQ
      go_enter Tryz.func82, Tryz.ntmps82
      go_wp2_with (first | (go_at_call 121; refine (cs _).mono ?_; rintro e w' ⟨rfl, rfl⟩) | (go_at_call 122; refine (cf _).mono ?_; rintro e w' ⟨rfl, hb⟩) | (go_at_call 123; refine (cp _ (ht.below hb)).mono ?_; rintro e w'' ⟨rfl, hb2⟩))
      go_ret
      exact ⟨⟨Y4, rfl, by have := G.out; omega, by have := G.out; omega, by have := G.out; omega, fun _ => H.out⟩, bel_trans hb hb2⟩
    · obtain ⟨Y2, hY2⟩ : ∃ Y2, Y2 = [45, 48, 120, 49] ++ F := ⟨_, rfl⟩
      obtain ⟨Y3, hY3⟩ : ∃ Y3, Y3 = Y2 ++ [112] := ⟨_, rfl⟩
      obtain ⟨Y4, hY4⟩ : ∃ Y4, Y4 = Y3 ++ Q := ⟨_, rfl⟩
      have y2 : Y2.length ≤ 20 := by rw [hY2, List.length_append]; simp; omega
      have y3 : Y3.length ≤ 21 := by rw [hY3, List.length_append]; simp; omega
      have c1 := fun w => run_string_add_lists (P := Tryz.prog) w [45] [48, 120, 49] (by decide) (by decide)
      have c2 := fun w => run_string_add_lists (P := Tryz.prog) w [45, 48, 120, 49] F (by decide) (by omega)
      have c3 := fun w => run_string_add_lists (P := Tryz.prog) w Y2 [112] (by omega) (by decide)
      have c4 := fun w => run_string_add_lists (P := Tryz.prog) w Y3 Q (by omega) (by omega)
      simp only [← hY2, ← hY3, ← hY4] at c2 c3 c4
      have H := hid (show Y4 = signL true ++ [48, 120, 49] ++ F ++ [112] ++ Q by rw [hY4, hY3, hY2]; rfl)
      clear hY2 hY3 hY4 y2 y3 hF hQ
      go_enter Tryz.func82, Tryz.ntmps82
      go_wp2_with (first | (go_at_call 121; refine (cs _).mono ?_; rintro e w' ⟨rfl, rfl⟩) | (go_at_call 122; refine (cf _).mono ?_; rintro e w' ⟨rfl, hb⟩) | (go_at_call 123; refine (cp _ (ht.below hb)).mono ?_; rintro e w'' ⟨rfl, hb2⟩))
      go_ret
      exact ⟨⟨Y4, rfl, by have := G.out; omega, by have := G.out; omega, by have := G.out; omega, fun _ => H.out⟩, bel_trans hb hb2⟩
theorem float_c (u : Int) (u0 : 0 ≤ u) (u1 : u < 18446744073709551616) (w : World) (ht : Tabs w) :
    Calls Tryz.prog 82 #[.int .u64 u] w fun e w' => e = .returned (.string ⟨(fltT u).toArray⟩) ∧ Below w.heap.size w w' := by
  refine (float_core u (u % 9223372036854775808) _ w ht (by omega) (by omega) (and63 u u0 u1) (andNot63 u u0 u1) (by omega)).mono ?_
  rintro e w' ⟨⟨l, rfl, k1, k2, k3, k4⟩, hb⟩
  refine ⟨ret_s ?_, hb⟩
  rcases float_ways u u0 u1 with ⟨h, e⟩ | ⟨h, e⟩ | ⟨h, e⟩ | ⟨h1, h2, e⟩
  · rw [e, k1 h]
  · rw [e, k2 h]
  · rw [e, k3 h]
  · rw [e, k4 ⟨h1, h2⟩]
end Go.Proofs.YtgkakflnmpoadaaGreatDoor.W.Nu.Q
/- Contracts of package numtext: a sign, the mark, digits and a power; a double read. -/
namespace Go.Proofs.YtgkakflnmpoadaaGreatDoor.W.Nu.Q
open Go.ChangeShapes Go.WideShapes Go.RowKit

/-- the number behind the mark -/
def bodyR (l : List UInt8) : Option (Nat × Int) := match l with | 48 :: 120 :: r => readBody r | _ => none
def sgI (m : Bool) : Int := if m = true then 9223372036854775808 else 0
/-- what is answered of a text that has no name -/
def ansF (s : Int) (o : Option (Nat × Int)) : Int × Int := match o with | none => (0, 20) | some (N, low) => match exactP N low with | none => (0, 21) | some a => (s + a, 0)
theorem readS_ans (s : Int) (l : List UInt8) : readS s l = ansF s (bodyR l) := by
  unfold readS bodyR ansF
  split
  · rfl
  · rename_i hn
    split
    · rename_i h
      split at h
      · exact (hn _ rfl).elim
      · rfl
    · rename_i h
      split at h
      · exact (hn _ rfl).elim
      · cases h
theorem readF_ans (l : List UInt8) (h64 : l.length ≤ 64) (h1 : l ≠ nanT) (h2 : l ≠ infT) (h3 : l ≠ 45 :: infT) : readF l = ansF (sgI (minus1 l)) (bodyR (rest1 l)) := by
  unfold readF
  rw [if_neg (by omega), if_neg h1, if_neg h2, if_neg h3]
  split
  · exact readS_ans _ _
  · rename_i hn
    obtain ⟨e1, e2⟩ := rest_not l hn
    rw [e1, e2]
    exact readS_ans _ _
def DblAns (l : List UInt8) (sg v p : Int) (wd ok : Bool) : Prop :=
  (ok = false ∧ bodyR (rest1 l) = none) ∨
  (ok = true ∧ sg = sgI (minus1 l) ∧ 0 ≤ v ∧ v < 18446744073709551616 ∧ -200000 ≤ p ∧ p ≤ 200000 ∧ ∃ N low, bodyR (rest1 l) = some (N, low) ∧ exactP N low = numP v.toNat wd p)
theorem powR_range (r : List UInt8) (p : Int) (h : powR r = some p) : -100000 ≤ p ∧ p ≤ 100000 := by
  unfold powR at h
  split at h
  · rename_i sg ds
    by_cases c : (sg = 43 ∨ sg = 45) ∧ ds ≠ [] ∧ ds.length ≤ 5 ∧ ds.all digB = true
    · rw [if_pos c] at h
      obtain ⟨-, -, c3, c4⟩ := c
      have h2 := valD_le ds (fun c hc => of_decide_eq_true (List.all_eq_true.1 c4 c hc))
      have h3 : 10 ^ ds.length ≤ 10 ^ 5 := Nat.pow_le_pow_right (by decide) c3
      have h4 : (10 : Nat) ^ 5 = 100000 := by decide
      injection h with h
      by_cases g : sg = 45
      · rw [if_pos g] at h; omega
      · rw [if_neg g] at h; omega
    · rw [if_neg c] at h; cases h
  · cases h
/-- digits and a power -/
theorem dbl_ok (l d r : List UInt8) (sg v p pw : Int) (wd : Bool) (hd : rest1 l = 48 :: 120 :: d) (hs : sg = sgI (minus1 l)) (hD : DigAns d v p wd r true) (hp : powR r = some pw) : DblAns l sg v (p + pw) wd true := by
  have hr := powR_range r pw hp
  rcases hD with ⟨h, -⟩ | ⟨-, v0, v1, p0, p1, -, D, b, hb, he⟩
  · cases h
  · refine Or.inr ⟨rfl, hs, v0, v1, by omega, by omega, valH D, pw - 4 * b, ?_, ?_⟩
    · rw [hd]
      show readBody d = _
      rw [hb, readPow_powR, hp]; rfl
    · rw [he pw]
      congr 1; omega
theorem dbl_noPow (l d r : List UInt8) (sg v p : Int) (wd : Bool) (hd : rest1 l = 48 :: 120 :: d) (hD : DigAns d v p wd r true) (hp : powR r = none) : DblAns l sg 0 0 false false := by
  rcases hD with ⟨h, -⟩ | ⟨-, v0, v1, p0, p1, -, D, b, hb, he⟩
  · cases h
  · refine Or.inl ⟨rfl, ?_⟩
    rw [hd]
    show readBody d = _
    rw [hb, readPow_powR, hp]; rfl
theorem dbl_noDig (l d : List UInt8) (sg : Int) (hd : rest1 l = 48 :: 120 :: d) (hD : readBody d = none) : DblAns l sg 0 0 false false :=
  Or.inl ⟨rfl, by rw [hd]; exact hD⟩
theorem dbl_noMark (l : List UInt8) (sg : Int) (hd : ∀ d, rest1 l ≠ 48 :: 120 :: d) : DblAns l sg 0 0 false false := by
  refine Or.inl ⟨rfl, ?_⟩
  unfold bodyR
  split
  · rename_i r e; exact absurd e (hd r)
  · rfl
theorem after_alloc {w w2 : World} {x y z : Value} {t : TypeId} (hb : Below (w.alloc (.cells #[x, y, z] t)).heap.size (w.alloc (.cells #[x, y, z] t)) w2) :
    (∀ i, w2.cell? ⟨w.heap.size, i, none⟩ = #[x, y, z][i]?) ∧ (∀ i, w2.frozen? ⟨w.heap.size, i, none⟩ = false) ∧ Below w.heap.size w w2 := by
  have lt : w.heap.size < (w.alloc (.cells #[x, y, z] t)).heap.size := by simp
  refine ⟨fun i => ?_, fun i => ?_, bel_trans ((Below.refl _ _).alloc (Nat.le_refl _) _) hb⟩
  · rw [hb.cell lt]
    exact World.cell?_alloc_new w _ _ _
  · rw [hb.frozen lt, frozen?_alloc_cells, World.frozen?]
    have : w.heap[w.heap.size]? = none := Array.getElem?_eq_none (Nat.le_refl _)
    rw [this]
set_option maxHeartbeats 1000000 in
theorem readDouble_core (s U G : ByteArray) (m mk : Bool) (w : World) (hG : G.size ≤ 64)
    (c1 : ∀ w, Calls Tryz.prog 222 #[.string s, .string ⟨#[45]⟩] w fun e w' => e = .returned (.tuple #[.string U, .bool m]) ∧ w' = w)
    (c2 : ∀ w, Calls Tryz.prog 222 #[.string U, .string ⟨#[48, 120]⟩] w fun e w' => e = .returned (.tuple #[.string G, .bool mk]) ∧ w' = w)
    (l : List UInt8) (hm : m = minus1 l) (hmk : (mk = true ∧ rest1 l = 48 :: 120 :: G.data.toList) ∨ (mk = false ∧ ∀ d, rest1 l ≠ 48 :: 120 :: d)) :
    Calls Tryz.prog 220 #[.string s] w fun e w' => (∃ sg v p wd ok, e = .returned (.tuple #[.int .u64 sg, .agg #[.int .u64 v, .int .i64 p, .bool wd], .bool ok]) ∧ DblAns l sg v p wd ok) ∧ Below w.heap.size w w' := by
  have HM := hid hm
  clear hm
  rcases hmk with ⟨rfl, hd⟩ | ⟨rfl, hd⟩
  · have HD := hid hd
    clear hd
    cases m with
    | false =>
      go_enter Tryz.func220, Tryz.ntmps220
      go_upto_region 8 with (first | (go_at_call 222; (first | (with_reducible refine (c1 _).mono ?_) | (with_reducible refine (c2 _).mono ?_)); rintro e w' ⟨rfl, rfl⟩) | (go_at_call 263; refine (readDigits_c G hG _).mono ?_; rintro e w2 ⟨⟨v, p, wd, r, ok, rfl, hans⟩, hb⟩; obtain ⟨hc, hf, hB⟩ := after_alloc hb; (have a0 := hc 0); (have a1 := hc 1); (have a2 := hc 2); (have f0 := hf 0); (have f1 := hf 1); (have f2 := hf 2); simp at a0 a1 a2))
      generalize hW : World.setCell (World.setCell (World.setCell w2 _ _) _ _) _ _ = W3
      obtain ⟨c3, g3⟩ := stored3 hW hc (Nat.le_refl _) hB
      have z3 : ∀ i, W3.frozen? ⟨w.heap.size, i, none⟩ = false := by
        rw [← hW]; intro i; rw [World.frozen?_setCell, World.frozen?_setCell, World.frozen?_setCell]; exact hf i
      clear hW hb a0 a1 a2 f0 f1 f2 hc hf hB
      have a0 := c3 0
      have a1 := c3 1
      have a2 := c3 2
      have f0 := z3 0
      have f1 := z3 1
      have f2 := z3 2
      simp at a0 a1 a2
      have C3 := hid c3
      have Z3 := hid z3
      clear c3 z3
      cases ok with
      | false =>
        have hn : readBody G.data.toList = none := by
          rcases hans with ⟨-, h⟩ | ⟨h, -⟩
          · exact h
          · cases h
        have R := hid (dbl_noDig l G.data.toList 0 HD.out hn)
        clear hn hans
        go_wp2_with fail
        generalize hV : World.setCell (World.setCell (World.setCell _ _ _) _ _) _ _ = V
        obtain ⟨fR, gR⟩ := stored3 hV C3.out (Nat.le_refl _) g3
        exact bodyPost_ret (v := .tuple #[.int .u64 0, .agg #[.int .u64 0, .int .i64 0, .bool false], .bool false]) (by simp [results, Tryz.results220, go_sem, fR]) rfl ⟨⟨_, _, _, _, _, rfl, R.out⟩, gR⟩
      | true =>
        have rb : -1000 ≤ p ∧ p ≤ 1000 ∧ r.length ≤ G.data.toList.length := by
          rcases hans with ⟨h, -⟩ | ⟨-, -, -, h1, h2, h3, -⟩
          · cases h
          · exact ⟨h1, h2, h3⟩
        obtain ⟨p0, p1, rl⟩ := rb
        have hsz : (⟨r.toArray⟩ : ByteArray).size = r.length := by rw [← size_list]
        have gl := size_list G
        have cp := readPower_c ⟨r.toArray⟩ (by unfold maxLen; omega)
        clear hsz gl rl
        cases hp : powR r with
        | none =>
          have R := hid (dbl_noPow l G.data.toList r 0 v p wd HD.out hans hp)
          have ep : powR (⟨r.toArray⟩ : ByteArray).data.toList = none := hp
          rw [ep] at cp
          clear hans hp ep
          go_wp2_with (first | (go_at_call 264; (with_reducible refine (cp _).mono ?_); rintro e w' ⟨rfl, rfl⟩))
          generalize hV : World.setCell (World.setCell (World.setCell _ _ _) _ _) _ _ = V
          obtain ⟨fR, gR⟩ := stored3 hV C3.out (Nat.le_refl _) g3
          exact bodyPost_ret (v := .tuple #[.int .u64 0, .agg #[.int .u64 0, .int .i64 0, .bool false], .bool false]) (by simp [results, Tryz.results220, go_sem, fR]) rfl ⟨⟨_, _, _, _, _, rfl, R.out⟩, gR⟩
        | some pw =>
          obtain ⟨q0, q1⟩ := powR_range r pw hp
          have R := hid (dbl_ok l G.data.toList r 0 v p pw wd HD.out (by rw [← HM.out]; rfl) hans hp)
          have ep : powR (⟨r.toArray⟩ : ByteArray).data.toList = some pw := hp
          rw [ep] at cp
          clear hans hp ep
          go_upto_region 14 with (first | (go_at_call 264; (with_reducible refine (cp _).mono ?_); rintro e w' ⟨rfl, rfl⟩))
          generalize hV : World.setCell _ _ _ = V
          have cV : ∀ i, V.cell? ⟨w.heap.size, i, none⟩ = #[Value.int .u64 v, .int .i64 (p + pw), .bool wd][i]? := by rw [← hV]; exact set_at C3.out _ (show 1 < 3 by decide)
          have gV : Below w.heap.size w V := by rw [← hV]; exact g3.setCell (p := ⟨w.heap.size, 1, none⟩) (Nat.le_refl _) _
          have zV : ∀ i, V.frozen? ⟨w.heap.size, i, none⟩ = false := by rw [← hV]; intro i; rw [World.frozen?_setCell]; exact Z3.out i
          have b0 := cV 0
          have b1 := cV 1
          have b2 := cV 2
          have y0 := zV 0
          have y1 := zV 1
          have y2 := zV 2
          simp at b0 b1 b2
          have CV := hid cV
          clear a0 a1 a2 f0 f1 f2 hV cV zV
          go_region
          go_wp2_with fail
          generalize hX : World.setCell (World.setCell (World.setCell _ _ _) _ _) _ _ = X
          obtain ⟨fR, gR⟩ := stored3 hX CV.out (Nat.le_refl _) gV
          exact bodyPost_ret (v := .tuple #[.int .u64 0, .agg #[.int .u64 v, .int .i64 (p + pw), .bool wd], .bool true]) (by simp [results, Tryz.results220, go_sem, fR]) rfl ⟨⟨_, _, _, _, _, rfl, R.out⟩, gR.drew⟩
    | true =>
      go_enter Tryz.func220, Tryz.ntmps220
      go_upto_region 8 with (first | (go_at_call 222; (first | (with_reducible refine (c1 _).mono ?_) | (with_reducible refine (c2 _).mono ?_)); rintro e w' ⟨rfl, rfl⟩) | (go_at_call 263; refine (readDigits_c G hG _).mono ?_; rintro e w2 ⟨⟨v, p, wd, r, ok, rfl, hans⟩, hb⟩; obtain ⟨hc, hf, hB⟩ := after_alloc hb; (have a0 := hc 0); (have a1 := hc 1); (have a2 := hc 2); (have f0 := hf 0); (have f1 := hf 1); (have f2 := hf 2); simp at a0 a1 a2))
      generalize hW : World.setCell (World.setCell (World.setCell w2 _ _) _ _) _ _ = W3
      obtain ⟨c3, g3⟩ := stored3 hW hc (Nat.le_refl _) hB
      have z3 : ∀ i, W3.frozen? ⟨w.heap.size, i, none⟩ = false := by
        rw [← hW]; intro i; rw [World.frozen?_setCell, World.frozen?_setCell, World.frozen?_setCell]; exact hf i
      clear hW hb a0 a1 a2 f0 f1 f2 hc hf hB
      have a0 := c3 0
      have a1 := c3 1
      have a2 := c3 2
      have f0 := z3 0
      have f1 := z3 1
      have f2 := z3 2
      simp at a0 a1 a2
      have C3 := hid c3
      have Z3 := hid z3
      clear c3 z3
      cases ok with
      | false =>
        have hn : readBody G.data.toList = none := by
          rcases hans with ⟨-, h⟩ | ⟨h, -⟩
          · exact h
          · cases h
        have R := hid (dbl_noDig l G.data.toList 0 HD.out hn)
        clear hn hans
        go_wp2_with fail
        generalize hV : World.setCell (World.setCell (World.setCell _ _ _) _ _) _ _ = V
        obtain ⟨fR, gR⟩ := stored3 hV C3.out (Nat.le_refl _) g3
        exact bodyPost_ret (v := .tuple #[.int .u64 0, .agg #[.int .u64 0, .int .i64 0, .bool false], .bool false]) (by simp [results, Tryz.results220, go_sem, fR]) rfl ⟨⟨_, _, _, _, _, rfl, R.out⟩, gR⟩
      | true =>
        have rb : -1000 ≤ p ∧ p ≤ 1000 ∧ r.length ≤ G.data.toList.length := by
          rcases hans with ⟨h, -⟩ | ⟨-, -, -, h1, h2, h3, -⟩
          · cases h
          · exact ⟨h1, h2, h3⟩
        obtain ⟨p0, p1, rl⟩ := rb
        have hsz : (⟨r.toArray⟩ : ByteArray).size = r.length := by rw [← size_list]
        have gl := size_list G
        have cp := readPower_c ⟨r.toArray⟩ (by unfold maxLen; omega)
        clear hsz gl rl
        cases hp : powR r with
        | none =>
          have R := hid (dbl_noPow l G.data.toList r 0 v p wd HD.out hans hp)
          have ep : powR (⟨r.toArray⟩ : ByteArray).data.toList = none := hp
          rw [ep] at cp
          clear hans hp ep
          go_wp2_with (first | (go_at_call 264; (with_reducible refine (cp _).mono ?_); rintro e w' ⟨rfl, rfl⟩))
          generalize hV : World.setCell (World.setCell (World.setCell _ _ _) _ _) _ _ = V
          obtain ⟨fR, gR⟩ := stored3 hV C3.out (Nat.le_refl _) g3
          exact bodyPost_ret (v := .tuple #[.int .u64 0, .agg #[.int .u64 0, .int .i64 0, .bool false], .bool false]) (by simp [results, Tryz.results220, go_sem, fR]) rfl ⟨⟨_, _, _, _, _, rfl, R.out⟩, gR⟩
        | some pw =>
          obtain ⟨q0, q1⟩ := powR_range r pw hp
          have R := hid (dbl_ok l G.data.toList r 9223372036854775808 v p pw wd HD.out (by rw [← HM.out]; rfl) hans hp)
          have ep : powR (⟨r.toArray⟩ : ByteArray).data.toList = some pw := hp
          rw [ep] at cp
          clear hans hp ep
          go_upto_region 14 with (first | (go_at_call 264; (with_reducible refine (cp _).mono ?_); rintro e w' ⟨rfl, rfl⟩))
          generalize hV : World.setCell _ _ _ = V
          have cV : ∀ i, V.cell? ⟨w.heap.size, i, none⟩ = #[Value.int .u64 v, .int .i64 (p + pw), .bool wd][i]? := by rw [← hV]; exact set_at C3.out _ (show 1 < 3 by decide)
          have gV : Below w.heap.size w V := by rw [← hV]; exact g3.setCell (p := ⟨w.heap.size, 1, none⟩) (Nat.le_refl _) _
          have zV : ∀ i, V.frozen? ⟨w.heap.size, i, none⟩ = false := by rw [← hV]; intro i; rw [World.frozen?_setCell]; exact Z3.out i
          have b0 := cV 0
          have b1 := cV 1
          have b2 := cV 2
          have y0 := zV 0
          have y1 := zV 1
          have y2 := zV 2
          simp at b0 b1 b2
          have CV := hid cV
          clear a0 a1 a2 f0 f1 f2 hV cV zV
          go_region
          go_wp2_with fail
          generalize hX : World.setCell (World.setCell (World.setCell _ _ _) _ _) _ _ = X
          obtain ⟨fR, gR⟩ := stored3 hX CV.out (Nat.le_refl _) gV
          exact bodyPost_ret (v := .tuple #[.int .u64 9223372036854775808, .agg #[.int .u64 v, .int .i64 (p + pw), .bool wd], .bool true]) (by simp [results, Tryz.results220, go_sem, fR]) rfl ⟨⟨_, _, _, _, _, rfl, R.out⟩, gR.drew⟩
  · have R := hid (dbl_noMark l 0 hd)
    clear hd
    cases m <;>
    · go_enter Tryz.func220, Tryz.ntmps220
      go_wp2_with (go_at_call 222; (first | (with_reducible refine (c1 _).mono ?_) | (with_reducible refine (c2 _).mono ?_)); rintro e w' ⟨rfl, rfl⟩)
      exact bodyPost_ret (v := .tuple #[.int .u64 0, .agg #[.int .u64 0, .int .i64 0, .bool false], .bool false]) (by simp [results, Tryz.results220, go_sem]) rfl ⟨⟨_, _, _, _, _, rfl, R.out⟩, (Below.refl _ _).alloc (Nat.le_refl _) _⟩
theorem readDouble_c (s : ByteArray) (hs : s.size ≤ 64) (w : World) :
    Calls Tryz.prog 220 #[.string s] w fun e w' => (∃ sg v p wd ok, e = .returned (.tuple #[.int .u64 sg, .agg #[.int .u64 v, .int .i64 p, .bool wd], .bool ok]) ∧ DblAns s.data.toList sg v p wd ok) ∧ Below w.heap.size w w' := by
  have sz := size_list s
  have rl := rest_len s.data.toList
  have hsz : ∀ x : List UInt8, (⟨x.toArray⟩ : ByteArray).size = x.length := fun x => by rw [← size_list]
  have c2 := fun w => cutPrefix_c ⟨(rest1 s.data.toList).toArray⟩ ⟨#[48, 120]⟩ w
  rcases prefix_two (rest1 s.data.toList) 48 120 with ⟨h1, h2⟩ | ⟨h1, h2, h3⟩
  · have e1 : Lib.hasPrefix (⟨(rest1 s.data.toList).toArray⟩ : ByteArray).data.toList (⟨#[48, 120]⟩ : ByteArray).data.toList = true := h1
    generalize hd : Lib.trimPrefix (rest1 s.data.toList) [48, 120] = d at h2
    have e2 : Lib.trimPrefix (⟨(rest1 s.data.toList).toArray⟩ : ByteArray).data.toList (⟨#[48, 120]⟩ : ByteArray).data.toList = d := hd
    rw [e1, e2] at c2
    have dl : d.length ≤ (rest1 s.data.toList).length := by rw [h2]; simp; omega
    exact readDouble_core s _ _ _ _ w (by rw [hsz]; omega) (cutMinus_c s) c2 s.data.toList rfl (Or.inl ⟨rfl, h2⟩)
  · have e1 : Lib.hasPrefix (⟨(rest1 s.data.toList).toArray⟩ : ByteArray).data.toList (⟨#[48, 120]⟩ : ByteArray).data.toList = false := h1
    have e2 : Lib.trimPrefix (⟨(rest1 s.data.toList).toArray⟩ : ByteArray).data.toList (⟨#[48, 120]⟩ : ByteArray).data.toList = rest1 s.data.toList := h2
    rw [e1, e2] at c2
    exact readDouble_core s _ _ _ _ w (by rw [hsz]; omega) (cutMinus_c s) c2 s.data.toList rfl (Or.inr ⟨rfl, h3⟩)
end Go.Proofs.YtgkakflnmpoadaaGreatDoor.W.Nu.Q
/- Contracts of package numtext: a double read; numbers of either kind printed and read. -/
namespace Go.Proofs.YtgkakflnmpoadaaGreatDoor.W.Nu.Q
open Go.ChangeShapes Go.WideShapes Go.RowKit

/-- a double that has a name -/
def namD (l : List UInt8) : Option Int := if l = nanT then some 9221120237041090560 else if l = infT then some 9218868437227405312 else if l = 45 :: infT then some 18442240474082181120 else none
def namV (o : Option Int) : Value := .tuple #[.int .u64 (o.getD 0), .bool o.isSome]
theorem named_c (s : ByteArray) (w : World) :
    Calls Tryz.prog 175 #[.string s] w fun e w' => e = .returned (namV (namD s.data.toList)) ∧ w' = w := by
  have es : s.toList = s.data.toList := toList_eq s
  by_cases h1 : s.data.toList = nanT
  · have H := hid (show namD s.data.toList = some 9221120237041090560 by unfold namD; rw [if_pos h1])
    have q : (s.toList == [110, 97, 110]) = true := by rw [es, h1]; rfl
    clear es h1
    go_enter Tryz.func175, Tryz.ntmps175
    go_wp2_with fail
    go_ret2
    exact ⟨by rw [H.out]; rfl, rfl⟩
  · have q : (s.toList == [110, 97, 110]) = false := by rw [es, beq_eq_false_iff_ne]; exact h1
    by_cases h2 : s.data.toList = infT
    · have H := hid (show namD s.data.toList = some 9218868437227405312 by unfold namD; rw [if_neg h1, if_pos h2])
      have q2 : (s.toList == [105, 110, 102]) = true := by rw [es, h2]; rfl
      clear es h1 h2
      go_enter Tryz.func175, Tryz.ntmps175
      go_wp2_with fail
      go_ret2
      exact ⟨by rw [H.out]; rfl, rfl⟩
    · have q2 : (s.toList == [105, 110, 102]) = false := by rw [es, beq_eq_false_iff_ne]; exact h2
      by_cases h3 : s.data.toList = 45 :: infT
      · have H := hid (show namD s.data.toList = some 18442240474082181120 by unfold namD; rw [if_neg h1, if_neg h2, if_pos h3])
        have q3 : (s.toList == [45, 105, 110, 102]) = true := by rw [es, h3]; rfl
        clear es h1 h2 h3
        go_enter Tryz.func175, Tryz.ntmps175
        go_wp2_with fail
        go_ret2
        exact ⟨by rw [H.out]; rfl, rfl⟩
      · have H := hid (show namD s.data.toList = none by unfold namD; rw [if_neg h1, if_neg h2, if_neg h3])
        have q3 : (s.toList == [45, 105, 110, 102]) = false := by rw [es, beq_eq_false_iff_ne]; exact h3
        clear es h1 h2 h3
        go_enter Tryz.func175, Tryz.ntmps175
        go_wp2_with fail
        go_ret2
        exact ⟨by rw [H.out]; rfl, rfl⟩
theorem readF_named (l : List UInt8) (x : Int) (h : namD l = some x) : readF l = (x, 0) := by
  have nl : l = nanT ∨ l = infT ∨ l = 45 :: infT := by
    unfold namD at h
    by_cases h1 : l = nanT
    · exact Or.inl h1
    · by_cases h2 : l = infT
      · exact Or.inr (Or.inl h2)
      · by_cases h3 : l = 45 :: infT
        · exact Or.inr (Or.inr h3)
        · rw [if_neg h1, if_neg h2, if_neg h3] at h; cases h
  rcases nl with rfl | rfl | rfl <;> (have e : some x = _ := h.symm; injection e with e; subst e; rfl)
theorem readF_nameless (l : List UInt8) (h64 : l.length ≤ 64) (h : namD l = none) : readF l = ansF (sgI (minus1 l)) (bodyR (rest1 l)) := by
  unfold namD at h
  by_cases h1 : l = nanT
  · rw [if_pos h1] at h; cases h
  · rw [if_neg h1] at h
    by_cases h2 : l = infT
    · rw [if_pos h2] at h; cases h
    · rw [if_neg h2] at h
      by_cases h3 : l = 45 :: infT
      · rw [if_pos h3] at h; cases h
      · exact readF_ans l h64 h1 h2 h3
theorem or_sign (m : Bool) (a : Int) (a0 : 0 ≤ a) (a1 : a < 9218868437227405312) : bits .or .u64 (sgI m) a = sgI m + a := by
  obtain ⟨n, rfl⟩ := Int.eq_ofNat_of_zero_le a0
  cases m with
  | false =>
    have := u64_or_nat 0 n (by decide) (by omega)
    rw [Nat.zero_or] at this
    show bits .or .u64 ((0 : Nat) : Int) (n : Int) = 0 + (n : Int)
    rw [this]; omega
  | true =>
    show bits .or .u64 ((9223372036854775808 : Nat) : Int) (n : Int) = 9223372036854775808 + (n : Int)
    rw [u64_or_nat _ _ (by decide) (by omega), nat_join 63 _ _ (by decide) (by omega)]
    omega
set_option maxHeartbeats 400000 in
theorem parseFloat_c (s : ByteArray) (hs : s.size ≤ maxLen) (w : World) (ht : Tabs w) :
    Calls Tryz.prog 178 #[.string s] w fun e w' => e = .returned (.tuple #[.int .u64 (readF s.data.toList).1, .int .i64 (readF s.data.toList).2]) ∧ Below w.heap.size w w' := by
  unfold maxLen at hs
  have sl := size_list s
  by_cases c : s.size ≤ 64
  · cases hn : namD s.data.toList with
    | some x =>
      have H := hid (readF_named _ _ hn)
      have cn := named_c s
      rw [hn] at cn
      clear hn sl
      go_enter Tryz.func178, Tryz.ntmps178
      go_wp2_with (first | (go_at_call 175; refine (cn _).mono ?_; rintro e w' ⟨rfl, rfl⟩; simp only [namV, Option.getD_some, Option.isSome_some]))
      go_ret2
      exact ⟨ret_ii (by rw [H.out]) (by rw [H.out]), Below.refl _ _⟩
    | none =>
      have H := hid (readF_nameless _ (by omega) hn)
      have cn := named_c s
      rw [hn] at cn
      clear hn sl
      go_enter Tryz.func178, Tryz.ntmps178
      go_upto_region 7 with (first | (go_at_call 175; refine (cn _).mono ?_; rintro e w' ⟨rfl, rfl⟩; simp only [namV, Option.getD_none, Option.isSome_none]) | (go_at_call 220; refine (readDouble_c s c _).mono ?_; rintro e w2 ⟨⟨sg, v, p, wd, ok, rfl, hans⟩, hb⟩))
      have ht3 : Tabs (w2.alloc (Obj.cells #[Value.int .u64 v, .int .i64 p, .bool wd] 223)) := (ht.below hb).below ((Below.refl _ _).alloc (Nat.le_refl _) _)
      have b3 := hb.alloc hb.size (Obj.cells #[Value.int .u64 v, .int .i64 p, .bool wd] 223)
      cases ok with
      | false =>
        have hn : bodyR (rest1 s.data.toList) = none := by
          rcases hans with ⟨-, h⟩ | ⟨h, -⟩
          · exact h
          · cases h
        have H2 := hid (show readF s.data.toList = (0, 20) by rw [H.out, hn]; rfl)
        clear hn hans ht3
        go_wp2_with fail
        go_ret2
        exact ⟨ret_ii (by rw [H2.out]) (by rw [H2.out]), b3⟩
      | true =>
        rcases hans with ⟨h, -⟩ | ⟨-, hsg, v0, v1, p0, p1, N, low, hbd, hex⟩
        · cases h
        have cp := numPattern_c v p wd v0 v1 p0 p1 _ ht3
        cases ho : numP v.toNat wd p with
        | none =>
          have H2 := hid (show readF s.data.toList = (0, 21) by rw [H.out, hbd]; unfold ansF; simp only [hex, ho])
          rw [ho] at cp
          clear hex ho hbd hsg ht3
          go_wp2_with (first | (go_at_call 221; refine cp.mono ?_; rintro e w4 ⟨rfl, hb4⟩; simp only [patV, Option.getD_none, Option.isSome_none]))
          go_ret2
          exact ⟨ret_ii (by rw [H2.out]) (by rw [H2.out]), bel_trans b3 hb4⟩
        | some a =>
          obtain ⟨a0, a1⟩ := exact_range N low a (hex.trans ho)
          have H2 := hid (show readF s.data.toList = (sg + a, 0) by rw [H.out, hbd, ← hsg]; unfold ansF; simp only [hex, ho])
          have ho2 : bits .or .u64 sg a = sg + a := by rw [hsg]; exact or_sign _ a a0 a1
          rw [ho] at cp
          clear hex ho hbd hsg ht3
          go_wp2_with (first | (go_at_call 221; refine cp.mono ?_; rintro e w4 ⟨rfl, hb4⟩; simp only [patV, Option.getD_some, Option.isSome_some]))
          go_ret2
          exact ⟨ret_ii (by rw [H2.out]) (by rw [H2.out]), bel_trans b3 hb4⟩
  · have E : readF s.data.toList = (0, 2) := by unfold readF; rw [if_pos (by omega)]
    have H := hid E
    clear E
    go_enter Tryz.func178, Tryz.ntmps178
    go_wp2_with fail
    go_ret2
    exact ⟨ret_ii (by rw [H.out]) (by rw [H.out]), Below.refl _ _⟩

/-! ### numbers of either kind -/
def markB (l : List UInt8) : Bool := match l with | 45 :: 48 :: 120 :: _ => true | 48 :: 120 :: _ => true | _ => false
theorem float_looks (l : List UInt8) : floatB l = ((namD l).isSome || Lib.hasPrefix (rest1 l) [48, 120]) := by
  have hx : Lib.hasPrefix (rest1 l) [48, 120] = markB l := by
    rcases prefix_two (rest1 l) 48 120 with ⟨h1, h2⟩ | ⟨h1, h2, h3⟩
    · rw [h1]
      generalize Lib.trimPrefix (rest1 l) [48, 120] = d at h2
      cases l with
      | nil => cases h2
      | cons c r =>
        by_cases hc : c = 45
        · subst hc
          have : r = 48 :: 120 :: d := h2
          rw [this]; rfl
        · have e := (rest_not (c :: r) (fun d e => hc (by injection e))).2
          rw [e] at h2
          rw [h2]; rfl
    · rw [h1]
      unfold markB
      split
      · exact absurd rfl (h3 _)
      · rename_i r
        have e := (rest_not (48 :: 120 :: r) (fun d e => by injection e with e1; revert e1; decide)).2
        exact absurd e (h3 r)
      · rfl
  have hf : floatB l = (markB l || l == nanT || l == infT || l == 45 :: infT) := rfl
  rw [hx, hf]
  unfold namD
  have d1 : (l == nanT) = decide (l = nanT) := by rw [Bool.eq_iff_iff]; simp
  have d2 : (l == infT) = decide (l = infT) := by rw [Bool.eq_iff_iff]; simp
  have d3 : (l == 45 :: infT) = decide (l = 45 :: infT) := by rw [Bool.eq_iff_iff]; simp
  rw [d1, d2, d3]
  generalize markB l = q
  by_cases h1 : l = nanT
  · rw [if_pos h1, decide_eq_true h1]; simp
  · rw [if_neg h1, decide_eq_false h1]
    by_cases h2 : l = infT
    · rw [if_pos h2, decide_eq_true h2]; simp
    · rw [if_neg h2, decide_eq_false h2]
      by_cases h3 : l = 45 :: infT
      · rw [if_pos h3, decide_eq_true h3]; simp
      · rw [if_neg h3, decide_eq_false h3]; simp
theorem looks_c (s : ByteArray) (w : World) :
    Calls Tryz.prog 105 #[.string s] w fun e w' => e = .returned (.bool (floatB s.data.toList)) ∧ w' = w := by
  have H := hid (float_looks s.data.toList)
  have cn := named_c s
  cases hn : namD s.data.toList with
  | some x =>
    rw [hn] at cn
    have H2 := hid (show floatB s.data.toList = true by rw [H.out, hn]; rfl)
    clear hn
    go_enter Tryz.func105, Tryz.ntmps105
    go_wp2_with (first | (go_at_call 175; refine (cn _).mono ?_; rintro e w' ⟨rfl, rfl⟩; simp only [namV, Option.getD_some, Option.isSome_some]))
    go_ret
    exact ⟨ret_bool H2.out.symm, rfl⟩
  | none =>
    rw [hn] at cn
    have H2 := hid (show floatB s.data.toList = Lib.hasPrefix (rest1 s.data.toList) [48, 120] by rw [H.out, hn]; rfl)
    have e2 : Lib.trimPrefix s.data.toList (⟨#[45]⟩ : ByteArray).data.toList = rest1 s.data.toList := (prefix_minus s.data.toList).2
    have ct := trimPrefix_c s ⟨#[45]⟩
    rw [e2] at ct
    have ch := hasPrefix_c ⟨(rest1 s.data.toList).toArray⟩ ⟨#[48, 120]⟩
    have e3 : Lib.hasPrefix (⟨(rest1 s.data.toList).toArray⟩ : ByteArray).data.toList (⟨#[48, 120]⟩ : ByteArray).data.toList = floatB s.data.toList := H2.out.symm
    rw [e3] at ch
    clear hn e2 e3
    generalize (⟨(rest1 s.data.toList).toArray⟩ : ByteArray) = U at *
    go_enter Tryz.func105, Tryz.ntmps105
    go_wp2_with (first | (go_at_call 175; refine (cn _).mono ?_; rintro e w' ⟨rfl, rfl⟩; simp only [namV, Option.getD_none, Option.isSome_none]) | (go_at_call 177; refine (ct _).mono ?_; rintro e w' ⟨rfl, rfl⟩) | (go_at_call 176; refine (ch _).mono ?_; rintro e w' ⟨rfl, rfl⟩))
    go_ret
    exact ⟨rfl, rfl⟩
theorem parseDouble_c (s : ByteArray) (hs : s.size ≤ maxLen) (w : World) (ht : Tabs w) :
    Calls Tryz.prog 106 #[.string s] w fun e w' => e = .returned (.tuple #[.agg #[.bool false, .int .i64 0, .int .u64 (readF s.data.toList).1], .int .i64 (readF s.data.toList).2]) ∧ Below w.heap.size w w' := by
  have cf := fun w ht => parseFloat_c s hs w ht
  generalize (readF s.data.toList).1 = x at *
  generalize (readF s.data.toList).2 = y at *
  have ht1 : Tabs (w.alloc (Obj.cells #[Value.bool false, .int .i64 0, .int .u64 0] 24)) := ht.below ((Below.refl _ _).alloc (Nat.le_refl _) _)
  go_enter Tryz.func106, Tryz.ntmps106
  go_wp2_with (first | (go_at_call 178; refine (cf _ ht1).mono ?_; rintro e w2 ⟨rfl, hb⟩; obtain ⟨hc, hf, hB⟩ := after_alloc hb; (have a0 := hc 0); (have a1 := hc 1); (have a2 := hc 2); (have f0 := hf 0); (have f1 := hf 1); (have f2 := hf 2); simp at a0 a1 a2))
  generalize hV : World.setCell (World.setCell (World.setCell _ _ _) _ _) _ _ = V
  obtain ⟨fR, gR⟩ := stored3 hV hc (Nat.le_refl _) hB
  exact bodyPost_ret (v := .tuple #[.agg #[.bool false, .int .i64 0, .int .u64 x], .int .i64 y]) (by simp [results, Tryz.results106, go_sem, fR]) rfl ⟨rfl, gR⟩
theorem parseWhole_c (s : ByteArray) (hs : s.size ≤ maxLen) (w : World) :
    Calls Tryz.prog 107 #[.string s] w fun e w' => e = .returned (.tuple #[.agg #[.bool ((readI s.data.toList).2 == 0), .int .i64 (readI s.data.toList).1, .int .u64 0], .int .i64 (readI s.data.toList).2]) ∧ Below w.heap.size w w' := by
  have cf := fun w => parseInt_c s hs w
  generalize (readI s.data.toList).1 = x at *
  generalize (readI s.data.toList).2 = y at *
  go_enter Tryz.func107, Tryz.ntmps107
  go_wp2_with (first | (go_at_call 179; refine (cf _).mono ?_; rintro e w2 ⟨rfl, hb⟩; subst hb))
  exact bodyPost_ret (v := .tuple #[.agg #[.bool (y == 0), .int .i64 x, .int .u64 0], .int .i64 y]) (by simp [results, Tryz.results107, go_sem]) rfl ⟨rfl, (Below.refl _ _).alloc (Nat.le_refl _) _⟩
theorem readF_err (l : List UInt8) (h : (readF l).2 ≠ 0) : (readF l).1 = 0 := by
  have go : ∀ s b, (readS s b).2 ≠ 0 → (readS s b).1 = 0 := by
    intro s b
    rw [readS_ans]
    intro h
    cases hb : bodyR b with
    | none => rfl
    | some q =>
      obtain ⟨N, low⟩ := q
      rw [hb] at h
      unfold ansF at h ⊢
      cases he : exactP N low with
      | none => simp only [he]
      | some a => simp only [he] at h; exact absurd rfl h
  unfold readF at h ⊢
  by_cases c0 : 64 < l.length
  · rw [if_pos c0]
  · rw [if_neg c0] at h ⊢
    by_cases c1 : l = nanT
    · rw [if_pos c1] at h; exact absurd rfl h
    · rw [if_neg c1] at h ⊢
      by_cases c2 : l = infT
      · rw [if_pos c2] at h; exact absurd rfl h
      · rw [if_neg c2] at h ⊢
        by_cases c3 : l = 45 :: infT
        · rw [if_pos c3] at h; exact absurd rfl h
        · rw [if_neg c3] at h ⊢
          split at h
          · exact go _ _ h
          · exact go _ _ h
theorem readI_err (l : List UInt8) (h : (readI l).2 ≠ 0) : (readI l).1 = 0 := by
  by_cases c0 : 64 < l.length
  · unfold readI; rw [if_pos c0]
  · rw [readI_rest l (by omega)] at h ⊢
    unfold readD at h ⊢
    by_cases c1 : formI (minus1 l) (rest1 l) = true
    · rw [if_pos c1] at h ⊢
      by_cases c2 : (if minus1 l = true then valD (rest1 l) ≤ 9223372036854775808 else valD (rest1 l) < 9223372036854775808)
      · rw [if_pos c2] at h; exact absurd rfl h
      · rw [if_neg c2]
    · rw [if_neg c1]
/-- a number, and the error, as values -/
def numV (n : Bool × Int × Int × Int) : Value := .tuple #[.agg #[.bool n.1, .int .i64 n.2.1, .int .u64 n.2.2.1], .int .i64 n.2.2.2]
theorem readN_float (l : List UInt8) (h : floatB l = true) : readN l = (false, 0, (readF l).1, (readF l).2) := by
  unfold readN
  by_cases c : 64 < l.length
  · rw [if_pos c]
    have : readF l = (0, 2) := by unfold readF; rw [if_pos c]
    rw [this]
  · rw [if_neg c, if_pos h]
    by_cases e : (readF l).2 = 0
    · rw [if_pos e, e]
    · rw [if_neg e, readF_err l e]
theorem readN_whole (l : List UInt8) (h : floatB l = false) : readN l = ((readI l).2 == 0, (readI l).1, 0, (readI l).2) := by
  unfold readN
  by_cases c : 64 < l.length
  · rw [if_pos c]
    have : readI l = (0, 2) := by unfold readI; rw [if_pos c]
    rw [this]; rfl
  · rw [if_neg c, if_neg (by rw [h]; decide)]
    by_cases e : (readI l).2 = 0
    · rw [if_pos e, e]; rfl
    · rw [if_neg e, readI_err l e, beq_eq_false_iff_ne.2 e]
theorem parse_c (s : ByteArray) (hs : s.size ≤ maxLen) (w : World) (ht : Tabs w) :
    Calls Tryz.prog 60 #[.string s] w fun e w' => e = .returned (numV (readN s.data.toList)) ∧ Below w.heap.size w w' := by
  have ht1 : Tabs (w.alloc (Obj.cells #[Value.bool false, .int .i64 0, .int .u64 0] 24)) := ht.below ((Below.refl _ _).alloc (Nat.le_refl _) _)
  have cl := looks_c s
  cases hl : floatB s.data.toList with
  | true =>
    have H := hid (readN_float _ hl)
    have cd := parseDouble_c s hs _ ht1
    rw [hl] at cl
    clear hl
    generalize (readF s.data.toList).1 = x at *
    generalize (readF s.data.toList).2 = y at *
    go_enter Tryz.func60, Tryz.ntmps60
    go_wp2_with (first | (go_at_call 105; refine (cl _).mono ?_; rintro e w2 ⟨rfl, hb⟩; subst hb) | (go_at_call 106; refine cd.mono ?_; rintro e w2 ⟨rfl, hb⟩; obtain ⟨hc, hf, hB⟩ := after_alloc hb; (have a0 := hc 0); (have a1 := hc 1); (have a2 := hc 2); (have f0 := hf 0); (have f1 := hf 1); (have f2 := hf 2); simp at a0 a1 a2))
    generalize hV : World.setCell (World.setCell (World.setCell _ _ _) _ _) _ _ = V
    obtain ⟨fR, gR⟩ := stored3 hV hc (Nat.le_refl _) hB
    exact bodyPost_ret (v := .tuple #[.agg #[.bool false, .int .i64 0, .int .u64 x], .int .i64 y]) (by simp [results, Tryz.results60, go_sem, fR]) rfl ⟨by rw [H.out]; rfl, gR⟩
  | false =>
    have H := hid (readN_whole _ hl)
    have cd := parseWhole_c s hs
    rw [hl] at cl
    clear hl
    generalize (readI s.data.toList).1 = x at *
    generalize (readI s.data.toList).2 = y at *
    go_enter Tryz.func60, Tryz.ntmps60
    go_wp2_with (first | (go_at_call 105; refine (cl _).mono ?_; rintro e w2 ⟨rfl, hb⟩; subst hb) | (go_at_call 107; refine (cd _).mono ?_; rintro e w2 ⟨rfl, hb⟩; obtain ⟨hc, hf, hB⟩ := after_alloc hb; (have a0 := hc 0); (have a1 := hc 1); (have a2 := hc 2); (have f0 := hf 0); (have f1 := hf 1); (have f2 := hf 2); simp at a0 a1 a2))
    generalize hV : World.setCell (World.setCell (World.setCell _ _ _) _ _) _ _ = V
    obtain ⟨fR, gR⟩ := stored3 hV hc (Nat.le_refl _) hB
    exact bodyPost_ret (v := .tuple #[.agg #[.bool (y == 0), .int .i64 x, .int .u64 0], .int .i64 y]) (by simp [results, Tryz.results60, go_sem, fR]) rfl ⟨by rw [H.out]; rfl, gR⟩
/-- a number's text -/
def numT (b : Bool) (i u : Int) : List UInt8 := if b = true then intT i else fltT u
theorem text_c (b : Bool) (i u : Int) (i0 : -9223372036854775808 ≤ i) (i1 : i ≤ 9223372036854775807) (u0 : 0 ≤ u) (u1 : u < 18446744073709551616) (w : World) (ht : Tabs w) :
    Calls Tryz.prog 47 #[.agg #[.bool b, .int .i64 i, .int .u64 u]] w fun e w' => e = .returned (.string ⟨(numT b i u).toArray⟩) ∧ Below w.heap.size w w' := by
  have ht1 : Tabs (w.alloc (Obj.cells #[Value.bool b, .int .i64 i, .int .u64 u] 24)) := ht.below ((Below.refl _ _).alloc (Nat.le_refl _) _)
  have B1 := (Below.refl w.heap.size w).alloc (Nat.le_refl _) (Obj.cells #[Value.bool b, .int .i64 i, .int .u64 u] 24)
  cases b with
  | true =>
    have H := hid (show numT true i u = intT i from rfl)
    have ci := int_c i i0 i1 _ ht1
    go_enter Tryz.func47, Tryz.ntmps47
    go_wp2_with (first | (go_at_call 81; refine ci.mono ?_; rintro e w2 ⟨rfl, hb⟩))
    go_ret
    exact ⟨ret_s H.out.symm, bel_trans B1 hb⟩
  | false =>
    have H := hid (show numT false i u = fltT u from rfl)
    have ci := float_c u u0 u1 _ ht1
    go_enter Tryz.func47, Tryz.ntmps47
    go_wp2_with (first | (go_at_call 82; refine ci.mono ?_; rintro e w2 ⟨rfl, hb⟩))
    go_ret
    exact ⟨ret_s H.out.symm, bel_trans B1 hb⟩
end Go.Proofs.YtgkakflnmpoadaaGreatDoor.W.Nu.Q
/- Package ops: text, num, bits and frombits of numbers in words, over a heap. -/
namespace Go.Proofs.YtgkakflnmpoadaaGreatDoor.W.Nu
open Go.ChangeShapes Go.WideShapes Go.RowKit Go.Shelf
set_option linter.unusedVariables false
/-- a number's text -/
def tx (a : Bool) (i u : Int) : ByteArray := ⟨(Q.numT a i u).toArray⟩
theorem tx_size (a : Bool) (i u : Int) : (tx a i u).size = (Q.numT a i u).length := by
  show (Q.numT a i u).toArray.size = _
  simp
theorem tx_list (a : Bool) (i u : Int) : (tx a i u).data.toList = Q.numT a i u := by
  show (Q.numT a i u).toArray.toList = _
  simp
theorem tx_len (a : Bool) (i u : Int) (h : inN i u) : (tx a i u).size ≤ 24 := by
  rw [tx_size]
  cases a
  · exact Q.flt_len u h.2.1 h.2.2
  · have := Q.int_len i h.1.1 h.1.2
    show (Q.intT i).length ≤ 24
    omega
theorem read_tx (a : Bool) (i u : Int) (h : inN i u) (sx : (a = true ∧ u = 0) ∨ (a = false ∧ i = 0)) (hu : Go.Proofs.YtgkakflnmpoadaaGreatDoor.W.fltW u = u) : Q.readN (tx a i u).data.toList = (a, i, u, 0) := by
  rw [tx_list]
  rcases sx with ⟨rfl, rfl⟩ | ⟨rfl, rfl⟩
  · exact Q.readN_int i h.1.1 h.1.2
  · have := Q.readN_flt u h.2.1 h.2.2
    have hu' : fltW u = u := hu
    rw [hu'] at this
    exact this
theorem text_w {W0 : World} (ht : Q.Tabs W0) (a : Bool) (i u : Int) (h : inN i u) (w : World) (hB : Below W0.heap.size W0 w) : Calls Tryz.prog 47 #[.agg #[.bool a, .int .i64 i, .int .u64 u]] w fun e w' => e = .returned (.string (tx a i u)) ∧ Below w.heap.size w w' :=
  Q.text_c a i u h.1.1 (by have := h.1.2; omega) h.2.1 h.2.2 w (ht.below hB)
theorem parse_w {W0 : World} (ht : Q.Tabs W0) (a : Bool) (i u : Int) (h : inN i u) (sx : (a = true ∧ u = 0) ∨ (a = false ∧ i = 0)) (hu : Go.Proofs.YtgkakflnmpoadaaGreatDoor.W.fltW u = u) (w : World) (hB : Below W0.heap.size W0 w) : Calls Tryz.prog 60 #[.string (tx a i u)] w fun e w' => e = .returned (.tuple #[.agg #[.bool a, .int .i64 i, .int .u64 u], .int .i64 0]) ∧ Below w.heap.size w w' := by
  have hs := tx_len a i u h
  have := Q.parse_c (tx a i u) (by unfold maxLen; omega) w (ht.below hB)
  rw [read_tx a i u h sx hu] at this
  exact this
theorem BPost.map {W0 W1 W' : World} {hb : Nat} {H : List (Option Hc)} {u : Nat} {K : Nat → Prop} {V V' : List (Option Hc) → Nat → Prop} {n : Nat} {e : Ending} (hV : ∀ H' w, w < 18446744073709551616 → V H' w → V' H' w) (h : BPost W0 W1 hb H u K V n e W') : BPost W0 W1 hb H u K V' n e W' := by
  obtain ⟨w, H', h1, h2, h3, h4, h5, h6, h7, h8, h9⟩ := h
  exact ⟨w, H', h1, h2, h3, hV H' w h8 h4, h5, h6, h7, h8, h9⟩
section
variable {W0 W : World} {hb : Nat} {H : List (Option Hc)} {u' : Nat} {K : Nat → Prop}
theorem bel3 {A B C D : World} (h : Below A.heap.size A B) (g : Below B.heap.size B C) (k : Below C.heap.size C D) : Below A.heap.size A D := h.trans ((g.trans (k.mono g.size)).mono h.size)
theorem bin_text (q : Hf W0 W hb H u' K) (ht : Q.Tabs W0) (x wb : Nat) (a : Bool) (i u : Int) (hx : IsNum H x a i u) (hw0 : W.cell? ⟨wb, 0, none⟩ = some (.int .u64 (x : Nat))) (vr : Value) (rs : List Nat) (hr : WordsAt W vr rs) (hl : rs.length ≤ 999000) (hf : sumH H + 5 ≤ u') (hH : H.length ≤ 1000000) :
    Calls Tryz.prog 6 #[.pointer (some ⟨hb, 0, none⟩), .string ⟨#[116, 101, 120, 116]⟩, .slice (some ⟨wb, 0, none⟩) 1 1, vr] W (BPost W0 W hb H u' K (fun H' w => IsTxt H' w (tx a i u)) (nT (tx a i u))) := by
  have hs := tx_len a i u hx.inN
  have hk : (kV a == 4) = false := by cases a <;> decide
  refine Builtin_1 W hb _ x wb _ eg_toText vr rs hr hl (kV a) i u 0 ⟨#[]⟩ hx.lt hw0 find_text (fun w' h => unbox_n (q.below' h).2.choose_spec.1 x a i u hx) (fun e w' h => h.two) (fun w' vb vr' h hc hv hw => ?_)
  refine toText_g (kV a) i u (tx a i u) hk hv (fun w2 h2 => told_n a i u hx.shape _ w2 (fun w3 h3 => text_w ht a i u hx.inN w3 ?_)) (fun w2 h2 => (boxS (q.below' (h.trans (h2.mono h.size))) vr' _ (words_below hw h2) _ (by omega) (by unfold tneed; omega) hH).mono (fun e w3 h3 => h3.on (h.trans (h2.mono h.size)))) (fun e w' h => h.two)
  exact bel3 q.bel h (h2.trans (h3.mono h2.size))
theorem bin_num (q : Hf W0 W hb H u' K) (ht : Q.Tabs W0) (t wb : Nat) (a : Bool) (i u : Int) (hn : inN i u) (sx : (a = true ∧ u = 0) ∨ (a = false ∧ i = 0)) (hu : Go.Proofs.YtgkakflnmpoadaaGreatDoor.W.fltW u = u) (hc1 : a = false → Go.Proofs.YtgkakflnmpoadaaGreatDoor.W.cls u = 1) (hT : IsTxt H t (tx a i u)) (hw0 : W.cell? ⟨wb, 0, none⟩ = some (.int .u64 (t : Nat))) (vr : Value) (rs : List Nat) (hr : WordsAt W vr rs) (hl : rs.length ≤ 999000) (hf : sumH H + 2 ≤ u') (hH : H.length ≤ 1000000) :
    Calls Tryz.prog 6 #[.pointer (some ⟨hb, 0, none⟩), .string ⟨#[110, 117, 109]⟩, .slice (some ⟨wb, 0, none⟩) 1 1, vr] W (BPost W0 W hb H u' K (fun H' w => IsNum H' w a i u) (if a = true then nI i else 0)) := by
  refine Builtin_1 W hb _ t wb _ eg_toNumber vr rs hr hl 4 0 0 0 (tx a i u) hT.lt hw0 find_num (fun w' h => unbox_txt (q.below' h).2.choose_spec.1 t _ hT) (fun e w' h => h.two) (fun w' vb vr' h hc hv hw => ?_)
  refine toNumber_g (tx a i u) a i u hv (fun w2 h2 => parse_w ht a i u hn sx hu w2 (bel3 q.bel h h2)) (fun w2 h2 => ?_) (fun e w' h => h.two)
  have h12 := h.trans (h2.mono h.size)
  cases a with
  | true =>
    refine boxNum_i i u (fun w4 h4 => ?_) (fun e w' h => h.two)
    have h14 := h12.trans (h4.mono h12.size)
    refine (boxI (q.below' h14) vr' _ (words_below hw (h2.trans (h4.mono h2.size))) i hn.1.1 (by have := hn.1.2; omega) hf hH).mono (fun e w5 h5 => BPost.map (fun H' w hw h => ?_) (h5.on h14))
    have hu0 : u = 0 := by rcases sx with ⟨_, h⟩ | ⟨h, _⟩
                           · exact h
                           · cases h
    exact .inl ⟨rfl, hu0, h, hn.1.1, hn.1.2⟩
  | false =>
    refine boxNum_f i u (fun w4 h4 => ?_) (fun e w' h => h.two)
    have h14 := h12.trans (h4.mono h12.size)
    refine (boxF (q.below' h14) vr' u hn.2.1 hn.2.2).mono (fun e w5 h5 => BPost.map (fun H' w hw h => ?_) (h5.on h14))
    have hi0 : i = 0 := by rcases sx with ⟨h, _⟩ | ⟨_, h⟩
                           · cases h
                           · exact h
    exact .inr ⟨rfl, hi0, by rw [h, hu], hc1 rfl, hw⟩
theorem bin_bits (q : Hf W0 W hb H u' K) (x wb : Nat) (t : Int) (ht : IntKind.i64.wrap (x : Int) = t) (t0 : -9223372036854775808 ≤ t) (t1 : t ≤ 9223372036854775807) (hx : IsNum H x false 0 (x : Int)) (hw0 : W.cell? ⟨wb, 0, none⟩ = some (.int .u64 (x : Nat))) (vr : Value) (rs : List Nat) (hr : WordsAt W vr rs) (hl : rs.length ≤ 999000) (hf : sumH H + 2 ≤ u') (hH : H.length ≤ 1000000) :
    Calls Tryz.prog 6 #[.pointer (some ⟨hb, 0, none⟩), .string ⟨#[98, 105, 116, 115]⟩, .slice (some ⟨wb, 0, none⟩) 1 1, vr] W (BPost W0 W hb H u' K (fun H' w => IsInt H' w t) (nI t)) := by
  refine Builtin_1 W hb _ x wb _ eg_pattern vr rs hr hl 3 0 x 0 ⟨#[]⟩ hx.lt hw0 find_bits (fun w' h => unbox_n (q.below' h).2.choose_spec.1 x false 0 x hx) (fun e w' h => h.two) (fun w' vb vr' h hc hv hw => ?_)
  exact pattern_g x t ht hv (fun w2 h2 => (boxI (q.below' (h.trans (h2.mono h.size))) vr' _ (words_below hw h2) t t0 t1 hf hH).mono (fun e w3 h3 => h3.on (h.trans (h2.mono h.size)))) (fun e w' h => h.two)
theorem bin_bits_no (q : Hf W0 W hb H u' K) (x wb : Nat) (i : Int) (hx : IsInt H x i) (hw0 : W.cell? ⟨wb, 0, none⟩ = some (.int .u64 (x : Nat))) (vr : Value) (rs : List Nat) (hr : WordsAt W vr rs) (hl : rs.length ≤ 999000) :
    Calls Tryz.prog 6 #[.pointer (some ⟨hb, 0, none⟩), .string ⟨#[98, 105, 116, 115]⟩, .slice (some ⟨wb, 0, none⟩) 1 1, vr] W fun e w' => e = .returned (.tuple #[.int .u64 0, .int .i64 51]) ∧ Below W.heap.size W w' := by
  refine Builtin_1 W hb _ x wb _ eg_pattern vr rs hr hl 2 i 0 0 ⟨#[]⟩ (IsInt.lt hx) hw0 find_bits (fun w' h => unbox_int (q.below' h).2.choose_spec.1 x i hx) (by rintro e w' ⟨rfl, _⟩; exact ⟨_, _, rfl⟩) (fun w' vb vr' h hc hv hw => ?_)
  refine (pattern_no i hv).mono ?_
  rintro e w3 ⟨rfl, h3⟩
  exact ⟨rfl, h.trans (h3.mono h.size)⟩
theorem bin_from (q : Hf W0 W hb H u' K) (b wb : Nat) (t x : Int) (x0 : 0 ≤ x) (x1 : x < 18446744073709551616) (ht : IntKind.u64.wrap t = x) (hx : IsInt H b t) (hw0 : W.cell? ⟨wb, 0, none⟩ = some (.int .u64 (b : Nat))) (vr : Value) (rs : List Nat) (hr : WordsAt W vr rs) (hl : rs.length ≤ 999000) :
    Calls Tryz.prog 6 #[.pointer (some ⟨hb, 0, none⟩), .string ⟨#[102, 114, 111, 109, 98, 105, 116, 115]⟩, .slice (some ⟨wb, 0, none⟩) 1 1, vr] W fun e w' => e = .returned (.tuple #[.int .u64 (Go.Proofs.YtgkakflnmpoadaaGreatDoor.W.fltW x), .int .i64 0]) ∧ Below W.heap.size W w' := by
  refine Builtin_1 W hb _ b wb _ eg_fromPattern vr rs hr hl 2 t 0 0 ⟨#[]⟩ (IsInt.lt hx) hw0 find_frombits (fun w' h => unbox_int (q.below' h).2.choose_spec.1 b t hx) (by rintro e w' ⟨rfl, _⟩; exact ⟨_, _, rfl⟩) (fun w' vb vr' h hc hv hw => ?_)
  refine (fromPattern_g t x x0 x1 ht hv).mono ?_
  rintro e w3 ⟨rfl, h3⟩
  exact ⟨rfl, h.trans (h3.mono h.size)⟩
/-- a word is put behind one, in a new row -/
theorem app2k (W : World) (rb x p : Nat) (ty : TypeId) (r0 : W.cell? ⟨rb, 0, none⟩ = some (.int .u64 (x : Nat))) (lx : x < 18446744073709551616) (lp : p < 18446744073709551616) :
    ∃ (g cap : Nat) (w' : World), (Builtin.append_ #[31, 31] ty #[.slice (some ⟨rb, 0, none⟩) 1 1, .slice (some ⟨W.heap.size, 0, none⟩) 1 1]).run Tryz.prog (W.alloc (.cells #[.int .u64 (p : Nat)] 22)) = .ok (.slice (some ⟨g, 0, none⟩) 2 cap) w' ∧ Below W.heap.size W w' ∧ WordsAt w' (.slice (some ⟨g, 0, none⟩) 2 cap) [x, p] := by
  obtain ⟨i0, hi, hz0, hz1, hz2⟩ := info_parts infoW
  have hB1 : Below W.heap.size W (W.alloc (.cells #[.int .u64 (p : Nat)] 22)) := (Below.refl _ W).alloc (Nat.le_refl _) _
  have e0 := World.cell?_alloc_new W #[.int .u64 (p : Nat)] 22 0
  have k0 := cell_keep hB1 r0
  generalize W.alloc (.cells #[.int .u64 (p : Nat)] 22) = V at *
  have ad : ∀ (b j : Nat), ((⟨b, 0, none⟩ : Addr).add j) = ⟨b, j, none⟩ := fun b j => by unfold Addr.add; split <;> simp_all
  have hr := run_append_grow_src (P := Tryz.prog) V 31 31 ty 22 i0 (.int .u64 0) underW hi hz0 (some ⟨rb, 0, none⟩) 1 1 [.int .u64 (x : Nat)] (run_firstCells_some V.drew i0.size 1 ⟨rb, 0, none⟩ 1 1 _ (by rw [hz1]; rfl) (by
      intro j u hj
      rw [ad]
      have hj2 : j < 1 := (List.getElem?_eq_some_iff.1 hj).1
      have : j = 0 := by omega
      subst this
      cases hj; exact k0)) (.slice (some ⟨W.heap.size, 0, none⟩) 1 1) 1 [.int .u64 (p : Nat)] (Src.ofSlice V underW ⟨W.heap.size, 0, none⟩ 1 1 [.int .u64 (p : Nat)] (by rw [hz1]; rfl) (by
      intro j u hj
      rw [ad]
      have : j = 0 := by have := (List.getElem?_eq_some_iff.1 hj).1; simp at this; exact this
      subst this
      cases hj
      exact e0) (by intro u hu; simp at hu; rw [hu]; rfl)) (by decide) (by decide) (by rw [hz2]; decide)
  refine ⟨_, _, _, hr, ?_, ?_⟩
  · have h2 : Below W.heap.size W V.drew := hB1.drew
    exact h2.alloc h2.size _
  · refine ⟨_, _, rfl, by simp, fun z hz => by simp at hz; rcases hz with rfl | rfl <;> assumption, fun j hj => ⟨_, rfl, ?_⟩⟩
    rw [ad]
    have hh := World.cell?_alloc_new V.drew (([Value.int .u64 (x : Nat)] ++ [Value.int .u64 (p : Nat)]).toArray ++ Builtin.zeroCells (Value.int .u64 0).cells (grownCap V (1 + 1) 1 22 - (1 + 1))) 22 j
    have e1 : V.drew.heap.size = V.heap.size := rfl
    rw [e1] at hh
    rw [hh, Array.getElem?_append_left (by simp at hj ⊢; omega)]
    have : j = 0 ∨ j = 1 := by simp at hj; omega
    rcases this with rfl | rfl <;> rfl
end
end Go.Proofs.YtgkakflnmpoadaaGreatDoor.W.Nu
