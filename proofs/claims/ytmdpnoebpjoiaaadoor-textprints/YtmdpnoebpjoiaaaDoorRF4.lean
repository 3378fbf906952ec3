/- Contract of the reference: what is printed of a double. -/
import Derived.Test.YtmdpnoebpjoiaaaDoorRP4
namespace Go.Proofs.YtmdpnoebpjoiaaaDoor.W
open Go.ChangeShapes Go.WideShapes Go.RowKit
theorem str_len2 (l : List UInt8) : (⟨l.toArray⟩ : ByteArray).size = l.length := by rw [← size_list]
theorem res_eq (O Tl RES : List UInt8) (F : Nat) (pw : Int) (hres : RES = O ++ fracTx F ++ [112] ++ powTx pw) (hT : Tl = (if F = 0 then O else O ++ [46]) ++ fracL 13 F) :
    (pw < 0 → RES = (Tl ++ [112, 45]) ++ decL pw.natAbs) ∧ (¬ pw < 0 → RES = (Tl ++ [112, 43]) ++ decL pw.natAbs) := by
  have e : O ++ fracTx F = Tl := by
    rw [hT]
    unfold fracTx
    by_cases h : F = 0
    · rw [if_pos h, if_pos h, h]; rfl
    · rw [if_neg h, if_neg h]; simp
  rw [e] at hres
  constructor
  · intro h
    rw [hres]; unfold powTx; rw [if_pos h]; simp
  · intro h
    rw [hres]; unfold powTx; rw [if_neg h]; simp
set_option maxRecDepth 100000 in
set_option maxHeartbeats 2000000 in
theorem refFloat_plusNorm (z pw : Int) (F : Nat) (RES : List UInt8) (w : World) (hF : F < 4503599627370496) (p0 : -1074 ≤ pw) (p1 : pw ≤ 1023) (z0 : 0 < z) (z1 : z < 9218868437227405312)  (hq : z / 4503599627370496 - 1023 = pw) (hq2 : (pw == -1023) = false) (hm : z % 4503599627370496 = (F : Int))
    (cn : ∀ w, Calls Tryd.prog 22 #[.int .u64 z] w fun e w' => e = .returned (.bool false) ∧ w' = w) (hres : RES = [48, 120, 49] ++ fracTx F ++ [112] ++ powTx pw) :
    Calls Tryd.prog 12 #[.int .u64 z] w fun e w' => e = .returned (.string ⟨RES.toArray⟩) ∧ Below w.heap.size w w' := by
  have HRES := hid hres
  clear hres
  have q1 : (z == 9218868437227405312) = false := by rw [beq_eq_false_iff_ne]; omega
  have q2 : (z == 0) = false := by rw [beq_eq_false_iff_ne]; omega
  have c1 := fun w => run_string_add_lists (P := Tryd.prog) w [] [48, 120, 49] (by decide) (by decide)
  have c2 := fun w => run_string_add_lists (P := Tryd.prog) w [48, 120, 49] [46] (by decide) (by decide)
  by_cases hF1 : F = 0
  · have BASE := hid (show (if F = 0 then ([48, 120, 49] : List UInt8) else [48, 120, 49] ++ [46]) = [48, 120, 49] by rw [if_pos hF1])
    have hF2 : ¬ 0 < (F : Int) := by omega
    go_enter Tryd.func12, Tryd.ntmps12
    go_wp2_with (first | (go_at_call 22; (with_reducible refine (cn _).mono ?_); rintro e wn ⟨rfl, hz⟩; (have hz' := hz.symm); subst hz'; clear hz))
    go_loopw [5, 6] (fun x tt wr => ∃ (f : Nat) (pre Tl : List UInt8), x = .int .u64 f ∧ tt = .string ⟨Tl.toArray⟩ ∧ Tl = [48, 120, 49] ++ pre ∧ Left F pre f ∧ Below w.heap.size w wr) (fun _ tt _ => 100 - strLen tt)
    case atStart => exact ⟨F, [], [48, 120, 49], by first | rfl | go_num, rfl, rfl, Left.start F hF, Below.refl _ _⟩
    case round =>
      obtain ⟨f, pre, Tl, rfl, rfl, hT, hl, hb⟩ := hrel
      obtain ⟨l1, l2⟩ := hl.lt
      have lT : Tl.length = ([48, 120, 49] : List UInt8).length + pre.length := by rw [hT, List.length_append]
      simp only [List.length_cons, List.length_nil] at lT
      by_cases hf : f = 0
      · subst hf
        have hd := hl.done
        have RE := hid (res_eq [48, 120, 49] Tl RES F pw HRES.out (by rw [hd, hT, BASE.out]))
        clear hl hd hT
        by_cases hp : pw < 0
        · have H := hid (RE.out.1 hp)
          have c5 := fun w => run_string_add_lists (P := Tryd.prog) w Tl [112, 45] (by omega) (by decide)
          have dl := decL_length pw.natAbs 4 (by omega) (by omega)
          have c6 := fun w => run_string_add_lists (P := Tryd.prog) w (Tl ++ [112, 45]) (decL pw.natAbs) (by rw [List.length_append]; simp; omega) (by omega)
          have en : -pw = ((pw.natAbs : Nat) : Int) := by omega
          have cz := fun w => refSize_c pw.natAbs (by omega) w
          rw [← en] at cz
          generalize Tl ++ [112, 45] = T5 at *
          generalize T5 ++ decL pw.natAbs = T6 at *
          generalize decL pw.natAbs = DD at *
          clear en dl lT RE
          go_wp2_with (first | (go_at_call 25; (with_reducible refine (cz _).mono ?_); rintro e wn ⟨rfl, hbn⟩))
          go_ret
          exact ⟨ret_s H.out.symm, bel_trans hb hbn⟩
        · have H := hid (RE.out.2 hp)
          have c5 := fun w => run_string_add_lists (P := Tryd.prog) w Tl [112, 43] (by omega) (by decide)
          have dl := decL_length pw.natAbs 4 (by omega) (by omega)
          have c6 := fun w => run_string_add_lists (P := Tryd.prog) w (Tl ++ [112, 43]) (decL pw.natAbs) (by rw [List.length_append]; simp; omega) (by omega)
          have en : pw = ((pw.natAbs : Nat) : Int) := by omega
          have cz := fun w => refSize_c pw.natAbs (by omega) w
          rw [← en] at cz
          generalize Tl ++ [112, 43] = T5 at *
          generalize T5 ++ decL pw.natAbs = T6 at *
          generalize decL pw.natAbs = DD at *
          clear en dl lT RE
          go_wp2_with (first | (go_at_call 25; (with_reducible refine (cz _).mono ?_); rintro e wn ⟨rfl, hbn⟩))
          go_ret
          exact ⟨ret_s H.out.symm, bel_trans hb hbn⟩
      · obtain ⟨hstep, hpl⟩ := hl.step hf
        have hi0 : (f : Int) / 281474976710656 = ((f / 281474976710656 : Nat) : Int) := by omega
        have hrr : (f : Int) % 281474976710656 * 16 = ((f % 281474976710656 * 16 : Nat) : Int) := by omega
        have hd16 : f / 281474976710656 < 16 := by omega
        have l1' : (f : Int) < 4503599627370496 := by omega
        have f0 : (0 : Int) ≤ (f : Int) := by omega
        have f1 : (0 : Int) < (f : Int) := by omega
        have hmm := hid (show 0 ≤ (f : Int) % 281474976710656 ∧ (f : Int) % 281474976710656 < 281474976710656 by omega)
        generalize f / 281474976710656 = d at *
        have hx := hex_index d hd16
        generalize hexd d = c at *
        generalize f % 281474976710656 * 16 = r at *
        generalize (f : Int) = F' at *
        have kc := fun wr => conv_one wr c
        have cc := fun w => run_string_add_lists (P := Tryd.prog) w Tl [c] (by omega) (by simp)
        have HT := hid (show Tl ++ [c] = [48, 120, 49] ++ (pre ++ [c]) by rw [hT, List.append_assoc])
        have HL := hid hstep
        have LT := hid lT
        clear hT hstep hl hf lT
        go_wp2_with fail
        go_roundw
        case rel => exact ⟨r, pre ++ [c], Tl ++ [c], by go_num, rfl, HT.out, HL.out, hb.alloc hb.size _⟩
        case measure =>
          show 100 - strLen (.string ⟨(Tl ++ [c]).toArray⟩) < 100 - strLen (.string ⟨Tl.toArray⟩)
          have := LT.out
          simp only [strLen, str_len2, List.length_append, List.length_cons, List.length_nil]
          omega
  · have BASE := hid (show (if F = 0 then ([48, 120, 49] : List UInt8) else [48, 120, 49] ++ [46]) = [48, 120, 49, 46] by rw [if_neg hF1]; rfl)
    have hF2 : 0 < (F : Int) := by omega
    go_enter Tryd.func12, Tryd.ntmps12
    go_wp2_with (first | (go_at_call 22; (with_reducible refine (cn _).mono ?_); rintro e wn ⟨rfl, hz⟩; (have hz' := hz.symm); subst hz'; clear hz))
    go_loopw [5, 6] (fun x tt wr => ∃ (f : Nat) (pre Tl : List UInt8), x = .int .u64 f ∧ tt = .string ⟨Tl.toArray⟩ ∧ Tl = [48, 120, 49, 46] ++ pre ∧ Left F pre f ∧ Below w.heap.size w wr) (fun _ tt _ => 100 - strLen tt)
    case atStart => exact ⟨F, [], [48, 120, 49, 46], by first | rfl | go_num, rfl, rfl, Left.start F hF, Below.refl _ _⟩
    case round =>
      obtain ⟨f, pre, Tl, rfl, rfl, hT, hl, hb⟩ := hrel
      obtain ⟨l1, l2⟩ := hl.lt
      have lT : Tl.length = ([48, 120, 49, 46] : List UInt8).length + pre.length := by rw [hT, List.length_append]
      simp only [List.length_cons, List.length_nil] at lT
      by_cases hf : f = 0
      · subst hf
        have hd := hl.done
        have RE := hid (res_eq [48, 120, 49] Tl RES F pw HRES.out (by rw [hd, hT, BASE.out]))
        clear hl hd hT
        by_cases hp : pw < 0
        · have H := hid (RE.out.1 hp)
          have c5 := fun w => run_string_add_lists (P := Tryd.prog) w Tl [112, 45] (by omega) (by decide)
          have dl := decL_length pw.natAbs 4 (by omega) (by omega)
          have c6 := fun w => run_string_add_lists (P := Tryd.prog) w (Tl ++ [112, 45]) (decL pw.natAbs) (by rw [List.length_append]; simp; omega) (by omega)
          have en : -pw = ((pw.natAbs : Nat) : Int) := by omega
          have cz := fun w => refSize_c pw.natAbs (by omega) w
          rw [← en] at cz
          generalize Tl ++ [112, 45] = T5 at *
          generalize T5 ++ decL pw.natAbs = T6 at *
          generalize decL pw.natAbs = DD at *
          clear en dl lT RE
          go_wp2_with (first | (go_at_call 25; (with_reducible refine (cz _).mono ?_); rintro e wn ⟨rfl, hbn⟩))
          go_ret
          exact ⟨ret_s H.out.symm, bel_trans hb hbn⟩
        · have H := hid (RE.out.2 hp)
          have c5 := fun w => run_string_add_lists (P := Tryd.prog) w Tl [112, 43] (by omega) (by decide)
          have dl := decL_length pw.natAbs 4 (by omega) (by omega)
          have c6 := fun w => run_string_add_lists (P := Tryd.prog) w (Tl ++ [112, 43]) (decL pw.natAbs) (by rw [List.length_append]; simp; omega) (by omega)
          have en : pw = ((pw.natAbs : Nat) : Int) := by omega
          have cz := fun w => refSize_c pw.natAbs (by omega) w
          rw [← en] at cz
          generalize Tl ++ [112, 43] = T5 at *
          generalize T5 ++ decL pw.natAbs = T6 at *
          generalize decL pw.natAbs = DD at *
          clear en dl lT RE
          go_wp2_with (first | (go_at_call 25; (with_reducible refine (cz _).mono ?_); rintro e wn ⟨rfl, hbn⟩))
          go_ret
          exact ⟨ret_s H.out.symm, bel_trans hb hbn⟩
      · obtain ⟨hstep, hpl⟩ := hl.step hf
        have hi0 : (f : Int) / 281474976710656 = ((f / 281474976710656 : Nat) : Int) := by omega
        have hrr : (f : Int) % 281474976710656 * 16 = ((f % 281474976710656 * 16 : Nat) : Int) := by omega
        have hd16 : f / 281474976710656 < 16 := by omega
        have l1' : (f : Int) < 4503599627370496 := by omega
        have f0 : (0 : Int) ≤ (f : Int) := by omega
        have f1 : (0 : Int) < (f : Int) := by omega
        have hmm := hid (show 0 ≤ (f : Int) % 281474976710656 ∧ (f : Int) % 281474976710656 < 281474976710656 by omega)
        generalize f / 281474976710656 = d at *
        have hx := hex_index d hd16
        generalize hexd d = c at *
        generalize f % 281474976710656 * 16 = r at *
        generalize (f : Int) = F' at *
        have kc := fun wr => conv_one wr c
        have cc := fun w => run_string_add_lists (P := Tryd.prog) w Tl [c] (by omega) (by simp)
        have HT := hid (show Tl ++ [c] = [48, 120, 49, 46] ++ (pre ++ [c]) by rw [hT, List.append_assoc])
        have HL := hid hstep
        have LT := hid lT
        clear hT hstep hl hf lT
        go_wp2_with fail
        go_roundw
        case rel => exact ⟨r, pre ++ [c], Tl ++ [c], by go_num, rfl, HT.out, HL.out, hb.alloc hb.size _⟩
        case measure =>
          show 100 - strLen (.string ⟨(Tl ++ [c]).toArray⟩) < 100 - strLen (.string ⟨Tl.toArray⟩)
          have := LT.out
          simp only [strLen, str_len2, List.length_append, List.length_cons, List.length_nil]
          omega
set_option maxRecDepth 100000 in
set_option maxHeartbeats 2000000 in
theorem refFloat_plusSmall (z pw : Int) (F : Nat) (RES : List UInt8) (w : World) (hF : F < 4503599627370496) (p0 : -1074 ≤ pw) (p1 : pw ≤ 1023) (z0 : 0 < z) (z1 : z < 9218868437227405312)  (n lg : Nat) (hzn : z = (n : Int)) (hn0 : n ≠ 0) (hn1 : n < 4503599627370496) (hlg : n.log2 = lg) (hF0 : n * 2 ^ (52 - lg) = F + 4503599627370496) (hpw : (lg : Int) - 1074 = pw)
    (cn : ∀ w, Calls Tryd.prog 22 #[.int .u64 z] w fun e w' => e = .returned (.bool false) ∧ w' = w) (hres : RES = [48, 120, 49] ++ fracTx F ++ [112] ++ powTx pw) :
    Calls Tryd.prog 12 #[.int .u64 z] w fun e w' => e = .returned (.string ⟨RES.toArray⟩) ∧ Below w.heap.size w w' := by
  have HRES := hid hres
  clear hres
  have q1 : (z == 9218868437227405312) = false := by rw [beq_eq_false_iff_ne]; omega
  have q2 : (z == 0) = false := by rw [beq_eq_false_iff_ne]; omega
  have c1 := fun w => run_string_add_lists (P := Tryd.prog) w [] [48, 120, 49] (by decide) (by decide)
  have c2 := fun w => run_string_add_lists (P := Tryd.prog) w [48, 120, 49] [46] (by decide) (by decide)
  have m1 : z % 4503599627370496 = z := by omega
  have m2 : z / 4503599627370496 = 0 := by omega
  have HZ := hid hzn
  have HF0 := hid hF0
  have HPW := hid hpw
  have HN1 := hid (show n ≠ 0 ∧ n < 4503599627370496 ∧ n.log2 = lg ∧ lg ≤ 51 from ⟨hn0, hn1, hlg, by rw [← hlg]; exact (shl_log (n : Int) (by omega) (by omega)).1⟩)
  have HF := hid hF
  clear hzn hF0 hpw hn0 hn1 hlg hF
  go_enter Tryd.func12, Tryd.ntmps12
  go_wp2_with (first | (go_at_call 22; (with_reducible refine (cn _).mono ?_); rintro e wn ⟨rfl, hz⟩; (have hz' := hz.symm); subst hz'; clear hz))
  go_loop [4, 5] (fun e f => ∃ (k : Nat) (y : Int), k ≤ 52 - lg ∧ e = .int .i64 (-1022 - (k : Int)) ∧ f = .int .u64 y ∧ y = ((n * 2 ^ k : Nat) : Int)) (fun e _ => (intOf e + 1074).toNat)
  case atStart => exact ⟨0, _, Nat.zero_le _, rfl, rfl, by have := HZ.out; omega⟩
  case round =>
    obtain ⟨k, y, hk, rfl, rfl, hy⟩ := hrel
    have HY := hid hy
    have B := hid (dbl_lt n k HN1.out.1 HN1.out.2.1 (by rw [HN1.out.2.2.1]; exact hk))
    have LG := HN1.out.2.2.1
    rw [LG] at B
    have y0 : 0 ≤ y := by omega
    have y1 : y < 9007199254740992 := by have := B.out.2; omega
    by_cases hlt : k < 52 - lg
    · have b3 : y < 4503599627370496 := by have := B.out.1.2 hlt; omega
      have HN := hid (show ((n * 2 ^ (k + 1) : Nat) : Int) = 2 * y by rw [hy, Nat.pow_succ, ← Nat.mul_assoc]; omega)
      have k52 : (k : Int) < 52 := by omega
      have HK := hid hlt
      clear LG hy hlt
      go_wp2_with fail
      go_round
      case rel => exact ⟨k + 1, 2 * y, HK.out, by go_num, by go_num, HN.out.symm⟩
      case measure => simp [intOf]; omega
    · have hkl : k = 52 - lg := by omega
      have b3 : ¬ y < 4503599627370496 := by
        intro h
        exact hlt (B.out.1.1 (by omega))
      have e1 : y - 4503599627370496 = (F : Int) := by have := HF0.out; rw [hy, hkl]; omega
      have e2 : -1022 - (k : Int) = pw := by have := HPW.out; have := HN1.out.2.2.2; omega
      rw [e2]
      clear LG hy hlt hk hkl
      have hF := HF.out
      by_cases hF1 : F = 0
      · have BASE := hid (show (if F = 0 then ([48, 120, 49] : List UInt8) else [48, 120, 49] ++ [46]) = [48, 120, 49] by rw [if_pos hF1])
        have hF2 : ¬ 0 < (F : Int) := by omega
        go_wp2_with fail
        go_loopw [5, 6] (fun x tt wr => ∃ (f : Nat) (pre Tl : List UInt8), x = .int .u64 f ∧ tt = .string ⟨Tl.toArray⟩ ∧ Tl = [48, 120, 49] ++ pre ∧ Left F pre f ∧ Below w.heap.size w wr) (fun _ tt _ => 100 - strLen tt)
        case atStart => exact ⟨F, [], [48, 120, 49], by first | rfl | go_num, rfl, rfl, Left.start F hF, Below.refl _ _⟩
        case round =>
          obtain ⟨f, pre, Tl, rfl, rfl, hT, hl, hb⟩ := hrel
          obtain ⟨l1, l2⟩ := hl.lt
          have lT : Tl.length = ([48, 120, 49] : List UInt8).length + pre.length := by rw [hT, List.length_append]
          simp only [List.length_cons, List.length_nil] at lT
          by_cases hf : f = 0
          · subst hf
            have hd := hl.done
            have RE := hid (res_eq [48, 120, 49] Tl RES F pw HRES.out (by rw [hd, hT, BASE.out]))
            clear hl hd hT
            by_cases hp : pw < 0
            · have H := hid (RE.out.1 hp)
              have c5 := fun w => run_string_add_lists (P := Tryd.prog) w Tl [112, 45] (by omega) (by decide)
              have dl := decL_length pw.natAbs 4 (by omega) (by omega)
              have c6 := fun w => run_string_add_lists (P := Tryd.prog) w (Tl ++ [112, 45]) (decL pw.natAbs) (by rw [List.length_append]; simp; omega) (by omega)
              have en : -pw = ((pw.natAbs : Nat) : Int) := by omega
              have cz := fun w => refSize_c pw.natAbs (by omega) w
              rw [← en] at cz
              generalize Tl ++ [112, 45] = T5 at *
              generalize T5 ++ decL pw.natAbs = T6 at *
              generalize decL pw.natAbs = DD at *
              clear en dl lT RE
              go_wp2_with (first | (go_at_call 25; (with_reducible refine (cz _).mono ?_); rintro e wn ⟨rfl, hbn⟩))
              go_ret
              exact ⟨ret_s H.out.symm, bel_trans hb hbn⟩
            · have H := hid (RE.out.2 hp)
              have c5 := fun w => run_string_add_lists (P := Tryd.prog) w Tl [112, 43] (by omega) (by decide)
              have dl := decL_length pw.natAbs 4 (by omega) (by omega)
              have c6 := fun w => run_string_add_lists (P := Tryd.prog) w (Tl ++ [112, 43]) (decL pw.natAbs) (by rw [List.length_append]; simp; omega) (by omega)
              have en : pw = ((pw.natAbs : Nat) : Int) := by omega
              have cz := fun w => refSize_c pw.natAbs (by omega) w
              rw [← en] at cz
              generalize Tl ++ [112, 43] = T5 at *
              generalize T5 ++ decL pw.natAbs = T6 at *
              generalize decL pw.natAbs = DD at *
              clear en dl lT RE
              go_wp2_with (first | (go_at_call 25; (with_reducible refine (cz _).mono ?_); rintro e wn ⟨rfl, hbn⟩))
              go_ret
              exact ⟨ret_s H.out.symm, bel_trans hb hbn⟩
          · obtain ⟨hstep, hpl⟩ := hl.step hf
            have hi0 : (f : Int) / 281474976710656 = ((f / 281474976710656 : Nat) : Int) := by omega
            have hrr : (f : Int) % 281474976710656 * 16 = ((f % 281474976710656 * 16 : Nat) : Int) := by omega
            have hd16 : f / 281474976710656 < 16 := by omega
            have l1' : (f : Int) < 4503599627370496 := by omega
            have f0 : (0 : Int) ≤ (f : Int) := by omega
            have f1 : (0 : Int) < (f : Int) := by omega
            have hmm := hid (show 0 ≤ (f : Int) % 281474976710656 ∧ (f : Int) % 281474976710656 < 281474976710656 by omega)
            generalize f / 281474976710656 = d at *
            have hx := hex_index d hd16
            generalize hexd d = c at *
            generalize f % 281474976710656 * 16 = r at *
            generalize (f : Int) = F' at *
            have kc := fun wr => conv_one wr c
            have cc := fun w => run_string_add_lists (P := Tryd.prog) w Tl [c] (by omega) (by simp)
            have HT := hid (show Tl ++ [c] = [48, 120, 49] ++ (pre ++ [c]) by rw [hT, List.append_assoc])
            have HL := hid hstep
            have LT := hid lT
            clear hT hstep hl hf lT
            go_wp2_with fail
            go_roundw
            case rel => exact ⟨r, pre ++ [c], Tl ++ [c], by go_num, rfl, HT.out, HL.out, hb.alloc hb.size _⟩
            case measure =>
              show 100 - strLen (.string ⟨(Tl ++ [c]).toArray⟩) < 100 - strLen (.string ⟨Tl.toArray⟩)
              have := LT.out
              simp only [strLen, str_len2, List.length_append, List.length_cons, List.length_nil]
              omega
      · have BASE := hid (show (if F = 0 then ([48, 120, 49] : List UInt8) else [48, 120, 49] ++ [46]) = [48, 120, 49, 46] by rw [if_neg hF1]; rfl)
        have hF2 : 0 < (F : Int) := by omega
        go_wp2_with fail
        go_loopw [5, 6] (fun x tt wr => ∃ (f : Nat) (pre Tl : List UInt8), x = .int .u64 f ∧ tt = .string ⟨Tl.toArray⟩ ∧ Tl = [48, 120, 49, 46] ++ pre ∧ Left F pre f ∧ Below w.heap.size w wr) (fun _ tt _ => 100 - strLen tt)
        case atStart => exact ⟨F, [], [48, 120, 49, 46], by first | rfl | go_num, rfl, rfl, Left.start F hF, Below.refl _ _⟩
        case round =>
          obtain ⟨f, pre, Tl, rfl, rfl, hT, hl, hb⟩ := hrel
          obtain ⟨l1, l2⟩ := hl.lt
          have lT : Tl.length = ([48, 120, 49, 46] : List UInt8).length + pre.length := by rw [hT, List.length_append]
          simp only [List.length_cons, List.length_nil] at lT
          by_cases hf : f = 0
          · subst hf
            have hd := hl.done
            have RE := hid (res_eq [48, 120, 49] Tl RES F pw HRES.out (by rw [hd, hT, BASE.out]))
            clear hl hd hT
            by_cases hp : pw < 0
            · have H := hid (RE.out.1 hp)
              have c5 := fun w => run_string_add_lists (P := Tryd.prog) w Tl [112, 45] (by omega) (by decide)
              have dl := decL_length pw.natAbs 4 (by omega) (by omega)
              have c6 := fun w => run_string_add_lists (P := Tryd.prog) w (Tl ++ [112, 45]) (decL pw.natAbs) (by rw [List.length_append]; simp; omega) (by omega)
              have en : -pw = ((pw.natAbs : Nat) : Int) := by omega
              have cz := fun w => refSize_c pw.natAbs (by omega) w
              rw [← en] at cz
              generalize Tl ++ [112, 45] = T5 at *
              generalize T5 ++ decL pw.natAbs = T6 at *
              generalize decL pw.natAbs = DD at *
              clear en dl lT RE
              go_wp2_with (first | (go_at_call 25; (with_reducible refine (cz _).mono ?_); rintro e wn ⟨rfl, hbn⟩))
              go_ret
              exact ⟨ret_s H.out.symm, bel_trans hb hbn⟩
            · have H := hid (RE.out.2 hp)
              have c5 := fun w => run_string_add_lists (P := Tryd.prog) w Tl [112, 43] (by omega) (by decide)
              have dl := decL_length pw.natAbs 4 (by omega) (by omega)
              have c6 := fun w => run_string_add_lists (P := Tryd.prog) w (Tl ++ [112, 43]) (decL pw.natAbs) (by rw [List.length_append]; simp; omega) (by omega)
              have en : pw = ((pw.natAbs : Nat) : Int) := by omega
              have cz := fun w => refSize_c pw.natAbs (by omega) w
              rw [← en] at cz
              generalize Tl ++ [112, 43] = T5 at *
              generalize T5 ++ decL pw.natAbs = T6 at *
              generalize decL pw.natAbs = DD at *
              clear en dl lT RE
              go_wp2_with (first | (go_at_call 25; (with_reducible refine (cz _).mono ?_); rintro e wn ⟨rfl, hbn⟩))
              go_ret
              exact ⟨ret_s H.out.symm, bel_trans hb hbn⟩
          · obtain ⟨hstep, hpl⟩ := hl.step hf
            have hi0 : (f : Int) / 281474976710656 = ((f / 281474976710656 : Nat) : Int) := by omega
            have hrr : (f : Int) % 281474976710656 * 16 = ((f % 281474976710656 * 16 : Nat) : Int) := by omega
            have hd16 : f / 281474976710656 < 16 := by omega
            have l1' : (f : Int) < 4503599627370496 := by omega
            have f0 : (0 : Int) ≤ (f : Int) := by omega
            have f1 : (0 : Int) < (f : Int) := by omega
            have hmm := hid (show 0 ≤ (f : Int) % 281474976710656 ∧ (f : Int) % 281474976710656 < 281474976710656 by omega)
            generalize f / 281474976710656 = d at *
            have hx := hex_index d hd16
            generalize hexd d = c at *
            generalize f % 281474976710656 * 16 = r at *
            generalize (f : Int) = F' at *
            have kc := fun wr => conv_one wr c
            have cc := fun w => run_string_add_lists (P := Tryd.prog) w Tl [c] (by omega) (by simp)
            have HT := hid (show Tl ++ [c] = [48, 120, 49, 46] ++ (pre ++ [c]) by rw [hT, List.append_assoc])
            have HL := hid hstep
            have LT := hid lT
            clear hT hstep hl hf lT
            go_wp2_with fail
            go_roundw
            case rel => exact ⟨r, pre ++ [c], Tl ++ [c], by go_num, rfl, HT.out, HL.out, hb.alloc hb.size _⟩
            case measure =>
              show 100 - strLen (.string ⟨(Tl ++ [c]).toArray⟩) < 100 - strLen (.string ⟨Tl.toArray⟩)
              have := LT.out
              simp only [strLen, str_len2, List.length_append, List.length_cons, List.length_nil]
              omega
set_option maxRecDepth 100000 in
set_option maxHeartbeats 2000000 in
theorem refFloat_minusNorm (z pw : Int) (F : Nat) (RES : List UInt8) (w : World) (hF : F < 4503599627370496) (p0 : -1074 ≤ pw) (p1 : pw ≤ 1023) (z0 : 0 < z) (z1 : z < 9218868437227405312) (u : Int) (hs : 9223372036854775808 ≤ u) (hz : u - 9223372036854775808 = z) (hq : z / 4503599627370496 - 1023 = pw) (hq2 : (pw == -1023) = false) (hm : z % 4503599627370496 = (F : Int))
    (cn : ∀ w, Calls Tryd.prog 22 #[.int .u64 u] w fun e w' => e = .returned (.bool false) ∧ w' = w) (hres : RES = [45, 48, 120, 49] ++ fracTx F ++ [112] ++ powTx pw) :
    Calls Tryd.prog 12 #[.int .u64 u] w fun e w' => e = .returned (.string ⟨RES.toArray⟩) ∧ Below w.heap.size w w' := by
  have HRES := hid hres
  clear hres
  have q1 : (z == 9218868437227405312) = false := by rw [beq_eq_false_iff_ne]; omega
  have q2 : (z == 0) = false := by rw [beq_eq_false_iff_ne]; omega
  have c1 := fun w => run_string_add_lists (P := Tryd.prog) w [45] [48, 120, 49] (by decide) (by decide)
  have c2 := fun w => run_string_add_lists (P := Tryd.prog) w [45, 48, 120, 49] [46] (by decide) (by decide)
  by_cases hF1 : F = 0
  · have BASE := hid (show (if F = 0 then ([45, 48, 120, 49] : List UInt8) else [45, 48, 120, 49] ++ [46]) = [45, 48, 120, 49] by rw [if_pos hF1])
    have hF2 : ¬ 0 < (F : Int) := by omega
    go_enter Tryd.func12, Tryd.ntmps12
    go_wp2_with (first | (go_at_call 22; (with_reducible refine (cn _).mono ?_); rintro e wn ⟨rfl, hz⟩; (have hz' := hz.symm); subst hz'; clear hz))
    go_loopw [5, 6] (fun x tt wr => ∃ (f : Nat) (pre Tl : List UInt8), x = .int .u64 f ∧ tt = .string ⟨Tl.toArray⟩ ∧ Tl = [45, 48, 120, 49] ++ pre ∧ Left F pre f ∧ Below w.heap.size w wr) (fun _ tt _ => 100 - strLen tt)
    case atStart => exact ⟨F, [], [45, 48, 120, 49], by first | rfl | go_num, rfl, rfl, Left.start F hF, Below.refl _ _⟩
    case round =>
      obtain ⟨f, pre, Tl, rfl, rfl, hT, hl, hb⟩ := hrel
      obtain ⟨l1, l2⟩ := hl.lt
      have lT : Tl.length = ([45, 48, 120, 49] : List UInt8).length + pre.length := by rw [hT, List.length_append]
      simp only [List.length_cons, List.length_nil] at lT
      by_cases hf : f = 0
      · subst hf
        have hd := hl.done
        have RE := hid (res_eq [45, 48, 120, 49] Tl RES F pw HRES.out (by rw [hd, hT, BASE.out]))
        clear hl hd hT
        by_cases hp : pw < 0
        · have H := hid (RE.out.1 hp)
          have c5 := fun w => run_string_add_lists (P := Tryd.prog) w Tl [112, 45] (by omega) (by decide)
          have dl := decL_length pw.natAbs 4 (by omega) (by omega)
          have c6 := fun w => run_string_add_lists (P := Tryd.prog) w (Tl ++ [112, 45]) (decL pw.natAbs) (by rw [List.length_append]; simp; omega) (by omega)
          have en : -pw = ((pw.natAbs : Nat) : Int) := by omega
          have cz := fun w => refSize_c pw.natAbs (by omega) w
          rw [← en] at cz
          generalize Tl ++ [112, 45] = T5 at *
          generalize T5 ++ decL pw.natAbs = T6 at *
          generalize decL pw.natAbs = DD at *
          clear en dl lT RE
          go_wp2_with (first | (go_at_call 25; (with_reducible refine (cz _).mono ?_); rintro e wn ⟨rfl, hbn⟩))
          go_ret
          exact ⟨ret_s H.out.symm, bel_trans hb hbn⟩
        · have H := hid (RE.out.2 hp)
          have c5 := fun w => run_string_add_lists (P := Tryd.prog) w Tl [112, 43] (by omega) (by decide)
          have dl := decL_length pw.natAbs 4 (by omega) (by omega)
          have c6 := fun w => run_string_add_lists (P := Tryd.prog) w (Tl ++ [112, 43]) (decL pw.natAbs) (by rw [List.length_append]; simp; omega) (by omega)
          have en : pw = ((pw.natAbs : Nat) : Int) := by omega
          have cz := fun w => refSize_c pw.natAbs (by omega) w
          rw [← en] at cz
          generalize Tl ++ [112, 43] = T5 at *
          generalize T5 ++ decL pw.natAbs = T6 at *
          generalize decL pw.natAbs = DD at *
          clear en dl lT RE
          go_wp2_with (first | (go_at_call 25; (with_reducible refine (cz _).mono ?_); rintro e wn ⟨rfl, hbn⟩))
          go_ret
          exact ⟨ret_s H.out.symm, bel_trans hb hbn⟩
      · obtain ⟨hstep, hpl⟩ := hl.step hf
        have hi0 : (f : Int) / 281474976710656 = ((f / 281474976710656 : Nat) : Int) := by omega
        have hrr : (f : Int) % 281474976710656 * 16 = ((f % 281474976710656 * 16 : Nat) : Int) := by omega
        have hd16 : f / 281474976710656 < 16 := by omega
        have l1' : (f : Int) < 4503599627370496 := by omega
        have f0 : (0 : Int) ≤ (f : Int) := by omega
        have f1 : (0 : Int) < (f : Int) := by omega
        have hmm := hid (show 0 ≤ (f : Int) % 281474976710656 ∧ (f : Int) % 281474976710656 < 281474976710656 by omega)
        generalize f / 281474976710656 = d at *
        have hx := hex_index d hd16
        generalize hexd d = c at *
        generalize f % 281474976710656 * 16 = r at *
        generalize (f : Int) = F' at *
        have kc := fun wr => conv_one wr c
        have cc := fun w => run_string_add_lists (P := Tryd.prog) w Tl [c] (by omega) (by simp)
        have HT := hid (show Tl ++ [c] = [45, 48, 120, 49] ++ (pre ++ [c]) by rw [hT, List.append_assoc])
        have HL := hid hstep
        have LT := hid lT
        clear hT hstep hl hf lT
        go_wp2_with fail
        go_roundw
        case rel => exact ⟨r, pre ++ [c], Tl ++ [c], by go_num, rfl, HT.out, HL.out, hb.alloc hb.size _⟩
        case measure =>
          show 100 - strLen (.string ⟨(Tl ++ [c]).toArray⟩) < 100 - strLen (.string ⟨Tl.toArray⟩)
          have := LT.out
          simp only [strLen, str_len2, List.length_append, List.length_cons, List.length_nil]
          omega
  · have BASE := hid (show (if F = 0 then ([45, 48, 120, 49] : List UInt8) else [45, 48, 120, 49] ++ [46]) = [45, 48, 120, 49, 46] by rw [if_neg hF1]; rfl)
    have hF2 : 0 < (F : Int) := by omega
    go_enter Tryd.func12, Tryd.ntmps12
    go_wp2_with (first | (go_at_call 22; (with_reducible refine (cn _).mono ?_); rintro e wn ⟨rfl, hz⟩; (have hz' := hz.symm); subst hz'; clear hz))
    go_loopw [5, 6] (fun x tt wr => ∃ (f : Nat) (pre Tl : List UInt8), x = .int .u64 f ∧ tt = .string ⟨Tl.toArray⟩ ∧ Tl = [45, 48, 120, 49, 46] ++ pre ∧ Left F pre f ∧ Below w.heap.size w wr) (fun _ tt _ => 100 - strLen tt)
    case atStart => exact ⟨F, [], [45, 48, 120, 49, 46], by first | rfl | go_num, rfl, rfl, Left.start F hF, Below.refl _ _⟩
    case round =>
      obtain ⟨f, pre, Tl, rfl, rfl, hT, hl, hb⟩ := hrel
      obtain ⟨l1, l2⟩ := hl.lt
      have lT : Tl.length = ([45, 48, 120, 49, 46] : List UInt8).length + pre.length := by rw [hT, List.length_append]
      simp only [List.length_cons, List.length_nil] at lT
      by_cases hf : f = 0
      · subst hf
        have hd := hl.done
        have RE := hid (res_eq [45, 48, 120, 49] Tl RES F pw HRES.out (by rw [hd, hT, BASE.out]))
        clear hl hd hT
        by_cases hp : pw < 0
        · have H := hid (RE.out.1 hp)
          have c5 := fun w => run_string_add_lists (P := Tryd.prog) w Tl [112, 45] (by omega) (by decide)
          have dl := decL_length pw.natAbs 4 (by omega) (by omega)
          have c6 := fun w => run_string_add_lists (P := Tryd.prog) w (Tl ++ [112, 45]) (decL pw.natAbs) (by rw [List.length_append]; simp; omega) (by omega)
          have en : -pw = ((pw.natAbs : Nat) : Int) := by omega
          have cz := fun w => refSize_c pw.natAbs (by omega) w
          rw [← en] at cz
          generalize Tl ++ [112, 45] = T5 at *
          generalize T5 ++ decL pw.natAbs = T6 at *
          generalize decL pw.natAbs = DD at *
          clear en dl lT RE
          go_wp2_with (first | (go_at_call 25; (with_reducible refine (cz _).mono ?_); rintro e wn ⟨rfl, hbn⟩))
          go_ret
          exact ⟨ret_s H.out.symm, bel_trans hb hbn⟩
        · have H := hid (RE.out.2 hp)
          have c5 := fun w => run_string_add_lists (P := Tryd.prog) w Tl [112, 43] (by omega) (by decide)
          have dl := decL_length pw.natAbs 4 (by omega) (by omega)
          have c6 := fun w => run_string_add_lists (P := Tryd.prog) w (Tl ++ [112, 43]) (decL pw.natAbs) (by rw [List.length_append]; simp; omega) (by omega)
          have en : pw = ((pw.natAbs : Nat) : Int) := by omega
          have cz := fun w => refSize_c pw.natAbs (by omega) w
          rw [← en] at cz
          generalize Tl ++ [112, 43] = T5 at *
          generalize T5 ++ decL pw.natAbs = T6 at *
          generalize decL pw.natAbs = DD at *
          clear en dl lT RE
          go_wp2_with (first | (go_at_call 25; (with_reducible refine (cz _).mono ?_); rintro e wn ⟨rfl, hbn⟩))
          go_ret
          exact ⟨ret_s H.out.symm, bel_trans hb hbn⟩
      · obtain ⟨hstep, hpl⟩ := hl.step hf
        have hi0 : (f : Int) / 281474976710656 = ((f / 281474976710656 : Nat) : Int) := by omega
        have hrr : (f : Int) % 281474976710656 * 16 = ((f % 281474976710656 * 16 : Nat) : Int) := by omega
        have hd16 : f / 281474976710656 < 16 := by omega
        have l1' : (f : Int) < 4503599627370496 := by omega
        have f0 : (0 : Int) ≤ (f : Int) := by omega
        have f1 : (0 : Int) < (f : Int) := by omega
        have hmm := hid (show 0 ≤ (f : Int) % 281474976710656 ∧ (f : Int) % 281474976710656 < 281474976710656 by omega)
        generalize f / 281474976710656 = d at *
        have hx := hex_index d hd16
        generalize hexd d = c at *
        generalize f % 281474976710656 * 16 = r at *
        generalize (f : Int) = F' at *
        have kc := fun wr => conv_one wr c
        have cc := fun w => run_string_add_lists (P := Tryd.prog) w Tl [c] (by omega) (by simp)
        have HT := hid (show Tl ++ [c] = [45, 48, 120, 49, 46] ++ (pre ++ [c]) by rw [hT, List.append_assoc])
        have HL := hid hstep
        have LT := hid lT
        clear hT hstep hl hf lT
        go_wp2_with fail
        go_roundw
        case rel => exact ⟨r, pre ++ [c], Tl ++ [c], by go_num, rfl, HT.out, HL.out, hb.alloc hb.size _⟩
        case measure =>
          show 100 - strLen (.string ⟨(Tl ++ [c]).toArray⟩) < 100 - strLen (.string ⟨Tl.toArray⟩)
          have := LT.out
          simp only [strLen, str_len2, List.length_append, List.length_cons, List.length_nil]
          omega
set_option maxRecDepth 100000 in
set_option maxHeartbeats 2000000 in
theorem refFloat_minusSmall (z pw : Int) (F : Nat) (RES : List UInt8) (w : World) (hF : F < 4503599627370496) (p0 : -1074 ≤ pw) (p1 : pw ≤ 1023) (z0 : 0 < z) (z1 : z < 9218868437227405312) (u : Int) (hs : 9223372036854775808 ≤ u) (hz : u - 9223372036854775808 = z) (n lg : Nat) (hzn : z = (n : Int)) (hn0 : n ≠ 0) (hn1 : n < 4503599627370496) (hlg : n.log2 = lg) (hF0 : n * 2 ^ (52 - lg) = F + 4503599627370496) (hpw : (lg : Int) - 1074 = pw)
    (cn : ∀ w, Calls Tryd.prog 22 #[.int .u64 u] w fun e w' => e = .returned (.bool false) ∧ w' = w) (hres : RES = [45, 48, 120, 49] ++ fracTx F ++ [112] ++ powTx pw) :
    Calls Tryd.prog 12 #[.int .u64 u] w fun e w' => e = .returned (.string ⟨RES.toArray⟩) ∧ Below w.heap.size w w' := by
  have HRES := hid hres
  clear hres
  have q1 : (z == 9218868437227405312) = false := by rw [beq_eq_false_iff_ne]; omega
  have q2 : (z == 0) = false := by rw [beq_eq_false_iff_ne]; omega
  have c1 := fun w => run_string_add_lists (P := Tryd.prog) w [45] [48, 120, 49] (by decide) (by decide)
  have c2 := fun w => run_string_add_lists (P := Tryd.prog) w [45, 48, 120, 49] [46] (by decide) (by decide)
  have m1 : z % 4503599627370496 = z := by omega
  have m2 : z / 4503599627370496 = 0 := by omega
  have HZ := hid hzn
  have HF0 := hid hF0
  have HPW := hid hpw
  have HN1 := hid (show n ≠ 0 ∧ n < 4503599627370496 ∧ n.log2 = lg ∧ lg ≤ 51 from ⟨hn0, hn1, hlg, by rw [← hlg]; exact (shl_log (n : Int) (by omega) (by omega)).1⟩)
  have HF := hid hF
  clear hzn hF0 hpw hn0 hn1 hlg hF
  go_enter Tryd.func12, Tryd.ntmps12
  go_wp2_with (first | (go_at_call 22; (with_reducible refine (cn _).mono ?_); rintro e wn ⟨rfl, hz⟩; (have hz' := hz.symm); subst hz'; clear hz))
  go_loop [4, 5] (fun e f => ∃ (k : Nat) (y : Int), k ≤ 52 - lg ∧ e = .int .i64 (-1022 - (k : Int)) ∧ f = .int .u64 y ∧ y = ((n * 2 ^ k : Nat) : Int)) (fun e _ => (intOf e + 1074).toNat)
  case atStart => exact ⟨0, _, Nat.zero_le _, rfl, rfl, by have := HZ.out; omega⟩
  case round =>
    obtain ⟨k, y, hk, rfl, rfl, hy⟩ := hrel
    have HY := hid hy
    have B := hid (dbl_lt n k HN1.out.1 HN1.out.2.1 (by rw [HN1.out.2.2.1]; exact hk))
    have LG := HN1.out.2.2.1
    rw [LG] at B
    have y0 : 0 ≤ y := by omega
    have y1 : y < 9007199254740992 := by have := B.out.2; omega
    by_cases hlt : k < 52 - lg
    · have b3 : y < 4503599627370496 := by have := B.out.1.2 hlt; omega
      have HN := hid (show ((n * 2 ^ (k + 1) : Nat) : Int) = 2 * y by rw [hy, Nat.pow_succ, ← Nat.mul_assoc]; omega)
      have k52 : (k : Int) < 52 := by omega
      have HK := hid hlt
      clear LG hy hlt
      go_wp2_with fail
      go_round
      case rel => exact ⟨k + 1, 2 * y, HK.out, by go_num, by go_num, HN.out.symm⟩
      case measure => simp [intOf]; omega
    · have hkl : k = 52 - lg := by omega
      have b3 : ¬ y < 4503599627370496 := by
        intro h
        exact hlt (B.out.1.1 (by omega))
      have e1 : y - 4503599627370496 = (F : Int) := by have := HF0.out; rw [hy, hkl]; omega
      have e2 : -1022 - (k : Int) = pw := by have := HPW.out; have := HN1.out.2.2.2; omega
      rw [e2]
      clear LG hy hlt hk hkl
      have hF := HF.out
      by_cases hF1 : F = 0
      · have BASE := hid (show (if F = 0 then ([45, 48, 120, 49] : List UInt8) else [45, 48, 120, 49] ++ [46]) = [45, 48, 120, 49] by rw [if_pos hF1])
        have hF2 : ¬ 0 < (F : Int) := by omega
        go_wp2_with fail
        go_loopw [5, 6] (fun x tt wr => ∃ (f : Nat) (pre Tl : List UInt8), x = .int .u64 f ∧ tt = .string ⟨Tl.toArray⟩ ∧ Tl = [45, 48, 120, 49] ++ pre ∧ Left F pre f ∧ Below w.heap.size w wr) (fun _ tt _ => 100 - strLen tt)
        case atStart => exact ⟨F, [], [45, 48, 120, 49], by first | rfl | go_num, rfl, rfl, Left.start F hF, Below.refl _ _⟩
        case round =>
          obtain ⟨f, pre, Tl, rfl, rfl, hT, hl, hb⟩ := hrel
          obtain ⟨l1, l2⟩ := hl.lt
          have lT : Tl.length = ([45, 48, 120, 49] : List UInt8).length + pre.length := by rw [hT, List.length_append]
          simp only [List.length_cons, List.length_nil] at lT
          by_cases hf : f = 0
          · subst hf
            have hd := hl.done
            have RE := hid (res_eq [45, 48, 120, 49] Tl RES F pw HRES.out (by rw [hd, hT, BASE.out]))
            clear hl hd hT
            by_cases hp : pw < 0
            · have H := hid (RE.out.1 hp)
              have c5 := fun w => run_string_add_lists (P := Tryd.prog) w Tl [112, 45] (by omega) (by decide)
              have dl := decL_length pw.natAbs 4 (by omega) (by omega)
              have c6 := fun w => run_string_add_lists (P := Tryd.prog) w (Tl ++ [112, 45]) (decL pw.natAbs) (by rw [List.length_append]; simp; omega) (by omega)
              have en : -pw = ((pw.natAbs : Nat) : Int) := by omega
              have cz := fun w => refSize_c pw.natAbs (by omega) w
              rw [← en] at cz
              generalize Tl ++ [112, 45] = T5 at *
              generalize T5 ++ decL pw.natAbs = T6 at *
              generalize decL pw.natAbs = DD at *
              clear en dl lT RE
              go_wp2_with (first | (go_at_call 25; (with_reducible refine (cz _).mono ?_); rintro e wn ⟨rfl, hbn⟩))
              go_ret
              exact ⟨ret_s H.out.symm, bel_trans hb hbn⟩
            · have H := hid (RE.out.2 hp)
              have c5 := fun w => run_string_add_lists (P := Tryd.prog) w Tl [112, 43] (by omega) (by decide)
              have dl := decL_length pw.natAbs 4 (by omega) (by omega)
              have c6 := fun w => run_string_add_lists (P := Tryd.prog) w (Tl ++ [112, 43]) (decL pw.natAbs) (by rw [List.length_append]; simp; omega) (by omega)
              have en : pw = ((pw.natAbs : Nat) : Int) := by omega
              have cz := fun w => refSize_c pw.natAbs (by omega) w
              rw [← en] at cz
              generalize Tl ++ [112, 43] = T5 at *
              generalize T5 ++ decL pw.natAbs = T6 at *
              generalize decL pw.natAbs = DD at *
              clear en dl lT RE
              go_wp2_with (first | (go_at_call 25; (with_reducible refine (cz _).mono ?_); rintro e wn ⟨rfl, hbn⟩))
              go_ret
              exact ⟨ret_s H.out.symm, bel_trans hb hbn⟩
          · obtain ⟨hstep, hpl⟩ := hl.step hf
            have hi0 : (f : Int) / 281474976710656 = ((f / 281474976710656 : Nat) : Int) := by omega
            have hrr : (f : Int) % 281474976710656 * 16 = ((f % 281474976710656 * 16 : Nat) : Int) := by omega
            have hd16 : f / 281474976710656 < 16 := by omega
            have l1' : (f : Int) < 4503599627370496 := by omega
            have f0 : (0 : Int) ≤ (f : Int) := by omega
            have f1 : (0 : Int) < (f : Int) := by omega
            have hmm := hid (show 0 ≤ (f : Int) % 281474976710656 ∧ (f : Int) % 281474976710656 < 281474976710656 by omega)
            generalize f / 281474976710656 = d at *
            have hx := hex_index d hd16
            generalize hexd d = c at *
            generalize f % 281474976710656 * 16 = r at *
            generalize (f : Int) = F' at *
            have kc := fun wr => conv_one wr c
            have cc := fun w => run_string_add_lists (P := Tryd.prog) w Tl [c] (by omega) (by simp)
            have HT := hid (show Tl ++ [c] = [45, 48, 120, 49] ++ (pre ++ [c]) by rw [hT, List.append_assoc])
            have HL := hid hstep
            have LT := hid lT
            clear hT hstep hl hf lT
            go_wp2_with fail
            go_roundw
            case rel => exact ⟨r, pre ++ [c], Tl ++ [c], by go_num, rfl, HT.out, HL.out, hb.alloc hb.size _⟩
            case measure =>
              show 100 - strLen (.string ⟨(Tl ++ [c]).toArray⟩) < 100 - strLen (.string ⟨Tl.toArray⟩)
              have := LT.out
              simp only [strLen, str_len2, List.length_append, List.length_cons, List.length_nil]
              omega
      · have BASE := hid (show (if F = 0 then ([45, 48, 120, 49] : List UInt8) else [45, 48, 120, 49] ++ [46]) = [45, 48, 120, 49, 46] by rw [if_neg hF1]; rfl)
        have hF2 : 0 < (F : Int) := by omega
        go_wp2_with fail
        go_loopw [5, 6] (fun x tt wr => ∃ (f : Nat) (pre Tl : List UInt8), x = .int .u64 f ∧ tt = .string ⟨Tl.toArray⟩ ∧ Tl = [45, 48, 120, 49, 46] ++ pre ∧ Left F pre f ∧ Below w.heap.size w wr) (fun _ tt _ => 100 - strLen tt)
        case atStart => exact ⟨F, [], [45, 48, 120, 49, 46], by first | rfl | go_num, rfl, rfl, Left.start F hF, Below.refl _ _⟩
        case round =>
          obtain ⟨f, pre, Tl, rfl, rfl, hT, hl, hb⟩ := hrel
          obtain ⟨l1, l2⟩ := hl.lt
          have lT : Tl.length = ([45, 48, 120, 49, 46] : List UInt8).length + pre.length := by rw [hT, List.length_append]
          simp only [List.length_cons, List.length_nil] at lT
          by_cases hf : f = 0
          · subst hf
            have hd := hl.done
            have RE := hid (res_eq [45, 48, 120, 49] Tl RES F pw HRES.out (by rw [hd, hT, BASE.out]))
            clear hl hd hT
            by_cases hp : pw < 0
            · have H := hid (RE.out.1 hp)
              have c5 := fun w => run_string_add_lists (P := Tryd.prog) w Tl [112, 45] (by omega) (by decide)
              have dl := decL_length pw.natAbs 4 (by omega) (by omega)
              have c6 := fun w => run_string_add_lists (P := Tryd.prog) w (Tl ++ [112, 45]) (decL pw.natAbs) (by rw [List.length_append]; simp; omega) (by omega)
              have en : -pw = ((pw.natAbs : Nat) : Int) := by omega
              have cz := fun w => refSize_c pw.natAbs (by omega) w
              rw [← en] at cz
              generalize Tl ++ [112, 45] = T5 at *
              generalize T5 ++ decL pw.natAbs = T6 at *
              generalize decL pw.natAbs = DD at *
              clear en dl lT RE
              go_wp2_with (first | (go_at_call 25; (with_reducible refine (cz _).mono ?_); rintro e wn ⟨rfl, hbn⟩))
              go_ret
              exact ⟨ret_s H.out.symm, bel_trans hb hbn⟩
            · have H := hid (RE.out.2 hp)
              have c5 := fun w => run_string_add_lists (P := Tryd.prog) w Tl [112, 43] (by omega) (by decide)
              have dl := decL_length pw.natAbs 4 (by omega) (by omega)
              have c6 := fun w => run_string_add_lists (P := Tryd.prog) w (Tl ++ [112, 43]) (decL pw.natAbs) (by rw [List.length_append]; simp; omega) (by omega)
              have en : pw = ((pw.natAbs : Nat) : Int) := by omega
              have cz := fun w => refSize_c pw.natAbs (by omega) w
              rw [← en] at cz
              generalize Tl ++ [112, 43] = T5 at *
              generalize T5 ++ decL pw.natAbs = T6 at *
              generalize decL pw.natAbs = DD at *
              clear en dl lT RE
              go_wp2_with (first | (go_at_call 25; (with_reducible refine (cz _).mono ?_); rintro e wn ⟨rfl, hbn⟩))
              go_ret
              exact ⟨ret_s H.out.symm, bel_trans hb hbn⟩
          · obtain ⟨hstep, hpl⟩ := hl.step hf
            have hi0 : (f : Int) / 281474976710656 = ((f / 281474976710656 : Nat) : Int) := by omega
            have hrr : (f : Int) % 281474976710656 * 16 = ((f % 281474976710656 * 16 : Nat) : Int) := by omega
            have hd16 : f / 281474976710656 < 16 := by omega
            have l1' : (f : Int) < 4503599627370496 := by omega
            have f0 : (0 : Int) ≤ (f : Int) := by omega
            have f1 : (0 : Int) < (f : Int) := by omega
            have hmm := hid (show 0 ≤ (f : Int) % 281474976710656 ∧ (f : Int) % 281474976710656 < 281474976710656 by omega)
            generalize f / 281474976710656 = d at *
            have hx := hex_index d hd16
            generalize hexd d = c at *
            generalize f % 281474976710656 * 16 = r at *
            generalize (f : Int) = F' at *
            have kc := fun wr => conv_one wr c
            have cc := fun w => run_string_add_lists (P := Tryd.prog) w Tl [c] (by omega) (by simp)
            have HT := hid (show Tl ++ [c] = [45, 48, 120, 49, 46] ++ (pre ++ [c]) by rw [hT, List.append_assoc])
            have HL := hid hstep
            have LT := hid lT
            clear hT hstep hl hf lT
            go_wp2_with fail
            go_roundw
            case rel => exact ⟨r, pre ++ [c], Tl ++ [c], by go_num, rfl, HT.out, HL.out, hb.alloc hb.size _⟩
            case measure =>
              show 100 - strLen (.string ⟨(Tl ++ [c]).toArray⟩) < 100 - strLen (.string ⟨Tl.toArray⟩)
              have := LT.out
              simp only [strLen, str_len2, List.length_append, List.length_cons, List.length_nil]
              omega
theorem refFloat_nan (u : Int) (w : World) (cn : ∀ w, Calls Tryd.prog 22 #[.int .u64 u] w fun e w' => e = .returned (.bool true) ∧ w' = w) :
    Calls Tryd.prog 12 #[.int .u64 u] w fun e w' => e = .returned (.string ⟨#[110, 97, 110]⟩) ∧ Below w.heap.size w w' := by
  go_enter Tryd.func12, Tryd.ntmps12
  go_wp2_with (first | (go_at_call 22; (with_reducible refine (cn _).mono ?_); rintro e wn ⟨rfl, hz⟩; (have hz' := hz.symm); subst hz'; clear hz))
  go_ret
  exact ⟨rfl, Below.refl _ _⟩
theorem refFloat_few (u z : Int) (sg : Bool) (w : World) (hu : 0 ≤ u) (hu1 : u < 18446744073709551616) (hs : sg = true ∧ 9223372036854775808 ≤ u ∧ u - 9223372036854775808 = z ∨ sg = false ∧ u < 9223372036854775808 ∧ u = z) (hz : z = 9218868437227405312 ∨ z = 0)
    (cn : ∀ w, Calls Tryd.prog 22 #[.int .u64 u] w fun e w' => e = .returned (.bool false) ∧ w' = w) :
    Calls Tryd.prog 12 #[.int .u64 u] w fun e w' => e = .returned (.string ⟨(signL sg ++ (if z = 0 then [48, 120, 48, 112, 43, 48] else infT)).toArray⟩) ∧ Below w.heap.size w w' := by
  have t1 : (signL true ++ (if (0 : Int) = 0 then [48, 120, 48, 112, 43, 48] else infT)) = [45, 48, 120, 48, 112, 43, 48] := by decide
  have t2 : (signL false ++ (if (0 : Int) = 0 then [48, 120, 48, 112, 43, 48] else infT)) = [48, 120, 48, 112, 43, 48] := by decide
  have t3 : (signL true ++ (if (9218868437227405312 : Int) = 0 then [48, 120, 48, 112, 43, 48] else infT)) = [45, 105, 110, 102] := by decide
  have t4 : (signL false ++ (if (9218868437227405312 : Int) = 0 then [48, 120, 48, 112, 43, 48] else infT)) = [105, 110, 102] := by decide
  rcases hs with ⟨rfl, h1, h2⟩ | ⟨rfl, h1, h2⟩ <;> rcases hz with rfl | rfl
  · rw [t3]
    clear t1 t2 t3 t4
    go_enter Tryd.func12, Tryd.ntmps12
    go_wp2_with (first | (go_at_call 22; (with_reducible refine (cn _).mono ?_); rintro e wn ⟨rfl, hz⟩; (have hz' := hz.symm); subst hz'; clear hz))
    go_ret
    exact ⟨rfl, Below.refl _ _⟩
  · rw [t1]
    clear t1 t2 t3 t4
    go_enter Tryd.func12, Tryd.ntmps12
    go_wp2_with (first | (go_at_call 22; (with_reducible refine (cn _).mono ?_); rintro e wn ⟨rfl, hz⟩; (have hz' := hz.symm); subst hz'; clear hz))
    go_ret
    exact ⟨rfl, Below.refl _ _⟩
  · rw [t4]
    clear t1 t2 t3 t4
    subst h2
    go_enter Tryd.func12, Tryd.ntmps12
    go_wp2_with (first | (go_at_call 22; (with_reducible refine (cn _).mono ?_); rintro e wn ⟨rfl, hz⟩; (have hz' := hz.symm); subst hz'; clear hz))
    go_ret
    exact ⟨rfl, Below.refl _ _⟩
  · rw [t2]
    clear t1 t2 t3 t4
    subst h2
    go_enter Tryd.func12, Tryd.ntmps12
    go_wp2_with (first | (go_at_call 22; (with_reducible refine (cn _).mono ?_); rintro e wn ⟨rfl, hz⟩; (have hz' := hz.symm); subst hz'; clear hz))
    go_ret
    exact ⟨rfl, Below.refl _ _⟩
theorem refFloat_c (u : Int) (u0 : 0 ≤ u) (u1 : u < 18446744073709551616) (w : World) :
    Calls Tryd.prog 12 #[.int .u64 u] w fun e w' => e = .returned (.string ⟨(fltT u).toArray⟩) ∧ Below w.heap.size w w' := by
  have cn := refNaN_c u u0 u1
  rw [nan_size] at cn
  rcases float_ways u u0 u1 with ⟨h, e⟩ | ⟨h, e⟩ | ⟨h, e⟩ | ⟨h1, h2, e⟩
  · rw [decide_eq_true h] at cn
    rw [e]
    exact refFloat_nan u w cn
  · rw [decide_eq_false (by omega)] at cn
    have := refFloat_few u (u % 9223372036854775808) (decide (9223372036854775808 ≤ u)) w u0 u1 (by by_cases q : 9223372036854775808 ≤ u; exact Or.inl ⟨decide_eq_true q, q, by omega⟩; exact Or.inr ⟨decide_eq_false q, by omega, by omega⟩) (Or.inl h) cn
    rw [e]
    rw [if_neg (by omega)] at this
    exact this
  · rw [decide_eq_false (by omega)] at cn
    have := refFloat_few u (u % 9223372036854775808) (decide (9223372036854775808 ≤ u)) w u0 u1 (by by_cases q : 9223372036854775808 ≤ u; exact Or.inl ⟨decide_eq_true q, q, by omega⟩; exact Or.inr ⟨decide_eq_false q, by omega, by omega⟩) (Or.inr h) cn
    rw [e]
    rw [if_pos h] at this
    exact this
  · rw [decide_eq_false (by omega)] at cn
    obtain ⟨f1, -, f3, f4⟩ := fracOf_spec (u % 9223372036854775808).toNat (by omega) (by omega)
    by_cases hs : 9223372036854775808 ≤ u
    · rw [decide_eq_true hs] at e
      have hz : u - 9223372036854775808 = u % 9223372036854775808 := by omega
      generalize u % 9223372036854775808 = z at *
      by_cases hsm : z < 4503599627370496
      · refine refFloat_minusSmall z _ _ _ w f1 f3 f4 h1 (by omega) u hs hz z.toNat _ (by omega) (by omega) (by omega) rfl ?_ ?_ cn e
        · have sl := shl_log z h1 hsm
          unfold fracOf
          rw [if_pos (by omega)]
          have e1 : (z * 2 ^ (52 - z.toNat.log2)) = ((z.toNat * 2 ^ (52 - z.toNat.log2) : Nat) : Int) := by
            have : (z.toNat : Int) = z := by omega
            simp [this]
          rw [e1] at sl
          omega
        · unfold powOf
          rw [if_pos (by omega)]
      · refine refFloat_minusNorm z _ _ _ w f1 f3 f4 h1 (by omega) u hs hz ?_ ?_ ?_ cn e
        · unfold powOf
          rw [if_neg (by omega)]
          omega
        · rw [beq_eq_false_iff_ne]
          unfold powOf
          rw [if_neg (by omega)]
          omega
        · unfold fracOf
          rw [if_neg (by omega)]
          omega
    · rw [decide_eq_false hs] at e
      have hz : u = u % 9223372036854775808 := by omega
      generalize hzz : u % 9223372036854775808 = z at *
      subst hz
      by_cases hsm : u < 4503599627370496
      · refine refFloat_plusSmall u _ _ _ w f1 f3 f4 h1 (by omega) u.toNat _ (by omega) (by omega) (by omega) rfl ?_ ?_ cn e
        · have sl := shl_log u h1 hsm
          unfold fracOf
          rw [if_pos (by omega)]
          have e1 : (u * 2 ^ (52 - u.toNat.log2)) = ((u.toNat * 2 ^ (52 - u.toNat.log2) : Nat) : Int) := by
            have : (u.toNat : Int) = u := by omega
            simp [this]
          rw [e1] at sl
          omega
        · unfold powOf
          rw [if_pos (by omega)]
      · refine refFloat_plusNorm u _ _ _ w f1 f3 f4 h1 (by omega) ?_ ?_ ?_ cn e
        · unfold powOf
          rw [if_neg (by omega)]
          omega
        · rw [beq_eq_false_iff_ne]
          unfold powOf
          rw [if_neg (by omega)]
          omega
        · unfold fracOf
          rw [if_neg (by omega)]
          omega
end Go.Proofs.YtmdpnoebpjoiaaaDoor.W
