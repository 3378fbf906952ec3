/- StoreFills: the walk. -/
import Derived.Test.YtenbjlmomkiknabS6w
import Derived.Lib.AppendZeros
namespace Go.Proofs.Ytenbjlmomkiknab.W
open Go.ChangeShapes Go.WideShapes Go.RowKit Go.Shelf
set_option linter.unusedVariables false
theorem cell_lt {w : World} {p : Addr} {v : Value} (h : w.cell? p = some v) : p.block < w.heap.size := by
  rcases Nat.lt_or_ge p.block w.heap.size with c | c
  · exact c
  · exfalso
    have e : w.heap[p.block]? = none := Array.getElem?_eq_none c
    simp [World.cell?, e] at h
set_option maxRecDepth 100000 in
set_option maxHeartbeats 4000000 in
theorem storeFills_walk (a0 : Option Addr) (len0 cap0 : Nat) (z0 : List Int) (a1 : Option Addr) (len1 cap1 : Nat) (z1 : List Int) (w : World) (w0 : IsRow .i64 w a0 len0 cap0 z0) (w1 : IsRow .i64 w a1 len1 cap1 z1) :
    Calls Try.prog 7 #[.slice a0 len0 cap0, .slice a1 len1 cap1] w fun e w' => e = .returned (.bool true) ∧ Below w.heap.size w w' := by
  by_cases c0 : (len0 : Int) > 60
  · go_enter Try.func7, Try.ntmps7
    go_wp2
    go_ret
    exact ⟨rfl, Below.refl _ _⟩
  by_cases c1 : (len1 : Int) > 60
  · go_enter Try.func7, Try.ntmps7
    go_wp2
    go_ret
    exact ⟨rfl, Below.refl _ _⟩
  have cn := new_st w 20000 61 (by omega) (by omega)
  go_enter Try.func7, Try.ntmps7
  go_wp2_with (go_at_call 18; (with_reducible refine cn.mono ?_); rintro e w1' ⟨rfl, hSt, hBl, hSz⟩; clear cn)
  go_loopw [6, 7] (fun n i wr => ∃ k : Nat, k ≤ len0 ∧ i = .int .i64 k ∧ (∀ j, j < k → 0 ≤ z0.getD j 0 ∧ z0.getD j 0 ≤ 300) ∧ Both w.heap.size wr w.heap.size (fillA (fun j => (z0.getD j 0).toNat) (fun _ => false) k) n k (intsV (z0.take k)) ∧ Below w.heap.size w wr) (fun _ i _ => len0 - (intOf i).toNat)
  case atStart =>
    refine ⟨0, by omega, rfl, fun j hj => absurd hj (by omega), ⟨⟨_, hSt, fun k hk => ?_, fun k hk => ?_⟩, ?_⟩, ?_⟩
    · subst hk; omega
    · simp [Value.ownBlock] at hk
    · exact World.ownsRow_nil _ _ _ _
    · exact hBl
  case round =>
    obtain ⟨k, hk, rfl, hz, hBo, hBe⟩ := hrel
    clear hSt hBl hSz
    by_cases hlt : k < len0
    · rcases w0 with ⟨_, h0, _⟩ | ⟨x, rfl, hlc, hcm, hzl, hcell, hwf⟩
      · omega
      have hc := hcell k (by omega)
      have hxb : x.block < w.heap.size := by
        have e : (x.add k).block = x.block := by unfold Addr.add; split <;> rfl
        rw [← e]
        exact cell_lt hc
      have hxk : (x.add k).block < w.heap.size := by
        have e : (x.add k).block = x.block := by unfold Addr.add; split <;> rfl
        rw [e]; exact hxb
      rw [← hBe.cell (p := x.add k) hxk] at hc
      have i1 : (k : Int) < len0 := by omega
      have i0 : (0 : Int) ≤ k := by omega
      obtain ⟨z, hzk⟩ : ∃ z, z = z0.getD k 0 := ⟨_, rfl⟩
      rw [← hzk] at hc
      have HZ := (show Hid _ from hzk)
      have HZ2 := (show Hid _ from hz)
      have HC := (show Hid _ from hcell)
      clear hzk hcell hwf hz
      by_cases d0 : z < 0
      · go_wp2
        go_ret
        exact ⟨rfl, hBe⟩
      by_cases d1 : z > 300
      · go_wp2
        go_ret
        exact ⟨rfl, hBe⟩
      obtain ⟨zn, rfl⟩ : ∃ zn : Nat, z = zn := ⟨z.toNat, by omega⟩
      have hsz := hBe.size
      have hus := usedF_le (fun j => (z0.getD j 0).toNat) (fun _ => false) k (fun j hj => by have := HZ2.out j hj; omega)
      have ct := both_take hBo hsz zn (by omega) (by rw [fillA_sum]; have : up8N zn ≤ 304 := by unfold up8N; omega
                                                     omega) (by rw [fillA_len]; omega)
      rw [fillA_least, fillA_put] at ct
      clear hus hBo
      go_upto_region 15 with (go_at_call 23; (with_reducible refine ct.mono ?_); rintro e W2 ⟨rfl, hBo2, hBe2⟩; clear ct)
      have hc2 : W2.cell? (x.add k) = some (.int .i64 zn) := by rw [hBe2.cell hxk]; exact hc
      have hBe' := hBe.trans hBe2
      have hsz2 := hBe'.size
      clear hBe hBe2 hc hsz
      obtain ⟨v3, W3, hrun, hBo3, hBe3⟩ := both_append (hBo2.below ((Below.refl _ W2).alloc (Nat.le_refl _) (.cells #[.int .i64 zn] 3))) (by simp; omega) 41 ⟨W2.heap.size, 0, none⟩ 1 zn (by simp [Addr.add]) (by omega)
      clear hBo2
      have hBe4 := (hBe'.alloc (by omega) (.cells #[.int .i64 zn] 3)).trans hBe3
      clear hBe' hBe3
      go_upto_region 16 with (at_builtin; refine Lib.wpList_append_run _ rfl (.tmp 72) (.tmp 77) 41 41 rfl _ _ (by simp [Act.eval]) (by simp [Act.eval]) _ _ hrun ?_)
      clear hrun hc2 hsz2
      have hkl : (fillA (fun j => (z0.getD j 0).toNat) (fun _ => false) k).length = k := fillA_len _ _ _
      rw [← part1_zero zn (k + 1)] at hBo3
      have HF := (show Hid _ from fillA_succ (fun j => (z0.getD j 0).toNat) k)
      generalize fillA (fun j => (z0.getD j 0).toNat) (fun _ => false) k = A0 at *
      go_wp2
      go_loopw [10] (fun kk wr2 => ∃ q : Nat, q ≤ zn ∧ kk = .int .i64 q ∧ Both w.heap.size wr2 w.heap.size (A0 ++ [some (part1 zn q (k + 1))]) v3 (k + 1) (intsV (z0.take k) ++ [.int .i64 zn]) ∧ Below w.heap.size w wr2) (fun kk _ => zn - (intOf kk).toNat)
      case atStart => exact ⟨0, by omega, rfl, hBo3, hBe4⟩
      case round =>
        obtain ⟨q, hq, rfl, hB5, hBe5⟩ := hrel
        clear hBo3 hBe4
        have hcw := HC.out k (by omega)
        rw [← HZ.out, ← hBe5.cell hxk] at hcw
        have hpl := part1_len zn q (k + 1) hq
        by_cases hq' : q < zn
        · have cl := both_load hB5 k (part1 zn q (k + 1)) (snoc_get _ _ _ hkl) q (by omega)
          rw [part1_load zn q (k + 1) q hq hq', if_neg (Nat.lt_irrefl _)] at cl
          have j1 : (q : Int) < zn := by omega
          have e1 : ((k + 1 : Nat) : Int) = (k : Int) + 1 := by omega
          have hw1 : IntKind.i64.wrap ((k : Int) + 1) = (k : Int) + 1 := by rw [IntKind.wrap_i64]; omega
          have hw2 : IntKind.u64.wrap ((k : Int) + 1) = (k : Int) + 1 := by rw [IntKind.wrap_u64]; omega
          have hw3 : IntKind.i64.wrap ((q : Int) + 1) = (q : Int) + 1 := by rw [IntKind.wrap_i64]; omega
          clear hB5
          go_upto_region 20 with (go_at_call 24; (with_reducible refine cl.mono ?_); rintro e W6 ⟨rfl, hB6, hBe6⟩; clear cl)
          have hBe7 := hBe5.trans (hBe6.mono hBe5.size)
          have cs := both_save hB6 hBe7.size k (part1 zn q (k + 1)) (snoc_get _ _ _ hkl) q (k + 1) (by omega) (by omega)
          rw [part1_save zn q (k + 1) hq' (by omega), snoc_set _ _ _ _ hkl, e1] at cs
          clear hB6 hBe6 hBe5 hcw
          go_wp2_with (go_at_call 25; (with_reducible refine cs.mono ?_); rintro e W7 ⟨rfl, hB8, hBe8⟩; clear cs)
          go_roundw
          case rel => exact ⟨q + 1, by omega, by go_num, hB8, hBe7.trans hBe8⟩
          case measure => show zn - (q + 1 : Int).toNat < zn - (q : Int).toNat; omega
        · have hqe : q = zn := by omega
          subst hqe
          have j1 : ¬ (q : Int) < q := by omega
          have hw3 : IntKind.i64.wrap ((k : Int) + 1) = (k : Int) + 1 := by rw [IntKind.wrap_i64]; omega
          rw [part1_all] at hB5
          have hfa := HF.out
          simp only [← HZ.out, Int.toNat_natCast] at hfa
          have hta : intsV (z0.take (k + 1)) = intsV (z0.take k) ++ [.int .i64 q] := by
            unfold intsV
            rw [List.take_add_one, List.map_append]
            congr 1
            have hzz := HZ.out
            rw [List.getD, List.getElem?_eq_getElem (show k < z0.length by omega)] at hzz
            rw [List.getElem?_eq_getElem (show k < z0.length by omega)]
            simp at hzz ⊢
            exact hzz.symm
          have HB := (show Hid _ from hB5)
          have HT := (show Hid _ from hta)
          have HA := (show Hid _ from hfa)
          clear hB5 hta hfa
          go_wp2
          go_roundw
          case rel =>
            refine ⟨k + 1, by omega, by go_num, ?_, ?_, hBe5⟩
            · intro j hj
              by_cases e : j = k
              · subst e
                have := HZ.out
                omega
              · exact HZ2.out j (by omega)
            · rw [HA.out, HT.out]; exact HB.out
          case measure => show len0 - (k + 1 : Int).toNat < len0 - (k : Int).toNat; omega
    · have hke : k = len0 := by omega
      subst hke
      have hzl0 : k ≤ z0.length := by
        rcases w0 with ⟨_, h0, _⟩ | ⟨x, rfl, hlc, hcm, hzl, hcell, hwf⟩
        · omega
        · omega
      rw [gaveV_all z0 k hzl0] at hBo
      obtain ⟨oN, capN, hn⟩ := both_len hBo
      subst hn
      have hlt' : ¬ (k : Int) < k := by omega
      obtain ⟨Z, hZ⟩ : ∃ Z : Nat → Nat, Z = fun j => (z0.getD j 0).toNat := ⟨_, rfl⟩
      have HZ : Hid (∀ j, j < k → z0.getD j 0 = (Z j : Int) ∧ Z j ≤ 300) := by
        show ∀ j, j < k → _
        intro j hj
        have h1 := hz j hj
        have h2 : Z j = (z0.getD j 0).toNat := by rw [hZ]
        omega
      rw [← hZ] at hBo
      clear hZ
      have HW0 := (show Hid _ from w0)
      clear hz w0 hlt
      go_wp2
      go_loopw [13] (fun i wr2 => ∃ (p : Nat) (G : Nat → Bool), p ≤ len1 ∧ i = .int .i64 p ∧ Both w.heap.size wr2 w.heap.size (fillA Z G k) (.slice oN k capN) k (gaveV z0 G k) ∧ Below w.heap.size w wr2) (fun i _ => len1 - (intOf i).toNat)
      case atStart => exact ⟨0, fun _ => false, by omega, rfl, hBo, hBe⟩
      case round =>
        obtain ⟨p, G, hp, rfl, hB3, hBe3⟩ := hrel
        clear hBo hBe
        by_cases hlp : p < len1
        · rcases w1 with ⟨_, h0, _⟩ | ⟨y, rfl, hlc, hcm, hzl, hcell, hwf⟩
          · omega
          have hc := hcell p (by omega)
          have hyb : (y.add p).block < w.heap.size := cell_lt hc
          rw [← hBe3.cell (p := y.add p) hyb] at hc
          have i1 : (p : Int) < len1 := by omega
          have i0 : (0 : Int) ≤ p := by omega
          have hw3 : IntKind.i64.wrap ((p : Int) + 1) = (p : Int) + 1 := by rw [IntKind.wrap_i64]; omega
          clear hcell hwf hzl
          generalize z1.getD p 0 = g at hc
          by_cases e0 : g < 0
          · have ce := both_give_err hB3 g (.inl e0)
            have HB := (show Hid _ from hB3)
            clear hB3
            go_wp2_with (go_at_call 26; (with_reducible refine ce.mono ?_); rintro e w' ⟨rfl, rfl⟩; clear ce)
            go_roundw
            case rel => exact ⟨p + 1, G, by omega, by go_num, HB.out, hBe3⟩
            case measure => show len1 - (p + 1 : Int).toNat < len1 - (p : Int).toNat; omega
          by_cases e1 : (k : Int) ≤ g
          · have ce := both_give_err hB3 g (.inr (by rw [List.getElem?_eq_none (by rw [fillA_len]; omega)]; rfl))
            have HB := (show Hid _ from hB3)
            clear hB3
            go_wp2_with (go_at_call 26; (with_reducible refine ce.mono ?_); rintro e w' ⟨rfl, rfl⟩; clear ce)
            go_roundw
            case rel => exact ⟨p + 1, G, by omega, by go_num, HB.out, hBe3⟩
            case measure => show len1 - (p + 1 : Int).toNat < len1 - (p : Int).toNat; omega
          obtain ⟨gn, rfl⟩ : ∃ gn : Nat, g = gn := ⟨g.toNat, by omega⟩
          have hgk : gn < k := by omega
          obtain ⟨b, cap, hsl, hcellN⟩ := both_slice hB3 (by omega)
          have hcn := hcellN gn hgk
          rw [gaveV_get _ _ _ _ hgk] at hcn
          cases hsl
          clear hcellN
          cases hG : G gn with
          | true =>
            rw [hG, if_pos rfl] at hcn
            have ce := both_give_err hB3 gn (.inr (by rw [Int.toNat_natCast, fillA_get _ _ _ _ hgk, hG]; rfl))
            have HB := (show Hid _ from hB3)
            clear hB3 hG
            go_wp2_with (go_at_call 26; (with_reducible refine ce.mono ?_); rintro e w' ⟨rfl, rfl⟩; clear ce)
            go_roundw
            case rel => exact ⟨p + 1, G, by omega, by go_num, HB.out, hBe3⟩
            case measure => show len1 - (p + 1 : Int).toNat < len1 - (p : Int).toNat; omega
          | false =>
            have ce := both_give hB3 hBe3.size gn _ (by rw [fillA_get _ _ _ _ hgk, hG]; rfl)
            rw [fillA_give] at ce
            have hzg := HZ.out gn hgk
            clear hB3 hcn
            go_upto_region 27 with (go_at_call 26; (with_reducible refine ce.mono ?_); rintro e W4 ⟨rfl, hB4, hBe4⟩; clear ce)
            have hBe5 := hBe3.trans hBe4
            obtain ⟨b', cap', hsl', hcellN'⟩ := both_slice hB4 (by omega)
            cases hsl'
            have hcn' := hcellN' gn hgk
            rw [gaveV_get _ _ _ _ hgk, hG, if_neg (by decide)] at hcn'
            obtain ⟨hfr, hB5, hBe6⟩ := both_store hB4 hBe5.size gn (-1)
            rw [gaveV_set] at hB5
            have hBe7 := hBe5.trans hBe6
            generalize z0.getD gn 0 = zg at hcn' hzg
            have zg0 : (0 : Int) ≤ zg := by omega
            clear hzg
            have g0 : (0 : Int) ≤ gn := by omega
            have g1 : (gn : Int) < k := by omega
            have HZZ := (show Hid _ from HZ.out)
            clear hcellN' hB4 hBe5 hBe6 hBe3 hBe4 hc hG HZ
            have ht : Int.tmod (p : Int) 3 = ((p % 3 : Nat) : Int) := by rw [Int.tmod_eq_emod_of_nonneg (by omega)]; omega
            by_cases hm : p % 3 = 2
            · rw [hm] at ht
              have cp := both_pack hB5 hBe7.size
              clear hB5
              go_wp2_with (go_at_call 27; (with_reducible refine cp.mono ?_); rintro e W8 ⟨rfl, hB8, hBe8⟩; clear cp)
              go_roundw
              case rel => exact ⟨p + 1, _, by omega, by go_num, hB8, hBe7.trans hBe8⟩
              case measure => show len1 - (p + 1 : Int).toNat < len1 - (p : Int).toNat; omega
            · have hm' : ¬ ((p % 3 : Nat) : Int) = 2 := by omega
              have HB := (show Hid _ from hB5)
              clear hB5
              go_wp2
              go_roundw
              case rel => exact ⟨p + 1, _, by omega, by go_num, HB.out, hBe7⟩
              case measure => show len1 - (p + 1 : Int).toNat < len1 - (p : Int).toNat; omega
        · have hpe : p = len1 := by omega
          subst hpe
          have hlp' : ¬ (p : Int) < p := by omega
          have HB := (show Hid _ from hB3)
          clear hB3 hlp
          go_wp2
          go_loopw [16, 17] (fun us ii wr3 => ∃ q : Nat, q ≤ k ∧ ii = .int .i64 q ∧ us = .int .i64 (usedF Z G q) ∧ Both w.heap.size wr3 w.heap.size (fillA Z G k) (.slice oN k capN) k (gaveV z0 G k) ∧ Below w.heap.size w wr3) (fun _ ii _ => k - (intOf ii).toNat)
          case atStart => exact ⟨0, by omega, rfl, rfl, HB.out, hBe3⟩
          case round =>
            obtain ⟨q, hq, rfl, rfl, hB4, hBe4⟩ := hrel
            clear HB hBe3
            have hus := usedF_le Z G q (fun j hj => (HZ.out j (by omega)).2)
            by_cases hqk : q < k
            · obtain ⟨b, cap, hsl, hcellN⟩ := both_slice hB4 (by omega)
              cases hsl
              have hcn := hcellN q hqk
              rw [gaveV_get _ _ _ _ hqk] at hcn
              clear hcellN
              have q0 : (0 : Int) ≤ q := by omega
              have q1 : (q : Int) < k := by omega
              have hw3 : IntKind.i64.wrap ((q : Int) + 1) = (q : Int) + 1 := by rw [IntKind.wrap_i64]; omega
              cases hG : G q with
              | true =>
                rw [hG, if_pos rfl] at hcn
                have ce := both_len_err hB4 q (.inr (by rw [Int.toNat_natCast, fillA_get _ _ _ _ hqk, hG]; rfl))
                have hu1 : Hid (usedF Z G (q + 1) = usedF Z G q) := by show usedF _ _ _ + _ = _; rw [hG, if_pos rfl]; rfl
                have HB := (show Hid _ from hB4)
                clear hB4 hG hus
                go_wp2_with (go_at_call 28; (with_reducible refine ce.mono ?_); rintro e w' ⟨rfl, rfl⟩; clear ce)
                go_roundw
                case rel => exact ⟨q + 1, by omega, by go_num, by rw [hu1.out], HB.out, hBe4⟩
                case measure => show k - (q + 1 : Int).toNat < k - (q : Int).toNat; omega
              | false =>
                rw [hG, if_neg (by decide), (HZ.out q hqk).1] at hcn
                have hZq := (HZ.out q hqk).2
                have hu1 : Hid (usedF Z G (q + 1) = usedF Z G q + up8N (Z q)) := by show usedF _ _ _ + _ = _; rw [hG, if_neg (by decide)]
                have hget := fillA_get Z G k q hqk
                rw [hG, if_neg (by decide)] at hget
                obtain ⟨z, hz⟩ : ∃ z, z = Z q := ⟨_, rfl⟩
                rw [← hz] at hcn hZq hget hu1
                have HV : Hid ((gaveV z0 G k)[q]? = some (.int .i64 z)) := by
                  show (gaveV z0 G k)[q]? = _
                  rw [gaveV_get _ _ _ _ hqk, hG, if_neg (by decide), (HZ.out q hqk).1, hz]
                obtain ⟨us, hus'⟩ : ∃ us, us = usedF Z G q := ⟨_, rfl⟩
                rw [← hus'] at hus hu1 ⊢
                have HG := (show Hid _ from hget)
                have HB := (show Hid _ from hB4)
                clear hB4 hG hget hz hus'
                have z0' : ¬ (z : Int) < 0 := by omega
                have a1 : IntKind.i64.wrap ((z : Int) + 7) = (z : Int) + 7 := by rw [IntKind.wrap_i64]; omega
                have a2 : Int.tdiv ((z : Int) + 7) 8 = ((z + 7) / 8 : Nat) := by rw [Int.tdiv_eq_ediv_of_nonneg (by omega)]; omega
                have a3 : IntKind.i64.wrap (((z + 7) / 8 : Nat) : Int) = ((z + 7) / 8 : Nat) := by rw [IntKind.wrap_i64]; omega
                have a4 : IntKind.i64.wrap ((((z + 7) / 8 : Nat) : Int) * 8) = (up8N z : Nat) := by rw [IntKind.wrap_i64]; unfold up8N; omega
                have hup : up8N z ≤ 304 := by unfold up8N; omega
                have a5 : IntKind.i64.wrap ((us : Int) + (up8N z : Nat)) = (us + up8N z : Nat) := by rw [IntKind.wrap_i64]; omega
                go_wp2
                go_loopw [20] (fun kk wr4 => ∃ r : Nat, r ≤ z ∧ kk = .int .i64 r ∧ Both w.heap.size wr4 w.heap.size (fillA Z G k) (.slice (some ⟨b, 0, none⟩) k capN) k (gaveV z0 G k) ∧ Below w.heap.size w wr4) (fun kk _ => z - (intOf kk).toNat)
                case atStart => exact ⟨0, by omega, rfl, HB.out, hBe4⟩
                case round =>
                  obtain ⟨r, hr, rfl, hB5, hBe5⟩ := hrel
                  clear HB hBe4 hcn
                  obtain ⟨b', cap', hsl', hcellN'⟩ := both_slice hB5 (by omega)
                  cases hsl'
                  have hcn := hcellN' q hqk
                  rw [HV.out] at hcn
                  clear hcellN'
                  have r1 : IntKind.i64.wrap ((r : Int) + 1) = (r : Int) + 1 := by rw [IntKind.wrap_i64]; omega
                  by_cases hrz : r < z
                  · have cl := both_load hB5 q _ HG.out r (by rw [List.length_replicate]; omega)
                    rw [rep_load _ _ _ hrz] at cl
                    have e1 : ((q + 1 : Nat) : Int) = (q : Int) + 1 := by omega
                    rw [e1] at cl
                    have j1 : (r : Int) < z := by omega
                    have hw2 : IntKind.u64.wrap ((q : Int) + 1) = (q : Int) + 1 := by rw [IntKind.wrap_u64]; omega
                    have hw4 : Int.tmod ((q : Int) + 1) 256 = (q : Int) + 1 := by rw [Int.tmod_eq_emod_of_nonneg (by omega)]; omega
                    clear hB5
                    go_wp2_with (go_at_call 24; (with_reducible refine cl.mono ?_); rintro e W6 ⟨rfl, hB6, hBe6⟩; clear cl)
                    go_roundw
                    case rel => exact ⟨r + 1, by omega, by go_num, hB6, hBe5.trans (hBe6.mono hBe5.size)⟩
                    case measure => show z - (r + 1 : Int).toNat < z - (r : Int).toNat; omega
                  · have hrz' : r = z := by omega
                    subst hrz'
                    have j1 : ¬ (r : Int) < r := by omega
                    have HB5 := (show Hid _ from hB5)
                    clear hB5
                    go_wp2
                    go_roundw
                    case rel => exact ⟨q + 1, by omega, by go_num, by rw [hu1.out]; exact congrArg (Value.int .i64) (by unfold up8N; omega), HB5.out, hBe5⟩
                    case measure => show k - (q + 1 : Int).toNat < k - (q : Int).toNat; omega
            · have hqe : q = k := by omega
              subst hqe
              have hqk' : ¬ (q : Int) < q := by omega
              have cu := both_used hB4
              rw [fillA_sum] at cu
              have ct := both_take hB4 hBe4.size 9 (by omega) (by rw [fillA_sum]; have : up8N 9 = 16 := rfl
                                                                  omega) (by rw [fillA_len]; omega)
              rw [show ((9 : Nat) : Int) = 9 from rfl] at ct
              have hlen : leastA (fillA Z G q) ≤ 60 := by
                have := List.findIdx_le_length (xs := fillA Z G q) (p := fun x => x.isNone)
                rw [fillA_len] at this
                unfold leastA
                omega
              have hget := putA_get (fillA Z G q) (some (List.replicate 9 0))
              generalize leastA (fillA Z G q) = la at *
              generalize usedF Z G q = us at *
              clear hB4
              go_upto_region 53 with (first | (go_at_call 29; (with_reducible refine cu.mono ?_); rintro e w' ⟨rfl, rfl⟩; clear cu) | (go_at_call 23; (with_reducible refine ct.mono ?_); rintro e W5 ⟨rfl, hB5, hBe5⟩; clear ct))
              have hBe6 := hBe4.trans hBe5
              have cl := both_load hB5 la _ hget 8 (by rw [List.length_replicate]; omega)
              rw [rep_load 9 0 8 (by omega), show ((8 : Nat) : Int) = 8 from rfl] at cl
              clear hB5 hget hus
              go_wp2_with (first | (go_at_call 24; (with_reducible refine cl.mono ?_); rintro e W6 ⟨rfl, hB6, hBe7⟩; clear cl) | (go_at_call 22; (with_reducible refine (awake_c _).mono ?_); rintro e W7 ⟨rfl, hBe8⟩))
              go_ret
              have hBe9 := hBe6.trans (hBe7.mono hBe6.size)
              exact ⟨rfl, hBe9.trans (hBe8.mono hBe9.size)⟩
end Go.Proofs.Ytenbjlmomkiknab.W
