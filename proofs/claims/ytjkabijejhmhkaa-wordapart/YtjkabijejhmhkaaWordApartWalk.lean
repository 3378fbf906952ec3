/- The walk of the statement WordApart: it returns true at every input. -/
import Derived.Test.YtjkabijejhmhkaaBack
import Derived.OpenShut
import Derived.Deep.DeepCutAuto
namespace Go.Proofs.Ytjkabijejhmhkaa.W
open Go.ChangeShapes Go.WideShapes Go.RowKit

theorem Try.info64 : (Try.prog.info? 22).map (fun i => (i.zero, i.size, i.bytes)) = some (some (.int .u64 0), 1, 8) := by kernel_rfl
theorem intW_inj (a b : Int) (ha : smallB a = true) (hb : smallB b = true) : (intW a == intW b) = (a == b) := by
  rw [Bool.eq_iff_iff]
  simp only [beq_iff_eq]
  constructor
  · intro h
    rw [← toInt_intW a ha, ← toInt_intW b hb, h]
  · intro h; rw [h]
theorem txtW_inj (s t : ByteArray) (hs : s.size ≤ 5) (ht : t.size ≤ 5) : txtW s = txtW t ↔ s = t := by
  constructor
  · intro h
    rw [← toTxt_txtW s hs, ← toTxt_txtW t ht, h]
  · intro h; rw [h]

theorem txtB (s t : ByteArray) (hs : s.size ≤ 5) (ht : t.size ≤ 5) : ((txtW s == txtW t) == (s.toList == t.toList)) = true := by
  rw [beq_iff_eq, Bool.eq_iff_iff]
  simp only [beq_iff_eq]
  rw [txtW_inj s t hs ht, ByteArray.toList_eq, ByteArray.toList_eq]
  constructor
  · intro h; rw [h]
  · intro h
    apply ByteArray.ext
    exact Array.toList_inj.1 h
def u64V (l : List Int) : List Value := l.map (Value.int .u64)
def L1 (a : Int) (b : Bool) : List Int := [18444492273895866368, boolW b] ++ if smallB a = true then [intW a] else []
def L2 (a : Int) (b : Bool) (s : ByteArray) : List Int := L1 a b ++ if s.size ≤ 5 then [txtW s] else []
theorem L1_len (a : Int) (b : Bool) : (L1 a b).length ≤ 3 := by unfold L1; split <;> simp
theorem owns_two (w : World) (x y : Int) : (w.alloc (.cells #[.int .u64 x, .int .u64 y] 22)).ownsRow w.heap.size 22 1 (.slice (some ⟨w.heap.size, 0, none⟩) 2 2) 2 (u64V [x, y]) := by
  refine ⟨rfl, .inr ⟨w.heap.size, 2, _, rfl, Nat.le_refl _, heap_alloc_new _ _, Nat.le_refl _, by unfold maxLen; omega, rfl, rfl⟩⟩

theorem txtW_bd' (s : ByteArray) (h : s.size ≤ 5) : 18445055223849287680 ≤ txtW s ∧ txtW s < 18445336698825998336 := by
  have := enc_lt s h
  simp only [txtW, if_pos h]
  omega
theorem L2_up (a : Int) (b : Bool) (s : ByteArray) : (L2 a b s).Pairwise (· < ·) ∧ ∀ x ∈ L2 a b s, 18444492273895866368 ≤ x ∧ x < 18445336698825998336 := by
  have hb : boolW b = 18444492273895866369 ∨ boolW b = 18444492273895866370 := by cases b <;> simp [boolW]
  unfold L2 L1
  by_cases c : smallB a = true
  · have h1 := intW_bd a c
    by_cases d : s.size ≤ 5
    · have h2 := txtW_bd' s d
      simp only [c, d, if_true]
      constructor
      · simp; omega
      · intro x hx; simp at hx; omega
    · simp only [c, d, if_true]
      constructor
      · simp; omega
      · intro x hx; simp at hx; omega
  · by_cases d : s.size ≤ 5
    · have h2 := txtW_bd' s d
      simp only [c, d, if_true]
      constructor
      · simp; omega
      · intro x hx; simp at hx; omega
    · simp only [c, d, if_false]
      constructor
      · simp; omega
      · intro x hx; simp at hx; omega
theorem L2_len (a : Int) (b : Bool) (s : ByteArray) : 2 ≤ (L2 a b s).length ∧ (L2 a b s).length ≤ 4 := by
  unfold L2 L1; split <;> split <;> simp
theorem up_ne (l : List Int) (h : l.Pairwise (· < ·)) (i j : Nat) (hj : j < i) (hi : i < l.length) : (l.getD i 0 == l.getD j 0) = false := by
  have := List.pairwise_iff_getElem.1 h j i (by omega) hi hj
  simp [List.getD_eq_getElem?_getD, List.getElem?_eq_getElem hi, List.getElem?_eq_getElem (show j < l.length by omega)]
  omega
theorem tag_no (x : Int) (h : 18444492273895866368 ≤ x ∧ x < 18445336698825998336) : (cls x == 1) = false ∧ fltW x = 9221120237041090560 := by
  have hn := nan_hi x (by omega) h.1
  refine ⟨?_, by simp [fltW, hn]⟩
  rw [beq_eq_false_iff_ne]
  intro hc
  have := cls_is1 x hc
  unfold nanB at hn
  simp at hn
  omega
theorem owns_cells {w : World} {base : Nat} {v : Value} {l : List Int} (h : w.ownsRow base 22 1 v l.length (u64V l)) (hl : 2 ≤ l.length) :
    ∃ g cap, v = .slice (some ⟨g, 0, none⟩) l.length cap ∧ l.length ≤ cap ∧ cap ≤ maxLen ∧ ∀ i, i < l.length → w.cell? ⟨g, i, none⟩ = some (.int .u64 (l.getD i 0)) := by
  rcases h.2 with ⟨_, hz⟩ | ⟨g, cap, cur, rfl, hb, hg, hc, hm, hs, ht⟩
  · omega
  · refine ⟨g, cap, rfl, hc, hm, fun i hi => ?_⟩
    have := h.cells rfl i (.int .u64 (l.getD i 0)) (by simp [u64V, List.getElem?_eq_getElem hi])
    have e : (⟨g, 0, none⟩ : Addr).add i = ⟨g, i, none⟩ := by
      cases i with
      | zero => rfl
      | succ i => simp [Addr.add]
    rw [e] at this
    exact this

set_option maxHeartbeats 4000000 in
set_option maxRecDepth 1000000 in
theorem wordApart_walk (a0 : Int) (a1 : Int) (a2 : ByteArray) (a3 : ByteArray) (a4 : Bool) (a5 : Bool) (w0 : (Lit.int .i64 a0).wf = true) (w1 : (Lit.int .i64 a1).wf = true) (w2 : a2.size ≤ maxLen) (w3 : a3.size ≤ maxLen) (w : World) :
    Calls Try.prog 6 #[.int .i64 a0, .int .i64 a1, .string a2, .string a3, .bool a4, .bool a5] w fun e w' => e = .returned (.bool true) ∧ Below w.heap.size w w' := by
  obtain ⟨h0, h0'⟩ := bounds_i64 w0
  obtain ⟨h1, h1'⟩ := bounds_i64 w1
  have H2 := hid w2
  have H3 := hid w3
  unfold maxLen at w2 w3
  clear w0 w1
  by_cases s2 : 1000 < a2.size
  · go_enter Try.func6, Try.ntmps6
    go_wp2
    go_ret
    exact ⟨rfl, Below.refl _ _⟩
  by_cases s3 : 1000 < a3.size
  · go_enter Try.func6, Try.ntmps6
    go_wp2
    go_ret
    exact ⟨rfl, Below.refl _ _⟩
  go_enter Try.func6, Try.ntmps6
  go_upto_region 5 with (go_at_call 26; refine (fromInt_c _ (by omega) (by omega) _).mono ?_; rintro e w' ⟨rfl, rfl⟩)
  go_cut [14, 16, 54] (fun u v x wc => u = .bool (smallB a0) ∧ v = .bool (smallB a1) ∧ x = .bool false ∧ wc = w')
  case first =>
    cases c0 : smallB a0
    · go_wp2
      go_meet
      case rel => exact ⟨by rw [c0], rfl, rfl, rfl⟩
    · cases c1 : smallB a1
      · go_wp2
        go_meet
        case rel => exact ⟨by rw [c0], by rw [c1], rfl, rfl⟩
      · have k := intW_inj a0 a1 c0 c1
        go_wp2
        go_meet
        case rel => exact ⟨by rw [c0], by rw [c1], rfl, rfl⟩
  case rest =>
    obtain ⟨rfl, rfl, rfl, rfl⟩ := hcut
    go_upto_region 9 with (first | (go_at_call_of 28 (Value.string a2); refine (fromText_c _ H2.out _).mono ?_; rintro e w' ⟨rfl, rfl⟩) | (go_at_call_of 28 (Value.string a3); refine (fromText_c _ H3.out _).mono ?_; rintro e w' ⟨rfl, rfl⟩))
    go_cut [18, 20, 77] (fun u v x wc => u = .bool (decide (a2.size ≤ 5)) ∧ v = .bool (decide (a3.size ≤ 5)) ∧ x = .bool false ∧ wc = w')
    case first =>
      by_cases c2 : a2.size ≤ 5
      · have d2 : decide (a2.size ≤ 5) = true := by simpa using c2
        by_cases c3 : a3.size ≤ 5
        · have d3 : decide (a3.size ≤ 5) = true := by simpa using c3
          go_wp2
          go_meet
          case rel =>
            refine ⟨by rw [d2], by rw [d3], ?_, rfl⟩
            rw [txtB a2 a3 c2 c3]
            rfl
        · have d3 : decide (a3.size ≤ 5) = false := by simpa using c3
          go_wp2
          go_meet
          case rel => exact ⟨by rw [d2], by rw [d3], rfl, rfl⟩
      · have d2 : decide (a2.size ≤ 5) = false := by simpa using c2
        go_wp2
        go_meet
        case rel => exact ⟨by rw [d2], rfl, rfl, rfl⟩
    case rest =>
      obtain ⟨rfl, rfl, rfl, rfl⟩ := hcut
      clear s2 s3
      obtain ⟨i0, hi, hz0, hz1, hz2⟩ := info_parts Try.info64
      go_upto_if 82 with (first | (go_at_call 22; refine (fromNil_c _).mono ?_; rintro e w' ⟨rfl, rfl⟩) | (go_at_call 24; refine (fromBool_c _ _).mono ?_; rintro e w' ⟨rfl, rfl⟩))
      go_cut [14, 21] (fun _ v wc => wc.ownsRow w'.heap.size 22 1 v (L1 a0 a4).length (u64V (L1 a0 a4)) ∧ Below w'.heap.size w' wc)
      case first =>
        cases c0 : smallB a0
        · have HL := hid (show L1 a0 a4 = [18444492273895866368, boolW a4] by simp [L1, c0])
          go_wp2
          go_meet
          case rel => exact ⟨by rw [HL.out]; exact owns_two _ _ _, (Below.refl _ _).alloc (Nat.le_refl _) _⟩
        · have HL := hid (show L1 a0 a4 = [18444492273895866368, boolW a4] ++ [intW a0] by simp [L1, c0])
          go_wp2_with (at_builtin; refine wpList_append_own _ rfl _ _ 41 rfl w'.heap.size 22 i0 (.int .u64 0) 1 8 Try.underlying41 hi hz0 hz1 hz2 rfl (by decide) _ _ _ rfl ((owns_two w' 18444492273895866368 (boolW a4)).alloc _) ⟨_, 0, none⟩ 1 1 [.int .u64 (intW a0)] rfl rfl ?c1 ?c2 ?c3 ?c4 ?c5 ?_)
          case c1 =>
            intro j u hj
            match j, hj with
            | 0, hj => simp at hj; subst hj; simp [Addr.add]
          case c2 => intro u hu; simp at hu; subst hu; rfl
          case c3 => unfold maxLen; omega
          case c4 => omega
          case c5 => simp; omega
          · intro v' w1 hown' hgrow _
            have R2 : Below w'.heap.size w' w1 := (((Below.refl _ _).alloc (Nat.le_refl _) _).alloc (by simp) _).grown hgrow (by simp; omega) (fun g hg => by cases hg; exact Nat.le_refl _)
            clear hgrow
            go_wp2
            go_meet
            case rel => exact ⟨by rw [HL.out]; exact hown', R2⟩
      case rest =>
        obtain ⟨hown, hnx⟩ := hcut
        have hlen := L1_len a0 a4
        go_upto_if 87 with fail
        go_cut [18, 21] (fun _ v wd => wd.ownsRow w'.heap.size 22 1 v (L2 a0 a4 a2).length (u64V (L2 a0 a4 a2)) ∧ Below w'.heap.size w' wd)
        case first =>
          by_cases c0 : a2.size ≤ 5
          · have d0 : decide (a2.size ≤ 5) = true := by simpa using c0
            have HL := hid (show L2 a0 a4 a2 = L1 a0 a4 ++ [txtW a2] by simp [L2, c0])
            go_wp2_with (at_builtin; refine wpList_append_own _ rfl _ _ 41 rfl w'.heap.size 22 i0 (.int .u64 0) 1 8 Try.underlying41 hi hz0 hz1 hz2 rfl (by decide) _ _ _ rfl (hown.alloc _) ⟨_, 0, none⟩ 1 1 [.int .u64 (txtW a2)] rfl rfl ?c1 ?c2 ?c3 ?c4 ?c5 ?_)
            case c1 =>
              intro j u hj
              match j, hj with
              | 0, hj => simp at hj; subst hj; simp [Addr.add]
            case c2 => intro u hu; simp at hu; subst hu; rfl
            case c3 => unfold maxLen; omega
            case c4 => omega
            case c5 => have := hnx.size; simp; omega
            · intro v' w1 hown' hgrow _
              have R2 : Below w'.heap.size w' w1 := (hnx.alloc (by have := hnx.size; omega) _).grown hgrow (by have := hnx.size; simp; omega) (fun g hg => (hown.lt g hg).1)
              clear hgrow
              go_wp2
              go_meet
              case rel => exact ⟨by rw [HL.out]; simpa [u64V] using hown', R2⟩
          · have d0 : decide (a2.size ≤ 5) = false := by simpa using c0
            have HL := hid (show L2 a0 a4 a2 = L1 a0 a4 by simp [L2, c0])
            go_wp2
            go_meet
            case rel => exact ⟨by rw [HL.out]; exact hown, hnx⟩
        case rest =>
          clear hown hnx hlen
          obtain ⟨hown, hnx⟩ := hcut
          obtain ⟨up1, up2⟩ := L2_up a0 a4 a2
          obtain ⟨ln1, ln2⟩ := L2_len a0 a4 a2
          generalize L2 a0 a4 a2 = l at *
          obtain ⟨g, cap, rfl, hcap, hcm, hcell⟩ := owns_cells hown ln1
          unfold maxLen at hcm
          have HC := hid hcell
          have U1 := hid up1
          have U2 := hid (show ∀ i, i < l.length → 18444492273895866368 ≤ l.getD i 0 ∧ l.getD i 0 < 18445336698825998336 from fun i hi => up2 _ (by simp [List.getD_eq_getElem?_getD, List.getElem?_eq_getElem hi]))
          have HN := hid hnx
          clear hcell up1 up2 hown hnx hi hz0 hz1 hz2 i0
          go_wp2_with fail
          go_loopw [22] (fun i wr => ∃ k m : Nat, k ≤ l.length ∧ i = .int .i64 k ∧ wr = wc.drewN m) (fun i _ => l.length - (intOf i).toNat)
          case atStart => exact ⟨0, 0, Nat.zero_le _, rfl, rfl⟩
          case round =>
            obtain ⟨k, m, hk, rfl, hm⟩ := hrel
            have HM := hid hm
            clear hm
            by_cases hlt : k < l.length
            · obtain ⟨x, hx⟩ : ∃ x, l.getD k 0 = x := ⟨_, rfl⟩
              have hx1 : wr.cell? ⟨g, k, none⟩ = some (.int .u64 x) := by rw [HM.out, ← hx]; simpa using HC.out k hlt
              obtain ⟨hx2, hx3⟩ := U2.out k hlt
              rw [hx] at hx2 hx3
              obtain ⟨hx4, hx5⟩ := tag_no x ⟨hx2, hx3⟩
              have HX := hid hx
              clear hx
              obtain ⟨wo, rfl⟩ : ∃ wo : World, wo = wr := ⟨_, rfl⟩
              go_wp2_with fail
              go_loopw [23] (fun j wr => ∃ p q : Nat, p ≤ k ∧ j = .int .i64 p ∧ wr = wo.drewN q) (fun j _ => k - (intOf j).toNat)
              case atStart => exact ⟨0, 0, Nat.zero_le _, rfl, rfl⟩
              case round =>
                obtain ⟨p, q, hp, rfl, hq⟩ := hrel
                have HQ := hid hq
                clear hq
                have hx1' : wr.cell? ⟨g, k, none⟩ = some (.int .u64 x) := by rw [HQ.out]; simpa using hx1
                clear hx1
                by_cases hlt2 : p < k
                · obtain ⟨y, hy⟩ : ∃ y, l.getD p 0 = y := ⟨_, rfl⟩
                  have hy1 : wr.cell? ⟨g, p, none⟩ = some (.int .u64 y) := by rw [HQ.out, HM.out, ← hy]; simpa using HC.out p (by omega)
                  have hy2 := up_ne l U1.out k p hlt2 hlt
                  rw [HX.out, hy] at hy2
                  have HY := hid hy
                  clear hy
                  go_wp2_with fail
                  go_quiet (fail)
                  go_wp2_with fail
                  exact ⟨⟨p + 1, q + nq, hlt2, by go_num, by rw [HQ.out, World.drewN_drewN]⟩, by simp [intOf]; omega⟩
                · go_wp2_with (first | (go_at_call 9; refine (class_c _ (by omega) (by omega) _).mono ?_; rintro e w1 ⟨rfl, rfl⟩) | (go_at_call 20; refine (fromFloat_c _ (by omega) (by omega) _).mono ?_; rintro e w1 ⟨rfl, rfl⟩))
                  exact ⟨⟨k + 1, m + q, hlt, by go_num, by rw [HQ.out, HM.out, World.drewN_drewN]⟩, by simp [intOf]; omega⟩
            · have hbb : ((boolW a4 == boolW a5) == (a4 == a5)) = true := by cases a4 <;> cases a5 <;> decide
              go_wp2_with (first | (go_at_call 24; refine (fromBool_c _ _).mono ?_; rintro e w1 ⟨rfl, rfl⟩) | (go_at_call 19; refine (awake_c _).mono ?_; rintro e w1 ⟨rfl, rfl⟩))
              go_ret
              exact ⟨rfl, by rw [HM.out]; exact below_drewN HN.out _⟩
end Go.Proofs.Ytjkabijejhmhkaa.W
