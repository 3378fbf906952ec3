/- The walk of the statement WordBack: it returns true at every input. -/
import Derived.Test.YtjkabijejhmhkaaBack
import Derived.Test.YtjkabijejhmhkaaToTxt
import Derived.OpenShut
import Derived.Deep.DeepCutAuto
namespace Go.Proofs.Ytjkabijejhmhkaa.W
open Go.ChangeShapes Go.WideShapes Go.RowKit

set_option maxHeartbeats 4000000 in
set_option maxRecDepth 1000000 in
theorem wordBack_walk (a0 : Int) (a1 : Int) (a2 : Int) (a3 : ByteArray) (a4 : Int) (w0 : (Lit.int .u64 a0).wf = true) (w1 : (Lit.int .u64 a1).wf = true) (w2 : (Lit.int .i64 a2).wf = true) (w3 : a3.size ≤ maxLen) (w4 : (Lit.int .u64 a4).wf = true) (w : World) :
    Calls Try.prog 5 #[.int .u64 a0, .int .u64 a1, .int .i64 a2, .string a3, .int .u64 a4] w fun e w' => e = .returned (.bool true) ∧ Below w.heap.size w w' := by
  obtain ⟨h0, h0'⟩ := bounds_u64 w0
  obtain ⟨h1, h1'⟩ := bounds_u64 w1
  obtain ⟨h2, h2'⟩ := bounds_i64 w2
  obtain ⟨h4, h4'⟩ := bounds_u64 w4
  have hs := hid w3
  unfold maxLen at w3
  clear w0 w1 w2 w4
  by_cases s0 : 1000 < a3.size
  · go_enter Try.func5, Try.ntmps5
    go_wp2
    go_ret
    exact ⟨rfl, Below.refl _ _⟩
  go_enter Try.func5, Try.ntmps5
  go_upto_if 50 with (go_at_call 26; refine (fromInt_c _ (by omega) (by omega) _).mono ?_; rintro e w' ⟨rfl, rfl⟩)
  go_cut [11, 12] (fun _ _ wc => wc = w')
  case first =>
    cases c : smallB a2
    · have c' := c
      simp only [smallB, decide_eq_false_iff_not] at c'
      by_cases d : -140737488355328 ≤ a2
      · have d' : 140737488355328 ≤ a2 := by omega
        clear c'
        go_wp2
        go_meet
        case rel => rfl
      · clear c'
        go_wp2
        go_meet
        case rel => rfl
    · obtain ⟨b1, b2⟩ := intW_bd a2 c
      have b3 := intW_cls a2 c
      have b4 := toInt_intW a2 c
      go_wp2_with (first | (go_at_call 11; refine (toInt_c _ (by omega) (by omega) _).mono ?_; rintro e w' ⟨rfl, rfl⟩) | (go_at_call 9; refine (class_c _ (by omega) (by omega) _).mono ?_; rintro e w' ⟨rfl, rfl⟩))
      go_meet
      case rel => rfl
  case rest =>
    subst hcut
    go_upto_if 79 with (go_at_call 28; refine (fromText_c _ hs.out _).mono ?_; rintro e w' ⟨rfl, rfl⟩)
    go_cut [15, 16] (fun _ _ wc => Below w'.heap.size w' wc)
    case first =>
      by_cases c : a3.size ≤ 5
      · have b0 : decide (a3.size ≤ 5) = true := by simpa using c
        have b1 : 0 ≤ txtW a3 ∧ txtW a3 < 18446744073709551616 := by
          have := enc_lt a3 c
          simp only [txtW, if_pos c]; omega
        obtain ⟨b1, b2⟩ := b1
        have b3 := txtW_cls a3 c
        have b4 := toTxt_txtW a3 c
        go_wp2_with (first | (go_at_call 15; refine (toText_c _ (by omega) (by omega) _).mono ?_; rintro e w1 ⟨rfl, hb1⟩) | (go_at_call 9; refine (class_c _ (by omega) (by omega) _).mono ?_; rintro e w' ⟨rfl, rfl⟩))
        go_meet
        case rel => assumption
      · have b0 : decide (a3.size ≤ 5) = false := by simpa using c
        go_wp2
        go_meet
        case rel => exact Below.refl _ _
    case rest =>
      clear w3 s0 hs
      go_upto_if 105 with (go_at_call 30; refine (fromHandle_c _ (by omega) _).mono ?_; rintro e w2 ⟨rfl, rfl⟩)
      go_cut [19, 20] (fun _ _ wc => wc = w2)
      case first =>
        by_cases c : a4 < 281474976710656
        · have b0 : decide (a4 < 281474976710656) = true := by simpa using c
          have b1 : 0 ≤ hdlW a4 ∧ hdlW a4 < 18446744073709551616 := by simp only [hdlW, if_pos c]; omega
          obtain ⟨b1, b2⟩ := b1
          have b3 := hdlW_cls a4 h4 c
          have b4 := toHdl_hdlW a4 h4 c
          go_wp2_with (first | (go_at_call 17; refine (toHandle_c _ (by omega) (by omega) _).mono ?_; rintro e w' ⟨rfl, rfl⟩) | (go_at_call 9; refine (class_c _ (by omega) (by omega) _).mono ?_; rintro e w' ⟨rfl, rfl⟩))
          go_meet
          case rel => rfl
        · have b0 : decide (a4 < 281474976710656) = false := by simpa using c
          go_wp2
          go_meet
          case rel => rfl
      case rest =>
        subst hcut
        clear h4 h4' h2 h2'
        obtain ⟨f1, f2⟩ := fltW_bd a1 h1 (by omega)
        have f3 := fltW_cls a1
        have f4 := fltW_fltW a1
        go_upto_if 133 with (first | (go_at_call 20; refine (fromFloat_c _ (by omega) (by omega) _).mono ?_; rintro e w3 ⟨rfl, rfl⟩) | (go_at_call 9; refine (class_c _ (by omega) (by omega) _).mono ?_; rintro e w3 ⟨rfl, rfl⟩))
        rcases cls_range a0 with c | c | c | c | c | c | c
        · have k1 := back1 a0 c
          go_wp2_with (first | (go_at_call 20; refine (fromFloat_c _ (by omega) (by omega) _).mono ?_; rintro e w' ⟨rfl, rfl⟩) | (go_at_call 9; refine (class_c _ (by omega) (by omega) _).mono ?_; rintro e w' ⟨rfl, rfl⟩) | (go_at_call 11; refine (toInt_c _ (by omega) (by omega) _).mono ?_; rintro e w' ⟨rfl, rfl⟩) | (go_at_call 26; refine (fromInt_c _ (by omega) (by omega) _).mono ?_; rintro e w' ⟨rfl, rfl⟩) | (go_at_call 22; refine (fromNil_c _).mono ?_; rintro e w' ⟨rfl, rfl⟩) | (go_at_call 13; refine (toBool_c _ (by omega) (by omega) _).mono ?_; rintro e w' ⟨rfl, rfl⟩) | (go_at_call 24; refine (fromBool_c _ _).mono ?_; rintro e w' ⟨rfl, rfl⟩) | (go_at_call 15; refine (toText_c _ (by omega) (by omega) _).mono ?_; rintro e w1 ⟨rfl, hb1⟩) | (go_at_call 28; refine (fromText_c _ (by unfold maxLen; omega) _).mono ?_; rintro e w' ⟨rfl, rfl⟩) | (go_at_call 17; refine (toHandle_c _ (by omega) (by omega) _).mono ?_; rintro e w' ⟨rfl, rfl⟩) | (go_at_call 30; refine (fromHandle_c _ (by omega) _).mono ?_; rintro e w' ⟨rfl, rfl⟩) | (go_at_call 19; refine (awake_c _).mono ?_; rintro e w' ⟨rfl, rfl⟩))
          go_ret
          exact ⟨rfl, hcut⟩
        · obtain ⟨k1, k2, k3, k4⟩ := back2 a0 c
          go_wp2_with (first | (go_at_call 20; refine (fromFloat_c _ (by omega) (by omega) _).mono ?_; rintro e w' ⟨rfl, rfl⟩) | (go_at_call 9; refine (class_c _ (by omega) (by omega) _).mono ?_; rintro e w' ⟨rfl, rfl⟩) | (go_at_call 11; refine (toInt_c _ (by omega) (by omega) _).mono ?_; rintro e w' ⟨rfl, rfl⟩) | (go_at_call 26; refine (fromInt_c _ (by omega) (by omega) _).mono ?_; rintro e w' ⟨rfl, rfl⟩) | (go_at_call 22; refine (fromNil_c _).mono ?_; rintro e w' ⟨rfl, rfl⟩) | (go_at_call 13; refine (toBool_c _ (by omega) (by omega) _).mono ?_; rintro e w' ⟨rfl, rfl⟩) | (go_at_call 24; refine (fromBool_c _ _).mono ?_; rintro e w' ⟨rfl, rfl⟩) | (go_at_call 15; refine (toText_c _ (by omega) (by omega) _).mono ?_; rintro e w1 ⟨rfl, hb1⟩) | (go_at_call 28; refine (fromText_c _ (by unfold maxLen; omega) _).mono ?_; rintro e w' ⟨rfl, rfl⟩) | (go_at_call 17; refine (toHandle_c _ (by omega) (by omega) _).mono ?_; rintro e w' ⟨rfl, rfl⟩) | (go_at_call 30; refine (fromHandle_c _ (by omega) _).mono ?_; rintro e w' ⟨rfl, rfl⟩) | (go_at_call 19; refine (awake_c _).mono ?_; rintro e w' ⟨rfl, rfl⟩))
          go_ret
          exact ⟨rfl, hcut⟩
        · have k1 := cls_is3 a0 c
          subst k1
          go_wp2_with (first | (go_at_call 20; refine (fromFloat_c _ (by omega) (by omega) _).mono ?_; rintro e w' ⟨rfl, rfl⟩) | (go_at_call 9; refine (class_c _ (by omega) (by omega) _).mono ?_; rintro e w' ⟨rfl, rfl⟩) | (go_at_call 11; refine (toInt_c _ (by omega) (by omega) _).mono ?_; rintro e w' ⟨rfl, rfl⟩) | (go_at_call 26; refine (fromInt_c _ (by omega) (by omega) _).mono ?_; rintro e w' ⟨rfl, rfl⟩) | (go_at_call 22; refine (fromNil_c _).mono ?_; rintro e w' ⟨rfl, rfl⟩) | (go_at_call 13; refine (toBool_c _ (by omega) (by omega) _).mono ?_; rintro e w' ⟨rfl, rfl⟩) | (go_at_call 24; refine (fromBool_c _ _).mono ?_; rintro e w' ⟨rfl, rfl⟩) | (go_at_call 15; refine (toText_c _ (by omega) (by omega) _).mono ?_; rintro e w1 ⟨rfl, hb1⟩) | (go_at_call 28; refine (fromText_c _ (by unfold maxLen; omega) _).mono ?_; rintro e w' ⟨rfl, rfl⟩) | (go_at_call 17; refine (toHandle_c _ (by omega) (by omega) _).mono ?_; rintro e w' ⟨rfl, rfl⟩) | (go_at_call 30; refine (fromHandle_c _ (by omega) _).mono ?_; rintro e w' ⟨rfl, rfl⟩) | (go_at_call 19; refine (awake_c _).mono ?_; rintro e w' ⟨rfl, rfl⟩))
          go_ret
          exact ⟨rfl, hcut⟩
        · have k1 := back4 a0 c
          go_wp2_with (first | (go_at_call 20; refine (fromFloat_c _ (by omega) (by omega) _).mono ?_; rintro e w' ⟨rfl, rfl⟩) | (go_at_call 9; refine (class_c _ (by omega) (by omega) _).mono ?_; rintro e w' ⟨rfl, rfl⟩) | (go_at_call 11; refine (toInt_c _ (by omega) (by omega) _).mono ?_; rintro e w' ⟨rfl, rfl⟩) | (go_at_call 26; refine (fromInt_c _ (by omega) (by omega) _).mono ?_; rintro e w' ⟨rfl, rfl⟩) | (go_at_call 22; refine (fromNil_c _).mono ?_; rintro e w' ⟨rfl, rfl⟩) | (go_at_call 13; refine (toBool_c _ (by omega) (by omega) _).mono ?_; rintro e w' ⟨rfl, rfl⟩) | (go_at_call 24; refine (fromBool_c _ _).mono ?_; rintro e w' ⟨rfl, rfl⟩) | (go_at_call 15; refine (toText_c _ (by omega) (by omega) _).mono ?_; rintro e w1 ⟨rfl, hb1⟩) | (go_at_call 28; refine (fromText_c _ (by unfold maxLen; omega) _).mono ?_; rintro e w' ⟨rfl, rfl⟩) | (go_at_call 17; refine (toHandle_c _ (by omega) (by omega) _).mono ?_; rintro e w' ⟨rfl, rfl⟩) | (go_at_call 30; refine (fromHandle_c _ (by omega) _).mono ?_; rintro e w' ⟨rfl, rfl⟩) | (go_at_call 19; refine (awake_c _).mono ?_; rintro e w' ⟨rfl, rfl⟩))
          go_ret
          exact ⟨rfl, hcut⟩
        · obtain ⟨k1, k2⟩ := back5 a0 c
          have k3 : decide ((toTxt a0).size ≤ 5) = true := by simpa using k2
          go_wp2_with (first | (go_at_call 20; refine (fromFloat_c _ (by omega) (by omega) _).mono ?_; rintro e w' ⟨rfl, rfl⟩) | (go_at_call 9; refine (class_c _ (by omega) (by omega) _).mono ?_; rintro e w' ⟨rfl, rfl⟩) | (go_at_call 11; refine (toInt_c _ (by omega) (by omega) _).mono ?_; rintro e w' ⟨rfl, rfl⟩) | (go_at_call 26; refine (fromInt_c _ (by omega) (by omega) _).mono ?_; rintro e w' ⟨rfl, rfl⟩) | (go_at_call 22; refine (fromNil_c _).mono ?_; rintro e w' ⟨rfl, rfl⟩) | (go_at_call 13; refine (toBool_c _ (by omega) (by omega) _).mono ?_; rintro e w' ⟨rfl, rfl⟩) | (go_at_call 24; refine (fromBool_c _ _).mono ?_; rintro e w' ⟨rfl, rfl⟩) | (go_at_call 15; refine (toText_c _ (by omega) (by omega) _).mono ?_; rintro e w1 ⟨rfl, hb1⟩) | (go_at_call 28; refine (fromText_c _ (by unfold maxLen; omega) _).mono ?_; rintro e w' ⟨rfl, rfl⟩) | (go_at_call 17; refine (toHandle_c _ (by omega) (by omega) _).mono ?_; rintro e w' ⟨rfl, rfl⟩) | (go_at_call 30; refine (fromHandle_c _ (by omega) _).mono ?_; rintro e w' ⟨rfl, rfl⟩) | (go_at_call 19; refine (awake_c _).mono ?_; rintro e w' ⟨rfl, rfl⟩))
          go_ret
          exact ⟨rfl, hcut.trans (hb1.mono hcut.size)⟩
        · obtain ⟨k1, k2, k3⟩ := back6 a0 c
          have k4 : decide (toHdl a0 < 281474976710656) = true := by simpa using k3
          go_wp2_with (first | (go_at_call 20; refine (fromFloat_c _ (by omega) (by omega) _).mono ?_; rintro e w' ⟨rfl, rfl⟩) | (go_at_call 9; refine (class_c _ (by omega) (by omega) _).mono ?_; rintro e w' ⟨rfl, rfl⟩) | (go_at_call 11; refine (toInt_c _ (by omega) (by omega) _).mono ?_; rintro e w' ⟨rfl, rfl⟩) | (go_at_call 26; refine (fromInt_c _ (by omega) (by omega) _).mono ?_; rintro e w' ⟨rfl, rfl⟩) | (go_at_call 22; refine (fromNil_c _).mono ?_; rintro e w' ⟨rfl, rfl⟩) | (go_at_call 13; refine (toBool_c _ (by omega) (by omega) _).mono ?_; rintro e w' ⟨rfl, rfl⟩) | (go_at_call 24; refine (fromBool_c _ _).mono ?_; rintro e w' ⟨rfl, rfl⟩) | (go_at_call 15; refine (toText_c _ (by omega) (by omega) _).mono ?_; rintro e w1 ⟨rfl, hb1⟩) | (go_at_call 28; refine (fromText_c _ (by unfold maxLen; omega) _).mono ?_; rintro e w' ⟨rfl, rfl⟩) | (go_at_call 17; refine (toHandle_c _ (by omega) (by omega) _).mono ?_; rintro e w' ⟨rfl, rfl⟩) | (go_at_call 30; refine (fromHandle_c _ (by omega) _).mono ?_; rintro e w' ⟨rfl, rfl⟩) | (go_at_call 19; refine (awake_c _).mono ?_; rintro e w' ⟨rfl, rfl⟩))
          go_ret
          exact ⟨rfl, hcut⟩
        · have k1 := back7 a0 c
          go_wp2_with (first | (go_at_call 20; refine (fromFloat_c _ (by omega) (by omega) _).mono ?_; rintro e w' ⟨rfl, rfl⟩) | (go_at_call 9; refine (class_c _ (by omega) (by omega) _).mono ?_; rintro e w' ⟨rfl, rfl⟩) | (go_at_call 11; refine (toInt_c _ (by omega) (by omega) _).mono ?_; rintro e w' ⟨rfl, rfl⟩) | (go_at_call 26; refine (fromInt_c _ (by omega) (by omega) _).mono ?_; rintro e w' ⟨rfl, rfl⟩) | (go_at_call 22; refine (fromNil_c _).mono ?_; rintro e w' ⟨rfl, rfl⟩) | (go_at_call 13; refine (toBool_c _ (by omega) (by omega) _).mono ?_; rintro e w' ⟨rfl, rfl⟩) | (go_at_call 24; refine (fromBool_c _ _).mono ?_; rintro e w' ⟨rfl, rfl⟩) | (go_at_call 15; refine (toText_c _ (by omega) (by omega) _).mono ?_; rintro e w1 ⟨rfl, hb1⟩) | (go_at_call 28; refine (fromText_c _ (by unfold maxLen; omega) _).mono ?_; rintro e w' ⟨rfl, rfl⟩) | (go_at_call 17; refine (toHandle_c _ (by omega) (by omega) _).mono ?_; rintro e w' ⟨rfl, rfl⟩) | (go_at_call 30; refine (fromHandle_c _ (by omega) _).mono ?_; rintro e w' ⟨rfl, rfl⟩) | (go_at_call 19; refine (awake_c _).mono ?_; rintro e w' ⟨rfl, rfl⟩))
          go_ret
          exact ⟨rfl, hcut.trans (hb1.mono hcut.size)⟩
end Go.Proofs.Ytjkabijejhmhkaa.W
