import Derived.Test.YtaebnnkhjlidiabBase23
import Derived.Test.YtaebnnkhjlidiabBase24
import Derived.Test.YtaebnnkhjlidiabBase25
/- casketlaw7's awake; plain, told. -/
namespace Go.Proofs.Ytaebnnkhjlidiab.W
open Go.ChangeShapes Go.WideShapes Go.RowKit Go.Shelf
set_option linter.unusedVariables false
theorem lplain_yes (kd i bi re : Int) (t : ByteArray) (h : PV kd i bi re t) (W : World) : Calls Try.prog 18 #[.agg #[.int .i64 kd, .int .i64 i, .int .u64 bi, .string t, .int .u64 re]] W fun e w' => e = .returned (.bool true) ∧ Below W.heap.size W w' := by
  rcases h with ⟨rfl, rfl, rfl, rfl, rfl⟩ | ⟨rfl, hi, rfl, rfl, rfl⟩ | ⟨rfl, rfl, rfl, rfl⟩ | ⟨rfl, rfl, rfl, rfl⟩ | ⟨rfl, rfl, rfl, rfl⟩
  · go_enter Try.func18, Try.ntmps18; go_wp2; go_ret; exact ⟨rfl, (Below.refl _ W).alloc (Nat.le_refl _) _⟩
  · rcases hi with rfl | rfl
    · go_enter Try.func18, Try.ntmps18; go_wp2; go_ret; exact ⟨rfl, (Below.refl _ W).alloc (Nat.le_refl _) _⟩
    · go_enter Try.func18, Try.ntmps18; go_wp2; go_ret; exact ⟨rfl, (Below.refl _ W).alloc (Nat.le_refl _) _⟩
  · go_enter Try.func18, Try.ntmps18; go_wp2; go_ret; exact ⟨rfl, (Below.refl _ W).alloc (Nat.le_refl _) _⟩
  · go_enter Try.func18, Try.ntmps18; go_wp2; go_ret; exact ⟨rfl, (Below.refl _ W).alloc (Nat.le_refl _) _⟩
  · go_enter Try.func18, Try.ntmps18; go_wp2; go_ret; exact ⟨rfl, (Below.refl _ W).alloc (Nat.le_refl _) _⟩
theorem lplain_no (kd i bi re : Int) (t : ByteArray) (h : ¬ PV kd i bi re t) (W : World) : Calls Try.prog 18 #[.agg #[.int .i64 kd, .int .i64 i, .int .u64 bi, .string t, .int .u64 re]] W fun e w' => e = .returned (.bool false) ∧ Below W.heap.size W w' := by
  refine (lplain_c kd i bi re t W).mono ?_
  rintro e w' ⟨b, rfl, hb, hB⟩
  cases b
  · exact ⟨rfl, hB⟩
  · exact absurd (hb rfl) h
theorem sm5 : smallB 5 = true := by decide
theorem smX : smallB 140737488355328 = false := by decide
theorem awake7_c (W : World) : Calls Try.prog 16 #[] W fun e w' => e = .returned (.bool true) ∧ Below W.heap.size W w' := by
  have cn := hs_new (Below.refl W.heap.size W) 9 (by decide)
  rw [show ((9 : Nat) : Int) = 9 from rfl] at cn
  go_enter Try.func16, Try.ntmps16
  go_upto_region 4 with (go_at_call 7; (with_reducible refine cn.mono ?_); rintro e W1 ⟨hb, rfl, q1⟩; clear cn)
  have c1 := box_int (.pointer (some ⟨hb, 0, none⟩)) (.slice none 0 0) 5 (fun w e w' => e = .returned (.tuple #[.int .u64 18444773748872577029, .int .i64 0]) ∧ w' = w) (fun w e w' h => ⟨_, _, h.1⟩) W1 (fun w _ => boxInt_small _ _ 5 (by decide) (by decide) sm5 w)
  go_upto_region 5 with (go_at_call 12; (with_reducible refine c1.mono ?_); rintro e W2 ⟨w, hB2, rfl, rfl⟩; clear c1)
  have q2 := q1.below hB2
  have c2 := box_int (.pointer (some ⟨hb, 0, none⟩)) (.slice none 0 0) 140737488355328 (fun w e w' => HsPost W hb (roomH [] 9 (.num 140737488355328) []) 9 (.num 140737488355328) e w') (fun w e w' h => by rcases h with ⟨_, rfl, _⟩ | ⟨_, rfl, _⟩ <;> exact ⟨_, _, rfl⟩) W2 (fun w hB => boxInt_big q2 hB (.slice none 0 0) [] (words_nil w _ _) 140737488355328 (by decide) (by decide) smX)
  have c2' : Calls Try.prog 12 #[.pointer (some ⟨hb, 0, none⟩), .agg #[.int .i64 2, .int .i64 140737488355328, .int .u64 0, .string ⟨#[]⟩, .int .u64 0], .slice none 0 0] W2 fun e w' => e = .returned (.tuple #[.int .u64 18445336698825998336, .int .i64 0]) ∧ Hs W w' hb [some (.num 140737488355328)] 9 := by
    refine c2.mono ?_
    rintro e w' ⟨_, _, h⟩
    have := h.fits (by rw [aw_need0]; decide)
    exact this
  clear c2
  go_upto_region 6 with (go_at_call 12; (with_reducible refine c2'.mono ?_); rintro e W3 ⟨rfl, q3⟩; clear c2')
  obtain ⟨sb, vc, T, l3⟩ := q3.2.lay
  have c3 := unbox_num l3 18445336698825998336 (by decide) (by decide) 0 (by decide) 140737488355328 rfl
  rw [show ((18445336698825998336 : Nat) : Int) = 18445336698825998336 from rfl] at c3
  have b3 := hid q3.1
  clear q1 q2 q3 l3
  go_wp2_with (go_at_call 14; (with_reducible refine c3.mono ?_); rintro e W4 ⟨rfl, hB4⟩; clear c3)
  go_ret
  have b4 := b3.out.trans (hB4.mono b3.out.size)
  exact ⟨rfl, b4.alloc b4.size _⟩
end Go.Proofs.Ytaebnnkhjlidiab.W
