import Derived.Test.YtbgabpgohkcahaaV7dJ
import Derived.Test.YtbgabpgohkcahaaRefClsJ
import Derived.Test.YtbgabpgohkcahaaBase7
/- casketlaw7's awake; plain, told. -/
namespace Go.Proofs.Ytbgabpgohkcahaa.W
open Go.ChangeShapes Go.WideShapes Go.RowKit Go.Shelf
set_option linter.unusedVariables false
theorem sm5 : smallB 5 = true := by decide
theorem smX : smallB 140737488355328 = false := by decide
theorem awake7_c (W : World) : Calls Try.prog 12 #[] W fun e w' => e = .returned (.bool true) ∧ Below W.heap.size W w' := by
  have cn := hs_new (Below.refl W.heap.size W) 9 (by decide)
  rw [show ((9 : Nat) : Int) = 9 from rfl] at cn
  go_enter Try.func12, Try.ntmps12
  go_upto_region 4 with (go_at_call 6; (with_reducible refine cn.mono ?_); rintro e W1 ⟨hb, rfl, q1⟩; clear cn)
  have c1 := box_int (.pointer (some ⟨hb, 0, none⟩)) (.slice none 0 0) 5 (fun w e w' => e = .returned (.tuple #[.int .u64 18444773748872577029, .int .i64 0]) ∧ w' = w) (fun w e w' h => ⟨_, _, h.1⟩) W1 (fun w _ => boxInt_small _ _ 5 (by decide) (by decide) sm5 w)
  go_upto_region 5 with (go_at_call 7; (with_reducible refine c1.mono ?_); rintro e W2 ⟨w, hB2, rfl, rfl⟩; clear c1)
  have q2 := q1.below hB2
  have c2 := box_int (.pointer (some ⟨hb, 0, none⟩)) (.slice none 0 0) 140737488355328 (fun w e w' => HsPost W hb (roomH [] 9 (.num 140737488355328) []) 9 (.num 140737488355328) e w') (fun w e w' h => by rcases h with ⟨_, rfl, _⟩ | ⟨_, rfl, _⟩ <;> exact ⟨_, _, rfl⟩) W2 (fun w hB => boxInt_big q2 hB (.slice none 0 0) [] (words_nil w _ _) 140737488355328 (by decide) (by decide) smX)
  have c2' : Calls Try.prog 7 #[.pointer (some ⟨hb, 0, none⟩), .agg #[.int .i64 2, .int .i64 140737488355328, .int .u64 0, .string ⟨#[]⟩, .int .u64 0], .slice none 0 0] W2 fun e w' => e = .returned (.tuple #[.int .u64 18445336698825998336, .int .i64 0]) ∧ Hs W w' hb [some (.num 140737488355328)] 9 := by
    refine c2.mono ?_
    rintro e w' ⟨_, _, h⟩
    have := h.fits (by rw [aw_need0]; decide)
    exact this
  clear c2
  go_upto_region 6 with (go_at_call 7; (with_reducible refine c2'.mono ?_); rintro e W3 ⟨rfl, q3⟩; clear c2')
  obtain ⟨sb, vc, T, l3⟩ := q3.2.lay
  have c3 := unbox_num l3 18445336698825998336 (by decide) (by decide) 0 (by decide) 140737488355328 rfl
  rw [show ((18445336698825998336 : Nat) : Int) = 18445336698825998336 from rfl] at c3
  have b3 := hid q3.1
  clear q1 q2 q3 l3
  go_wp2_with (go_at_call 9; (with_reducible refine c3.mono ?_); rintro e W4 ⟨rfl, hB4⟩; clear c3)
  go_ret
  have b4 := b3.out.trans (hB4.mono b3.out.size)
  exact ⟨rfl, b4.alloc b4.size _⟩
end Go.Proofs.Ytbgabpgohkcahaa.W
