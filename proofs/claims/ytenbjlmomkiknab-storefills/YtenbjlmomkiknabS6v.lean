/- A row of one's own beside a store grows by append, and is written. -/
import Derived.Test.YtenbjlmomkiknabS6u
import Derived.Test.YtenbjlmomkiknabS5w
namespace Go.Proofs.Ytenbjlmomkiknab.W
open Go.ChangeShapes Go.WideShapes Go.RowKit Go.Shelf
set_option linter.unusedVariables false
section
variable {W : World} {sb : Nat} {A : List (Option (List Nat))} {B : Nat} {v : Value} {n : Nat} {xs : List Value}
theorem owns_base {b b' : Nat} {e : TypeId} {size : Nat} (h : W.ownsRow b e size v n xs) (hb : ∀ g, v.ownBlock = some g → b' ≤ g) : W.ownsRow b' e size v n xs := by
  refine ⟨h.1, ?_⟩
  rcases h.2 with hn | ⟨g, cap, cur, rfl, _, rest⟩
  · exact .inl hn
  · exact .inr ⟨g, cap, cur, rfl, hb g rfl, rest⟩
theorem under34 : Try.prog.underlying 41 = some (.slice 3) := by kernel_rfl
theorem both_append (h : Both B W sb A v n xs) (hB : B ≤ W.heap.size) (ty : TypeId) (a : Addr) (c : Nat) (x : Int) (hx : W.cell? (a.add 0) = some (.int .i64 x)) (hn : n ≤ 1000) :
    ∃ v' w', (Builtin.append_ #[41, 41] ty #[v, .slice (some a) 1 c]).run Try.prog W = .ok v' w' ∧ Both B w' sb A v' (n + 1) (xs ++ [.int .i64 x]) ∧ Below B W w' := by
  obtain ⟨i0, hi, hz0, hz1, hz2⟩ := info_parts info3
  obtain ⟨S, h1, h2, h3⟩ := h.ex
  have hbase : ∀ g, v.ownBlock = some g → B ≤ g := fun g hg => (h.own.lt g hg).1
  obtain ⟨v', w', hr, ho, hg, hat⟩ := append_at W 41 ty 3 i0 (.int .i64 0) 1 8 under34 hi hz0 hz1 hz2 rfl (by decide) v n xs (owns_base h.own (fun _ _ => Nat.zero_le _)) a 1 c [.int .i64 x] rfl (by
    intro j u hj
    match j, hj with
    | 0, hj => simp at hj; subst hj; exact hx) (by intro u hu; simp at hu; subst hu; rfl) (by decide) (by decide) (by omega)
  have hs := hg.size
  have hU : Upd (fun k => v.ownBlock = some k) W w' := (Upd.refl _ W).grown hg (fun k e => .inl e)
  refine ⟨v', w', hr, ⟨⟨S, ?_, fun k hk => ⟨(h2 k hk).1, by have := (h2 k hk).2; omega⟩, ?_⟩, owns_base ho ?_⟩, hU.below hB hbase⟩
  · exact h1.on (fun k hk => hU.block k (h2 k hk).2 (fun e => h3 k e hk))
  · intro k hk hS
    rcases hat k hk with e | e
    · exact h3 k e hS
    · have := (h2 k hS).2; omega
  · intro g hg'
    rcases hat g hg' with e | e
    · exact hbase g e
    · omega
end
end Go.Proofs.Ytenbjlmomkiknab.W
