/- StoreFills: rows that came in, rows of one's own beside a store. -/
import Derived.Test.YtenbjlmomkiknabS6s
import Derived.Test.YtenbjlmomkiknabS6t
import Derived.Test.YtenbjlmomkiknabS5p
namespace Go.Proofs.Ytenbjlmomkiknab.W
open Go.ChangeShapes Go.WideShapes Go.RowKit Go.Shelf
set_option linter.unusedVariables false
/-- a slice of integers that came in -/
def IsRow (k : IntKind) (w : World) (a : Option Addr) (len cap : Nat) (zs : List Int) : Prop :=
  (a = none ∧ len = 0 ∧ cap = 0 ∧ zs = []) ∨
  ∃ x, a = some x ∧ len ≤ cap ∧ cap ≤ maxLen ∧ zs.length = cap ∧ (∀ i, i < zs.length → w.cell? (x.add i) = some (.int k (zs.getD i 0))) ∧ ∀ n ∈ zs, (Lit.int k n).wf = true
section
variable {W W' : World} {sb : Nat} {S : Nat → Prop} {A : List (Option (List Nat))} {U N : Nat}
/-- blocks of the store being as they were, it lies as it lay -/
theorem St.on (h : St W S sb A U N) (hk : ∀ k, S k → W'.heap[k]? = W.heap[k]?) : St W' S sb A U N := by
  obtain ⟨s, E, vr, vb, vf, hL, hO, f⟩ := h
  exact ⟨s, E, vr, vb, vf, hL.kept (hk _ hO.sb) (fun k e => hk k (hO.row k e)) (fun k e => hk k (hO.blk k e)) (fun k e => hk k (hO.free k e)), hO, f⟩
theorem St.mono {T : Nat → Prop} (h : St W S sb A U N) (hk : ∀ k, S k → T k) : St W T sb A U N := by
  obtain ⟨s, E, vr, vb, vf, hL, hO, f⟩ := h
  exact ⟨s, E, vr, vb, vf, hL, hO.mono hk, f⟩
theorem St.below (h : St W S sb A U N) (hb : Below W.heap.size W W') (hS : ∀ k, S k → k < W.heap.size) : St W' S sb A U N := h.on (fun k hk => hb.block k (hS k hk))
theorem owns_on {b : Nat} {e : TypeId} {size : Nat} {v : Value} {n : Nat} {xs : List Value} (ho : W.ownsRow b e size v n xs) (hk : ∀ k, v.ownBlock = some k → W'.heap[k]? = W.heap[k]?) : W'.ownsRow b e size v n xs := by
  refine ⟨ho.1, ?_⟩
  rcases ho.2 with hn | ⟨g, cap, cur, rfl, hb, hgg, rest⟩
  · exact .inl hn
  · exact .inr ⟨g, cap, cur, rfl, hb, (hk g rfl).trans hgg, rest⟩
/-- a store, and a row of one's own beside it; all behind B -/
structure Both (B : Nat) (W : World) (sb : Nat) (A : List (Option (List Nat))) (v : Value) (n : Nat) (xs : List Value) : Prop where
  ex : ∃ S, St W S sb A 20000 61 ∧ (∀ k, S k → B ≤ k ∧ k < W.heap.size) ∧ (∀ k, v.ownBlock = some k → ¬ S k)
  own : W.ownsRow B 3 1 v n xs
variable {B : Nat} {v : Value} {n : Nat} {xs : List Value}
theorem Both.below (h : Both B W sb A v n xs) (hb : Below W.heap.size W W') : Both B W' sb A v n xs := by
  obtain ⟨S, h1, h2, h3⟩ := h.ex
  have hs := hb.size
  refine ⟨⟨S, h1.below hb (fun k hk => (h2 k hk).2), fun k hk => ⟨(h2 k hk).1, by have := (h2 k hk).2; omega⟩, h3⟩, owns_on h.own (fun k hk => hb.block k ?_)⟩
  exact (h.own.lt k hk).2
theorem Both.upd {A' : List (Option (List Nat))} {S : Nat → Prop} (h2 : ∀ k, S k → B ≤ k ∧ k < W.heap.size) (h3 : ∀ k, v.ownBlock = some k → ¬ S k) (ho : W.ownsRow B 3 1 v n xs) (hB : B ≤ W.heap.size) (hU : Upd S W W') (h1 : St W' (Nx S W W') sb A' 20000 61) : Both B W' sb A' v n xs ∧ Below B W W' := by
  have hs := hU.size
  refine ⟨⟨⟨Nx S W W', h1, ?_, ?_⟩, owns_on ho (fun k hk => hU.block k (ho.lt k hk).2 (h3 k hk))⟩, hU.below hB (fun k hk => (h2 k hk).1)⟩
  · rintro k (hk | hk)
    · exact ⟨(h2 k hk).1, by have := (h2 k hk).2; omega⟩
    · exact ⟨by omega, hk.2⟩
  · rintro k hk (hk2 | hk2)
    · exact h3 k hk hk2
    · have := (ho.lt k hk).2; omega
end
section
variable {W : World} {sb : Nat} {A : List (Option (List Nat))} {B : Nat} {v : Value} {n : Nat} {xs : List Value}
theorem both_take (h : Both B W sb A v n xs) (hB : B ≤ W.heap.size) (z : Nat) (hn : z ≤ 8388608) (hU : sumA A + up8N z ≤ 20000) (hN : A.length < 61) :
    Calls Try.prog 23 #[.pointer (some ⟨sb, 0, none⟩), .int .i64 z] W fun e w' => e = .returned (.tuple #[.int .i64 (leastA A : Nat), .int .i64 0]) ∧ Both B w' sb (putA A (leastA A) (some (List.replicate z 0))) v n xs ∧ Below B W w' := by
  obtain ⟨S, h1, h2, h3⟩ := h.ex
  refine (take_st h1 z hn hU hN).mono ?_
  rintro e w' ⟨rfl, hU', hS⟩
  exact ⟨rfl, Both.upd h2 h3 h.own hB hU' hS⟩
theorem both_give (h : Both B W sb A v n xs) (hB : B ≤ W.heap.size) (id : Nat) (x : List Nat) (hx : A[id]? = some (some x)) :
    Calls Try.prog 26 #[.pointer (some ⟨sb, 0, none⟩), .int .i64 id] W fun e w' => e = .returned (.int .i64 0) ∧ Both B w' sb (A.set id none) v n xs ∧ Below B W w' := by
  obtain ⟨S, h1, h2, h3⟩ := h.ex
  refine (give_st h1 id x hx).mono ?_
  rintro e w' ⟨rfl, hU', hS⟩
  exact ⟨rfl, Both.upd h2 h3 h.own hB hU' hS⟩
theorem both_save (h : Both B W sb A v n xs) (hB : B ≤ W.heap.size) (id : Nat) (x : List Nat) (hx : A[id]? = some (some x)) (o c : Nat) (hc : c < 18446744073709551616) (ho : o + 1 ≤ x.length) :
    Calls Try.prog 25 #[.pointer (some ⟨sb, 0, none⟩), .int .i64 id, .int .i64 o, .int .i64 1, .int .u64 c] W fun e w' => e = .returned (.int .i64 0) ∧ Both B w' sb (A.set id (some (saved x o c 1))) v n xs ∧ Below B W w' := by
  obtain ⟨S, h1, h2, h3⟩ := h.ex
  refine (save_st h1 id x hx o 1 c hc (.inl rfl) (Nat.mod_one _) ho).mono ?_
  rintro e w' ⟨rfl, hU', hS⟩
  exact ⟨rfl, Both.upd h2 h3 h.own hB hU' (hS.mono (fun k hk => .inl hk))⟩
theorem both_pack (h : Both B W sb A v n xs) (hB : B ≤ W.heap.size) :
    Calls Try.prog 27 #[.pointer (some ⟨sb, 0, none⟩)] W fun e w' => e = .returned (.tuple #[]) ∧ Both B w' sb A v n xs ∧ Below B W w' := by
  obtain ⟨S, h1, h2, h3⟩ := h.ex
  refine (pack_st h1).mono ?_
  rintro e w' ⟨rfl, hU', hS⟩
  exact ⟨rfl, Both.upd h2 h3 h.own hB hU' (hS.mono (fun k hk => .inl hk))⟩
theorem both_load (h : Both B W sb A v n xs) (id : Nat) (x : List Nat) (hx : A[id]? = some (some x)) (o : Nat) (ho : o + 1 ≤ x.length) :
    Calls Try.prog 24 #[.pointer (some ⟨sb, 0, none⟩), .int .i64 id, .int .i64 o, .int .i64 1] W fun e w' => e = .returned (.tuple #[.int .u64 (leN (seg x o 1)), .int .i64 0]) ∧ Both B w' sb A v n xs ∧ Below W.heap.size W w' := by
  obtain ⟨S, h1, h2, h3⟩ := h.ex
  refine (load_st h1 id x hx o 1 (.inl rfl) (Nat.mod_one _) ho).mono ?_
  rintro e w' ⟨rfl, hb⟩
  exact ⟨rfl, h.below hb, hb⟩
end
end Go.Proofs.Ytenbjlmomkiknab.W
