import Derived.Test.YtgkfgegfjklnbaaGreatBase25
import Derived.Test.YtgkfgegfjklnbaaGreatBase17
import Derived.Test.YtgkfgegfjklnbaaGreatBase21
/- casketlaw8: awake, box. -/
namespace Go.Proofs.YtgkfgegfjklnbaaGreat.W
open Go.ChangeShapes Go.WideShapes Go.RowKit Go.Shelf
set_option linter.unusedVariables false
theorem words_nil' (w : World) : WordsAt w (.slice none 0 0) [] := words_nil w none 0
theorem abc_abc : (⟨#[97, 98, 99]⟩ : ByteArray) ++ ⟨#[97, 98, 99]⟩ = ⟨#[97, 98, 99, 97, 98, 99]⟩ := by decide
section
variable {W0 W W1 W' : World} {hb : Nat} {H : List (Option Hc)} {u : Nat} {K K' : Nat → Prop}
end
set_option maxRecDepth 100000 in
theorem awake8_c (W : World) : Calls Tryz.prog 8 #[] W fun e w' => e = .returned (.bool true) ∧ Below W.heap.size W w' := by
  have cn := hf_new (Below.refl W.heap.size W) 9 (by decide)
  rw [show ((9 : Nat) : Int) = 9 from rfl] at cn
  have cb : ∀ (W1 : World) (hb : Nat), Hf W W1 hb [] 9 (fun k => k < W.heap.size) → Calls Tryz.prog 11 #[.pointer (some ⟨hb, 0, none⟩), .agg #[.int .i64 4, .int .i64 0, .int .u64 0, .string ⟨#[97, 98, 99]⟩, .int .u64 0], .slice none 0 0] W1 (TxtPost W W1 hb [] 9 (fun k => k < W.heap.size) ⟨#[97, 98, 99]⟩) := fun W1 hb q => boxT q _ [] (words_nil' W1) _ (by decide) (by decide) (by decide)
  have cc : ∀ (W2 : World) (hb : Nat) (w : Nat) (H' : List (Option Hc)), Hf W W2 hb H' 9 (fun k => k < W.heap.size) → IsTxt H' w ⟨#[97, 98, 99]⟩ → sumH H' ≤ 2 → H'.length ≤ 1 → Calls Tryz.prog 15 #[.pointer (some ⟨hb, 0, none⟩), .int .u64 w, .int .u64 w, .slice none 0 0] W2 (TxtPost W W2 hb H' 9 (fun k => k < W.heap.size) ⟨#[97, 98, 99, 97, 98, 99]⟩) := by
    intro W2 hb w H' q h hs hl
    have tn2 : tneed ((⟨#[97, 98, 99]⟩ : ByteArray) ++ ⟨#[97, 98, 99]⟩) = 2 := by decide
    have := concat_c q _ [] (words_nil' W2) (by decide) w w _ _ h h (by decide) (by omega) (by omega)
    rwa [abc_abc] at this
  go_enter Tryz.func8, Tryz.ntmps8
  go_upto_region 4 with (go_at_call 4; (with_reducible refine cn.mono ?_); rintro e W1 ⟨hb, rfl, q1, hB1⟩; clear cn)
  have c1 := cb W1 hb q1
  clear cb
  go_upto_region 5 with (go_at_call 11; (with_reducible refine c1.mono ?_); rintro e W2 ⟨w, H2, rfl, q2, hE2, hI2, hs2, hl2, hU2⟩; clear c1)
  have tn3 : tneed ⟨#[97, 98, 99]⟩ = 2 := by decide
  have tn0 : sumH [] = 0 := rfl
  have c2 := cc W2 hb w H2 q2 hI2 (by omega) (by simpa using hl2)
  clear cc
  go_upto_region 6 with (go_at_call 15; (with_reducible refine c2.mono ?_); rintro e W3 ⟨w3, H3, rfl, q3, hE3, hI3, hs3, hl3, hU3⟩; clear c2)
  have c3 := of_c q3.2.choose_spec.1 w3 _ hI3
  have c4 : ∀ W4, Below W3.heap.size W3 W4 → _ := fun W4 hB => len_c (q3.2.choose_spec.1.below hB) w3 _ hI3
  have b3 := hid q3.1
  clear q1 q2 q3 hE2 hI2 hs2 hl2 hU2 hE3 hI3 hs3 hl3 hU3 hB1
  go_wp2_with (first | (go_at_call 23; (with_reducible refine c3.mono ?_); rintro e W4 ⟨rfl, hB4⟩; clear c3) | (go_at_call 24; (with_reducible refine (c4 _ hB4).mono ?_); rintro e W5 ⟨rfl, hB5⟩; clear c4))
  go_ret
  exact ⟨rfl, b3.out.trans ((hB4.trans (hB5.mono hB4.size)).mono b3.out.size)⟩
end Go.Proofs.YtgkfgegfjklnbaaGreat.W
/- A row of words of a statement's own, beside its heap: append. -/
namespace Go.Proofs.YtgkfgegfjklnbaaGreat.W
open Go.ChangeShapes Go.WideShapes Go.RowKit Go.Shelf
set_option linter.unusedVariables false
/-- words, as they stand in a row -/
def wds (ws : List Nat) : List Value := ws.map (fun x => .int .u64 (x : Nat))
section
variable {W0 W W1 W' : World} {hb : Nat} {H : List (Option Hc)} {u : Nat} {K K' : Nat → Prop}
/-- a row of words of one's own -/
structure Mine (W0 W : World) (K : Nat → Prop) (v : Value) (ws : List Nat) : Prop where
  row : W.ownsRow W0.heap.size 50 1 v ws.length (wds ws)
  keep : ∀ k, v.ownBlock = some k → K k
  lt : ∀ x ∈ ws, x < 18446744073709551616
  len : ws.length ≤ 900000
theorem Mine.upd {v : Value} {ws : List Nat} (o : Mine W0 W K v ws) (hU : Upd (Ch W0 K) W W') : Mine W0 W' K v ws :=
  ⟨owns_on o.row (fun k e => hU.block k (o.row.lt k e).2 (fun h => h.1 (o.keep k e))), o.keep, o.lt, o.len⟩
theorem Mine.below {v : Value} {ws : List Nat} (o : Mine W0 W K v ws) (hB : Below W.heap.size W W') : Mine W0 W' K v ws :=
  ⟨owns_on o.row (fun k e => hB.block k (o.row.lt k e).2), o.keep, o.lt, o.len⟩
theorem Mine.sub {v : Value} {ws : List Nat} (o : Mine W0 W K v ws) (h : ∀ k, K k → K' k) : Mine W0 W K' v ws := ⟨o.row, fun k e => h k (o.keep k e), o.lt, o.len⟩
end
section
variable {W0 W W1 W' : World} {hb : Nat} {H : List (Option Hc)} {u : Nat} {K K' : Nat → Prop}
end
end Go.Proofs.YtgkfgegfjklnbaaGreat.W
/- Box, told whole: of numbers, doubles and strings, beside what is kept; what all of it takes. -/
namespace Go.Proofs.YtgkfgegfjklnbaaGreat.W
open Go.ChangeShapes Go.WideShapes Go.RowKit Go.Shelf
set_option linter.unusedVariables false
/-- each cell is a root -/
def AllR (H : List (Option Hc)) (ws : List Nat) : Prop := ∀ (i : Nat) (c : Hc), H[i]? = some (some c) → ∃ w ∈ ws, hit H w = some i
/-- a word of a whole number -/
def IsInt (H : List (Option Hc)) (w : Nat) (i : Int) : Prop := (smallB i = true ∧ (w : Int) = intW i) ∨ ∃ id, w = hw id ∧ id < 281474976710656 ∧ H[id]? = some (some (.num i))
theorem IsInt.ext {H H' : List (Option Hc)} {w : Nat} {i : Int} (h : IsInt H w i) (he : Ext H H') : IsInt H' w i := by
  rcases h with h | ⟨id, h1, h2, h3⟩
  · exact .inl h
  · exact .inr ⟨id, h1, h2, he _ _ h3⟩
theorem IsInt.cls {H : List (Option Hc)} {w : Nat} {i : Int} (h : IsInt H w i) : ¬ cls (w : Int) = 7 := by
  rcases h with ⟨h1, h2⟩ | ⟨id, rfl, h2, h3⟩
  · rw [h2, intW_cls i h1]; decide
  · rw [cls_hw id h2]; decide
theorem IsTxt.cls {H : List (Option Hc)} {w : Nat} {t : ByteArray} (h : IsTxt H w t) : ¬ W.cls (w : Int) = 7 := by
  rcases h with ⟨h1, h2⟩ | ⟨id, rfl, h2, h3⟩
  · rw [h2, txtW_cls t h1]; decide
  · rw [cls_hw id h2]; decide
/-- what a string takes -/
def nT (t : ByteArray) : Nat := if t.size ≤ 5 then 0 else tneed t
theorem num_need (i : Int) : (Hc.num i).need = 2 := by
  unfold Hc.need
  rw [show (Hc.num i).bytes.length = 8 from le8_len _]
/-- behind a value that was boxed -/
def BPost (W0 W1 : World) (hb : Nat) (H : List (Option Hc)) (u : Nat) (K : Nat → Prop) (V : List (Option Hc) → Nat → Prop) (n : Nat) (e : Ending) (w' : World) : Prop := ∃ (w : Nat) (H' : List (Option Hc)), e = .returned (.tuple #[.int .u64 (w : Nat), .int .i64 0]) ∧ Hf W0 w' hb H' u K ∧ Ext H H' ∧ V H' w ∧ sumH H' = sumH H + n ∧ H'.length ≤ H.length + 1 ∧ (∀ ws, AllR H ws → AllR H' (ws ++ [w])) ∧ w < 18446744073709551616 ∧ Upd (Ch W0 K) W1 w'
section
variable {W0 W W1 W' : World} {hb : Nat} {H : List (Option Hc)} {u : Nat} {K K' : Nat → Prop}
theorem BPost.two {V : List (Option Hc) → Nat → Prop} {n : Nat} {e : Ending} (h : BPost W0 W1 hb H u K V n e W') : ∃ x y, e = .returned (.tuple #[.int .u64 x, .int .i64 y]) := by
  obtain ⟨w, H', rfl, _⟩ := h
  exact ⟨_, _, rfl⟩
theorem BPost.on {W2 : World} {V : List (Option Hc) → Nat → Prop} {n : Nat} {e : Ending} (hB : Below W1.heap.size W1 W2) (h : BPost W0 W2 hb H u K V n e W') : BPost W0 W1 hb H u K V n e W' := by
  obtain ⟨w, H', rfl, h1, h2, h3, h4, h5, h6, h7, h8⟩ := h
  exact ⟨w, H', rfl, h1, h2, h3, h4, h5, h6, h7, (Upd.of_below hB).trans' h8⟩
theorem unbox_int {S : Nat → Prop} (q : HSt W1 S hb H u) (w : Nat) (i : Int) (h : IsInt H w i) :
    Calls Tryz.prog 39 #[.pointer (some ⟨hb, 0, none⟩), .int .u64 w] W1 fun e w' => e = .returned (.tuple #[.agg #[.int .i64 2, .int .i64 i, .int .u64 0, .string ⟨#[]⟩, .int .u64 0], .int .i64 0]) ∧ Below W1.heap.size W1 w' := by
  rcases h with ⟨h1, h2⟩ | ⟨id, rfl, h2, h3⟩
  · rw [h2]; exact unbox_sint i h1 _ W1
  · obtain ⟨sb, vc, T, l, _⟩ := q
    exact unbox_num l (hw id) (hw_lt id h2) (cls_hw id h2) id (hit_hw h2 h3) i h3
end
end Go.Proofs.YtgkfgegfjklnbaaGreat.W
/- Package heap: save, of a buffer. -/
namespace Go.Proofs.YtgkfgegfjklnbaaGreat.W
open Go.ChangeShapes Go.WideShapes Go.RowKit Go.Shelf
set_option linter.unusedVariables false
section
variable {W W' : World} {hb sb : Nat} {vc : Value} {T : Nat → Prop} {H : List (Option Hc)} {u h : Nat}
end
end Go.Proofs.YtgkfgegfjklnbaaGreat.W
