import Derived.Test.YtbgabpgohkcahaaGreatT8eJ
/- casketlaw8: awake, box. -/
namespace Go.Proofs.YtbgabpgohkcahaaGreat.W
open Go.ChangeShapes Go.WideShapes Go.RowKit Go.Shelf
set_option linter.unusedVariables false
theorem words_lit (w : World) (ws : List Nat) (hl : ws.length ≤ 1000000) (h : ∀ x ∈ ws, x < 18446744073709551616) : WordsAt (w.alloc (.cells (ws.map (fun x => Value.int .u64 (x : Nat))).toArray 26)) (.slice (some ⟨w.heap.size, 0, none⟩) ws.length ws.length) ws := by
  have e0 := World.cell?_alloc_new w (ws.map (fun x => Value.int .u64 (x : Nat))).toArray 26
  refine ⟨_, _, rfl, by omega, h, fun i hi => ⟨_, rfl, ?_⟩⟩
  have e1 : ((⟨w.heap.size, 0, none⟩ : Addr).add i) = ⟨w.heap.size, i, none⟩ := by unfold Addr.add; split <;> simp_all
  rw [e1, e0 i]
  simp [hi]
theorem words_nil' (w : World) : WordsAt w (.slice none 0 0) [] := words_nil w none 0
theorem abc_abc : (⟨#[97, 98, 99]⟩ : ByteArray) ++ ⟨#[97, 98, 99]⟩ = ⟨#[97, 98, 99, 97, 98, 99]⟩ := by decide
section
variable {W0 W W1 W' : World} {hb : Nat} {H : List (Option Hc)} {u : Nat} {K K' : Nat → Prop}
theorem lbox_c (q : Hf W0 W1 hb H u K) (vr : Value) (rs : List Nat) (hr : WordsAt W1 vr rs) (t : ByteArray) (hl : t.size ≤ 8388608) (hf : sumH H + tneed t ≤ u) (hH : H.length ≤ 1000000) : Calls Tryz.prog 14 #[.pointer (some ⟨hb, 0, none⟩), .string t, vr] W1 fun e w' => ∃ (w : Nat) (H' : List (Option Hc)), e = .returned (.tuple #[.int .u64 (w : Nat), .bool true]) ∧ Hf W0 w' hb H' u K ∧ Ext H H' ∧ IsTxt H' w t ∧ sumH H' ≤ sumH H + tneed t ∧ H'.length ≤ H.length + 1 ∧ Upd (Ch W0 K) W1 w' := by
  have cx := boxT q vr rs hr t hl hf hH
  obtain ⟨o1, cap1, hvr, -⟩ := id hr
  subst hvr
  clear q hr hl hf hH
  go_enter Tryz.func14, Tryz.ntmps14
  go_wp2_with (go_at_call 7; (with_reducible refine cx.mono ?_); rintro e w3 ⟨w, H', rfl, h3⟩; clear cx)
  go_ret2
  exact ⟨w, H', rfl, h3⟩
end
set_option maxRecDepth 100000 in
theorem awake8_c (W : World) : Calls Tryz.prog 13 #[] W fun e w' => e = .returned (.bool true) ∧ Below W.heap.size W w' := by
  have cn := hf_new (Below.refl W.heap.size W) 9 (by decide)
  rw [show ((9 : Nat) : Int) = 9 from rfl] at cn
  have cb : ∀ (W1 : World) (hb : Nat), Hf W W1 hb [] 9 (fun k => k < W.heap.size) → Calls Tryz.prog 7 #[.pointer (some ⟨hb, 0, none⟩), .agg #[.int .i64 4, .int .i64 0, .int .u64 0, .string ⟨#[97, 98, 99]⟩, .int .u64 0], .slice none 0 0] W1 (TxtPost W W1 hb [] 9 (fun k => k < W.heap.size) ⟨#[97, 98, 99]⟩) := fun W1 hb q => boxT q _ [] (words_nil' W1) _ (by decide) (by decide) (by decide)
  have cc : ∀ (W2 : World) (hb : Nat) (w : Nat) (H' : List (Option Hc)), Hf W W2 hb H' 9 (fun k => k < W.heap.size) → IsTxt H' w ⟨#[97, 98, 99]⟩ → sumH H' ≤ 2 → H'.length ≤ 1 → Calls Tryz.prog 8 #[.pointer (some ⟨hb, 0, none⟩), .int .u64 w, .int .u64 w, .slice none 0 0] W2 (TxtPost W W2 hb H' 9 (fun k => k < W.heap.size) ⟨#[97, 98, 99, 97, 98, 99]⟩) := by
    intro W2 hb w H' q h hs hl
    have tn2 : tneed ((⟨#[97, 98, 99]⟩ : ByteArray) ++ ⟨#[97, 98, 99]⟩) = 2 := by decide
    have := concat_c q _ [] (words_nil' W2) (by decide) w w _ _ h h (by decide) (by omega) (by omega)
    rwa [abc_abc] at this
  go_enter Tryz.func13, Tryz.ntmps13
  go_upto_region 4 with (go_at_call 6; (with_reducible refine cn.mono ?_); rintro e W1 ⟨hb, rfl, q1, hB1⟩; clear cn)
  have c1 := cb W1 hb q1
  clear cb
  go_upto_region 5 with (go_at_call 7; (with_reducible refine c1.mono ?_); rintro e W2 ⟨w, H2, rfl, q2, hE2, hI2, hs2, hl2, hU2⟩; clear c1)
  have tn3 : tneed ⟨#[97, 98, 99]⟩ = 2 := by decide
  have tn0 : sumH [] = 0 := rfl
  have c2 := cc W2 hb w H2 q2 hI2 (by omega) (by simpa using hl2)
  clear cc
  go_upto_region 6 with (go_at_call 8; (with_reducible refine c2.mono ?_); rintro e W3 ⟨w3, H3, rfl, q3, hE3, hI3, hs3, hl3, hU3⟩; clear c2)
  have c3 := of_c q3.2.choose_spec.1 w3 _ hI3
  have c4 : ∀ W4, Below W3.heap.size W3 W4 → _ := fun W4 hB => len_c (q3.2.choose_spec.1.below hB) w3 _ hI3
  have b3 := hid q3.1
  clear q1 q2 q3 hE2 hI2 hs2 hl2 hU2 hE3 hI3 hs3 hl3 hU3 hB1
  go_wp2_with (first | (go_at_call 11; (with_reducible refine c3.mono ?_); rintro e W4 ⟨rfl, hB4⟩; clear c3) | (go_at_call 9; (with_reducible refine (c4 _ hB4).mono ?_); rintro e W5 ⟨rfl, hB5⟩; clear c4))
  go_ret
  exact ⟨rfl, b3.out.trans ((hB4.trans (hB5.mono hB4.size)).mono b3.out.size)⟩
end Go.Proofs.YtbgabpgohkcahaaGreat.W
