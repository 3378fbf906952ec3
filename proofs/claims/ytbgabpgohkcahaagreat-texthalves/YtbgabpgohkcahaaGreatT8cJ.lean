import Derived.Test.YtbgabpgohkcahaaGreatV7fJ
import Derived.Test.YtbgabpgohkcahaaGreatT8aJ
/- Package text: what a word tells; Of, Len, Byte, both, Compare. -/
namespace Go.Proofs.YtbgabpgohkcahaaGreat.W
open Go.ChangeShapes Go.WideShapes Go.RowKit Go.Shelf
set_option linter.unusedVariables false
/-- a word of a string -/
def IsTxt (H : List (Option Hc)) (w : Nat) (t : ByteArray) : Prop := (t.size ≤ 5 ∧ (w : Int) = txtW t) ∨ ∃ id, w = hw id ∧ id < 281474976710656 ∧ H[id]? = some (some (.text (strB t)))
/-- what is held is held on -/
def Ext (H H' : List (Option Hc)) : Prop := ∀ (i : Nat) (c : Hc), H[i]? = some (some c) → H'[i]? = some (some c)
theorem Ext.refl (H : List (Option Hc)) : Ext H H := fun _ _ h => h
theorem Ext.trans {H H' H'' : List (Option Hc)} (h : Ext H H') (h' : Ext H' H'') : Ext H H'' := fun i c e => h' i c (h i c e)
theorem ext_put (H : List (Option Hc)) (c : Hc) : Ext H (putH H (lid H) (some c)) := by
  intro i x hx
  rw [putH_ne H _ i (fun e => ?_)]
  · exact hx
  · subst e
    have hl := (List.getElem?_eq_some_iff.1 hx).1
    rw [lid_free hl] at hx
    cases hx
theorem IsTxt.ext {H H' : List (Option Hc)} {w : Nat} {t : ByteArray} (h : IsTxt H w t) (he : Ext H H') : IsTxt H' w t := by
  rcases h with h | ⟨id, h1, h2, h3⟩
  · exact .inl h
  · exact .inr ⟨id, h1, h2, he _ _ h3⟩
theorem IsTxt.lt {H : List (Option Hc)} {w : Nat} {t : ByteArray} (h : IsTxt H w t) : w < 18446744073709551616 := by
  rcases h with ⟨h1, h2⟩ | ⟨id, rfl, h2, h3⟩
  · have := cls_is5 _ (txtW_cls t h1); omega
  · exact hw_lt id h2
section
variable {W1 : World} {S : Nat → Prop} {hb : Nat} {H : List (Option Hc)} {u : Nat}
theorem unbox_txt (q : HSt W1 S hb H u) (w : Nat) (t : ByteArray) (h : IsTxt H w t) :
    Calls Tryz.prog 27 #[.pointer (some ⟨hb, 0, none⟩), .int .u64 w] W1 fun e w' => e = .returned (.tuple #[.agg #[.int .i64 4, .int .i64 0, .int .u64 0, .string t, .int .u64 0], .int .i64 0]) ∧ Below W1.heap.size W1 w' := by
  rcases h with ⟨h1, h2⟩ | ⟨id, rfl, h2, h3⟩
  · rw [h2]; exact unbox_stext t h1 _ W1
  · obtain ⟨sb, vc, T, l, _⟩ := q
    exact unbox_text l (hw id) (hw_lt id h2) (cls_hw id h2) id (hit_hw h2 h3) t h3
set_option maxRecDepth 100000 in
theorem of_c (q : HSt W1 S hb H u) (w : Nat) (t : ByteArray) (h : IsTxt H w t) :
    Calls Tryz.prog 11 #[.pointer (some ⟨hb, 0, none⟩), .int .u64 w] W1 fun e w' => e = .returned (.tuple #[.string t, .int .i64 0]) ∧ Below W1.heap.size W1 w' := by
  have cu := unbox_txt q w t h
  clear q h
  go_enter Tryz.func11, Tryz.ntmps11
  go_wp2_with (go_at_call 27; (with_reducible refine cu.mono ?_); rintro e w4 ⟨rfl, hB4⟩; clear cu)
  go_ret2
  exact ⟨rfl, hB4.alloc hB4.size _⟩
theorem len_c (q : HSt W1 S hb H u) (w : Nat) (t : ByteArray) (h : IsTxt H w t) :
    Calls Tryz.prog 9 #[.pointer (some ⟨hb, 0, none⟩), .int .u64 w] W1 fun e w' => e = .returned (.tuple #[.int .i64 (t.size : Nat), .int .i64 0]) ∧ Below W1.heap.size W1 w' := by
  have cu := of_c q w t h
  clear q h
  go_enter Tryz.func9, Tryz.ntmps9
  go_wp2_with (go_at_call 11; (with_reducible refine cu.mono ?_); rintro e w4 ⟨rfl, hB4⟩; clear cu)
  go_ret2
  exact ⟨rfl, hB4⟩
/-- the i-th byte, or none -/
def byteR (t : ByteArray) (i : Int) : Int := if h : 0 ≤ i ∧ i < t.size then ((t[i.toNat]'(by omega)).toNat : Nat) else 0
/-- and its number -/
def byteE (t : ByteArray) (i : Int) : Int := if 0 ≤ i ∧ i < t.size then 0 else 31
set_option maxRecDepth 100000 in
theorem byte_c (q : HSt W1 S hb H u) (w : Nat) (t : ByteArray) (h : IsTxt H w t) (i : Int) (h0 : -9223372036854775808 ≤ i) (h1 : i < 9223372036854775808) :
    Calls Tryz.prog 16 #[.pointer (some ⟨hb, 0, none⟩), .int .u64 w, .int .i64 i] W1 fun e w' => e = .returned (.tuple #[.int .u8 (byteR t i), .int .i64 (byteE t i)]) ∧ Below W1.heap.size W1 w' := by
  have cu := of_c q w t h
  have hts : Hid (t.size ≤ 100000000 → IntKind.i64.wrap (t.size : Int) = t.size) := by
    show t.size ≤ 100000000 → _
    intro e
    rw [IntKind.wrap_i64]; omega
  clear q h
  by_cases c1 : i < 0
  · have HR : Hid (byteR t i = 0) := hid (by unfold byteR; rw [dif_neg (by omega)])
    have HQ : Hid (byteE t i = 31) := hid (by unfold byteE; rw [if_neg (by omega)])
    go_enter Tryz.func16, Tryz.ntmps16
    go_wp2_with (go_at_call 11; (with_reducible refine cu.mono ?_); rintro e w4 ⟨rfl, hB4⟩; clear cu)
    go_ret2
    exact ⟨by rw [HR.out, HQ.out]; rfl, hB4⟩
  · by_cases c2 : i < t.size
    · have c3 : ¬ i ≥ t.size := by omega
      have c4 : 0 ≤ i := by omega
      obtain ⟨k, rfl⟩ : ∃ k : Nat, i = k := ⟨i.toNat, by omega⟩
      have hk : k < t.size := by omega
      have HR : Hid (byteR t (k : Int) = ((t[k]).toNat : Nat)) := hid (by unfold byteR; rw [dif_pos (by omega)]; rfl)
      have HQ : Hid (byteE t (k : Int) = 0) := hid (by unfold byteE; rw [if_pos (by omega)])
      have c5 : ¬ (t.size : Int) ≤ (k : Int) := by omega
      clear c1 c2 c3 c4 h0 h1
      go_enter Tryz.func16, Tryz.ntmps16
      go_wp2_with (go_at_call 11; (with_reducible refine cu.mono ?_); rintro e w4 ⟨rfl, hB4⟩; clear cu)
      go_ret2
      exact ⟨by rw [HR.out, HQ.out]; rfl, hB4⟩
    · have HR : Hid (byteR t i = 0) := hid (by unfold byteR; rw [dif_neg (by omega)])
      have HQ : Hid (byteE t i = 31) := hid (by unfold byteE; rw [if_neg (by omega)])
      have c3 : i ≥ t.size := by omega
      go_enter Tryz.func16, Tryz.ntmps16
      go_wp2_with (go_at_call 11; (with_reducible refine cu.mono ?_); rintro e w4 ⟨rfl, hB4⟩; clear cu)
      go_ret2
      exact ⟨by rw [HR.out, HQ.out]; rfl, hB4⟩
set_option maxRecDepth 100000 in
theorem both_c (q : HSt W1 S hb H u) (a b : Nat) (x y : ByteArray) (hx : IsTxt H a x) (hy : IsTxt H b y) :
    Calls Tryz.prog 25 #[.pointer (some ⟨hb, 0, none⟩), .int .u64 a, .int .u64 b] W1 fun e w' => e = .returned (.tuple #[.string x, .string y, .int .i64 0]) ∧ Below W1.heap.size W1 w' := by
  have ca := of_c q a x hx
  have cb := fun w4 (hB4 : Below W1.heap.size W1 w4) => of_c (q.below hB4) b y hy
  clear q hx hy
  go_enter Tryz.func25, Tryz.ntmps25
  go_wp2_with (go_at_call 11; first | ((with_reducible refine ca.mono ?_); rintro e w4 ⟨rfl, hB4⟩; clear ca) | ((with_reducible refine (cb _ hB4).mono ?_); rintro e w5 ⟨rfl, hB5⟩; clear cb))
  refine bodyPost_ret (results_tmp3 rfl _ _ _) rfl ?_
  exact ⟨rfl, hB4.trans (hB5.mono hB4.size)⟩
theorem compare_c (q : HSt W1 S hb H u) (a b : Nat) (x y : ByteArray) (hx : IsTxt H a x) (hy : IsTxt H b y) (lx : x.size ≤ 100000000) (ly : y.size ≤ 100000000) :
    Calls Tryz.prog 12 #[.pointer (some ⟨hb, 0, none⟩), .int .u64 a, .int .u64 b] W1 fun e w' => e = .returned (.tuple #[.int .i64 (ordL (byL x) (byL y)), .int .i64 0]) ∧ Below W1.heap.size W1 w' := by
  have ca := both_c q a b x y hx hy
  have co := fun w => order_c x y lx ly w
  clear q hx hy lx ly
  go_enter Tryz.func12, Tryz.ntmps12
  go_wp2_with (first | (go_at_call 25; (with_reducible refine ca.mono ?_); rintro e w4 ⟨rfl, hB4⟩; clear ca) | (go_at_call 28; (with_reducible refine (co _).mono ?_); rintro e w5 ⟨rfl, hB5⟩; clear co))
  go_ret2
  exact ⟨rfl, hB4.trans (hB5.mono hB4.size)⟩
end
end Go.Proofs.YtbgabpgohkcahaaGreat.W
