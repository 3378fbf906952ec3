import Derived.Test.YtbgabpgohkcahaaV7fJ
import Derived.Test.YtbgabpgohkcahaaT8aJ
/- Package text: what a word tells; Of, Len, Byte, both, Compare. -/
namespace Go.Proofs.Ytbgabpgohkcahaa.W
open Go.ChangeShapes Go.WideShapes Go.RowKit Go.Shelf
set_option linter.unusedVariables false
/-- a word of a string -/
def IsTxt (H : List (Option Hc)) (w : Nat) (t : ByteArray) : Prop := (t.size ≤ 5 ∧ (w : Int) = txtW t) ∨ ∃ id, w = hw id ∧ id < 281474976710656 ∧ H[id]? = some (some (.text (strB t)))
/-- what is held is held on -/
def Ext (H H' : List (Option Hc)) : Prop := ∀ (i : Nat) (c : Hc), H[i]? = some (some c) → H'[i]? = some (some c)
theorem Ext.refl (H : List (Option Hc)) : Ext H H := fun _ _ h => h
theorem Ext.trans {H H' H'' : List (Option Hc)} (h : Ext H H') (h' : Ext H' H'') : Ext H H'' := fun i c e => h' i c (h i c e)
theorem ext_put (H : List (Option Hc)) (c : Hc) : Ext H (putH H (lid H) (some c)) := by
  intro i x hx
  rw [putH_ne H _ i (fun e => ?_)]
  · exact hx
  · subst e
    have hl := (List.getElem?_eq_some_iff.1 hx).1
    rw [lid_free hl] at hx
    cases hx
theorem IsTxt.ext {H H' : List (Option Hc)} {w : Nat} {t : ByteArray} (h : IsTxt H w t) (he : Ext H H') : IsTxt H' w t := by
  rcases h with h | ⟨id, h1, h2, h3⟩
  · exact .inl h
  · exact .inr ⟨id, h1, h2, he _ _ h3⟩
theorem IsTxt.lt {H : List (Option Hc)} {w : Nat} {t : ByteArray} (h : IsTxt H w t) : w < 18446744073709551616 := by
  rcases h with ⟨h1, h2⟩ | ⟨id, rfl, h2, h3⟩
  · have := cls_is5 _ (txtW_cls t h1); omega
  · exact hw_lt id h2
section
variable {W1 : World} {S : Nat → Prop} {hb : Nat} {H : List (Option Hc)} {u : Nat}
theorem unbox_txt (q : HSt W1 S hb H u) (w : Nat) (t : ByteArray) (h : IsTxt H w t) :
    Calls Try.prog 9 #[.pointer (some ⟨hb, 0, none⟩), .int .u64 w] W1 fun e w' => e = .returned (.tuple #[.agg #[.int .i64 4, .int .i64 0, .int .u64 0, .string t, .int .u64 0], .int .i64 0]) ∧ Below W1.heap.size W1 w' := by
  rcases h with ⟨h1, h2⟩ | ⟨id, rfl, h2, h3⟩
  · rw [h2]; exact unbox_stext t h1 _ W1
  · obtain ⟨sb, vc, T, l, _⟩ := q
    exact unbox_text l (hw id) (hw_lt id h2) (cls_hw id h2) id (hit_hw h2 h3) t h3
/-- the i-th byte, or none -/
def byteR (t : ByteArray) (i : Int) : Int := if h : 0 ≤ i ∧ i < t.size then ((t[i.toNat]'(by omega)).toNat : Nat) else 0
/-- and its number -/
def byteE (t : ByteArray) (i : Int) : Int := if 0 ≤ i ∧ i < t.size then 0 else 31
end
end Go.Proofs.Ytbgabpgohkcahaa.W
