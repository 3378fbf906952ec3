import Derived.Test.YtfbncmjocaechaaH7oJ
import Derived.Test.YtfbncmjocaechaaBase9
/- Put of buffers and rows, beside what a statement keeps. -/
namespace Go.Proofs.Ytfbncmjocaechaa.W
open Go.ChangeShapes Go.WideShapes Go.RowKit Go.Shelf
set_option linter.unusedVariables false
section
variable {W0 W W1 W' : World} {hb : Nat} {H : List (Option Hc)} {u : Nat} {K K' : Nat → Prop}
/-- whatever is put and fits -/
theorem Hf.fits {S : Nat → Prop} {c : Hc} {rs : List Nat} {e : Ending} {w' : World} (h1 : Below W0.heap.size W0 W1) (h3 : ∀ k, S k → W0.heap.size ≤ k ∧ k < W1.heap.size) (h4 : ∀ k, K k → k < W1.heap.size ∧ ¬ S k) (hf : sumH H + c.need ≤ u) (hP : PutPost W1 S hb (roomH H u c rs) u c e w') : e = .returned (.tuple #[.int .u64 (hw (lid H) : Nat), .int .i64 0]) ∧ Hf W0 w' hb (putH H (lid H) (some c)) u K ∧ Upd (Ch W0 K) W1 w' := by
  have hrm : roomH H u c rs = H := by unfold roomH; rw [if_pos hf]
  rw [hrm] at hP
  obtain ⟨hU, ⟨_, rfl, g⟩ | ⟨hn, _⟩⟩ := hP
  · exact ⟨rfl, Hf.put h1 h3 h4 hU g⟩
  · omega
theorem hf_buf (q : Hf W0 W1 hb H u K) (k : Int) (hk : elB k > 0) (bs : List Nat) (hb256 : ∀ x ∈ bs, x < 256) (hl : bs.length ≤ 8388608) (hmod : bs.length % elB k = 0) (ob ow : Option Addr) (bc wc : Nat) (hcap : bs.length ≤ bc) (hv : ByteRow W1 ob bs) (ho : ∀ x, ob = some x → K x.block) (hf : sumH H + (Hc.buf k bs).need ≤ u) (vr : Value) (rs : List Nat) (hr : WordsAt W1 vr rs) :
    Calls Try.prog 6 #[.pointer (some ⟨hb, 0, none⟩), .agg #[.int .i64 k, .bool false, .int .i64 0, .string ⟨#[]⟩, .slice ob bs.length bc, .slice ow 0 wc, .int .u64 0, .int .i64 0, .int .i64 0], vr] W1 fun e w' => e = .returned (.tuple #[.int .u64 (hw (lid H) : Nat), .int .i64 0]) ∧ Hf W0 w' hb (putH H (lid H) (some (.buf k bs))) u K ∧ Upd (Ch W0 K) W1 w' := by
  obtain ⟨h1, S, h2, h3, h4⟩ := q
  exact (put_buf h2 (fun k e => (h3 k e).2) k hk bs hb256 hl hmod ob ow bc wc hcap hv (fun x e => ⟨(h4 _ (ho x e)).2, (h4 _ (ho x e)).1⟩) vr rs hr).mono (fun e w' hP => Hf.fits h1 h3 h4 hf hP)
theorem hf_row (q : Hf W0 W1 hb H u K) (ws : List Nat) (hl : ws.length ≤ 1048576) (hv64 : ∀ w ∈ ws, w < 18446744073709551616) (hval : ∀ w ∈ ws, isVal H w = true) (ow : Option Addr) (wc : Nat) (hv : WordsAt W1 (.slice ow ws.length wc) ws) (ho : ∀ x, ow = some x → K x.block) (hf : sumH H + (Hc.row ws).need ≤ u) (vr : Value) (rs : List Nat) (hr : WordsAt W1 vr rs) :
    Calls Try.prog 6 #[.pointer (some ⟨hb, 0, none⟩), .agg #[.int .i64 9, .bool false, .int .i64 0, .string ⟨#[]⟩, .slice none 0 0, .slice ow ws.length wc, .int .u64 0, .int .i64 0, .int .i64 0], vr] W1 fun e w' => e = .returned (.tuple #[.int .u64 (hw (lid H) : Nat), .int .i64 0]) ∧ Hf W0 w' hb (putH H (lid H) (some (.row ws))) u K ∧ Upd (Ch W0 K) W1 w' := by
  obtain ⟨h1, S, h2, h3, h4⟩ := q
  refine (put_row h2 (fun k e => (h3 k e).2) ws hl hv64 hval none ow 0 wc hv ?_ vr rs hr).mono (fun e w' hP => Hf.fits h1 h3 h4 hf hP)
  intro o n cap e k
  cases e
  have := h4 _ (ho o rfl)
  rcases k with k | k
  · exact this.2 k
  · omega
end
end Go.Proofs.Ytfbncmjocaechaa.W
