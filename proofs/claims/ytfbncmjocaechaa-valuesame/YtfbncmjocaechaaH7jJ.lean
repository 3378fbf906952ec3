import Derived.Test.YtfbncmjocaechaaBase6
import Derived.Test.YtfbncmjocaechaaBase7
/- Package heap: save, of a buffer. -/
namespace Go.Proofs.Ytfbncmjocaechaa.W
open Go.ChangeShapes Go.WideShapes Go.RowKit Go.Shelf
set_option linter.unusedVariables false
section
variable {W W' : World} {hb sb : Nat} {vc : Value} {T : Nat → Prop} {H : List (Option Hc)} {u h : Nat}
theorem mkc_buf (k : Int) (hk : elB k > 0) (n : Nat) (h : n ≤ 8388608) : Mkc (Hc.buf k) n := ⟨fun b => rfl, fun b b' => rfl, fun b hb hl => ⟨hk, hb, by omega⟩⟩
theorem save_buf (g : HLay W hb sb vc T H u h) (id : Nat) (k : Int) (hk : elB k > 0) (bs : List Nat) (hb256 : ∀ x ∈ bs, x < 256) (hc : H[id]? = some (some (.buf k (List.replicate bs.length 0)))) (hl : bs.length ≤ 8388608) (ob ow : Option Addr) (bc wc : Nat) (hcap : bs.length ≤ bc) (hv : ByteRow W ob bs) (ho : ∀ x, ob = some x → ¬ T x.block ∧ x.block < W.heap.size) :
    Calls Try.prog 46 #[.pointer (some ⟨hb, 0, none⟩), .int .i64 id, .agg #[.int .i64 k, .bool false, .int .i64 0, .string ByteArray.empty, .slice ob bs.length bc, .slice ow 0 wc, .int .u64 0, .int .i64 0, .int .i64 0]] W fun e w' => e = .returned (.tuple #[]) ∧ Upd T W w' ∧ HLay w' hb sb vc T (H.set id (some (.buf k bs))) u h := by
  have hBa : Below W.heap.size W (W.alloc (.cells #[.int .i64 k, .bool false, .int .i64 0, .string ByteArray.empty, .slice ob bs.length bc, .slice ow 0 wc, .int .u64 0, .int .i64 0, .int .i64 0] 36)) := (Below.refl _ W).alloc (Nat.le_refl _) _
  have ga := g.below hBa
  have hsa := hBa.size
  have cs : ∀ w, Calls Try.prog 32 #[.int .i64 k, .bool false] w fun e w' => e = .returned (.int .i64 3) ∧ w' = w := fun w => shape_buf k hk w
  have cb := saveBytes_c ga (Hc.buf k) bs (mkc_buf k hk _ hl) hb256 hl id hc ob bc hcap (byteRow_upd hv (Upd.of_below (S := fun _ => False) hBa) (fun x e hF => hF)) (fun x e => ⟨(ho x e).1, Nat.lt_of_lt_of_le (ho x e).2 hsa⟩)
  have c4 := World.cell?_alloc_new W #[.int .i64 k, .bool false, .int .i64 0, .string ByteArray.empty, .slice ob bs.length bc, .slice ow 0 wc, .int .u64 0, .int .i64 0, .int .i64 0] 36 4
  simp only [List.getElem?_toArray, List.getElem?_cons_succ, List.getElem?_cons_zero] at c4
  have fin : Hid (∀ w2, Upd T (W.alloc (.cells #[.int .i64 k, .bool false, .int .i64 0, .string ByteArray.empty, .slice ob bs.length bc, .slice ow 0 wc, .int .u64 0, .int .i64 0, .int .i64 0] 36)) w2 → Upd T W w2) := by
    show ∀ w2, _
    intro w2 hU
    exact (Upd.of_below hBa).trans' hU
  clear ga hsa hBa g hv
  go_enter Try.func46, Try.ntmps46
  go_wp2_with (first | (go_at_call 32; (with_reducible refine (cs _).mono ?_); rintro e w' ⟨rfl, hw⟩; (have hw' := hw.symm); subst hw'; clear hw) | (go_at_call 68; (with_reducible refine cb.mono ?_); rintro e w2 ⟨rfl, hU2, hL2⟩; clear cb))
  go_end0
  exact ⟨rfl, fin.out _ hU2, hL2⟩
end
end Go.Proofs.Ytfbncmjocaechaa.W
