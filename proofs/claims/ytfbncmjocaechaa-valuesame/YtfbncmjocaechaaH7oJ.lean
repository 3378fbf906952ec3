import Derived.Test.YtfbncmjocaechaaH7jJ
import Derived.Test.YtfbncmjocaechaaBase9
/- Package heap: right and Put, of a buffer. -/
namespace Go.Proofs.Ytfbncmjocaechaa.W
open Go.ChangeShapes Go.WideShapes Go.RowKit Go.Shelf
set_option linter.unusedVariables false
section
variable {W W' : World} {hb sb : Nat} {vc : Value} {T : Nat → Prop} {H : List (Option Hc)} {u h : Nat}
set_option maxHeartbeats 1000000 in
set_option maxRecDepth 100000 in
theorem right_buf (k : Int) (hk : elB k > 0) (ob ow : Option Addr) (bc wc nn : Nat) (hl : nn ≤ 8388608) (hmod : nn % elB k = 0) (hb : Nat) (W : World) : Calls Try.prog 18 #[.pointer (some ⟨hb, 0, none⟩), .agg #[.int .i64 k, .bool false, .int .i64 0, .string ⟨#[]⟩, .slice ob nn bc, .slice ow 0 wc, .int .u64 0, .int .i64 0, .int .i64 0]] W fun e w' => e = .returned (.bool true) ∧ Below W.heap.size W w' := by
  have cp : ∀ w, Calls Try.prog 31 #[.agg #[.int .i64 k, .bool false, .int .i64 0, .string ⟨#[]⟩, .slice ob nn bc, .slice ow 0 wc, .int .u64 0, .int .i64 0, .int .i64 0]] w fun e w' => e = .returned (.bool true) ∧ Below w.heap.size w w' := fun w => plain_buf k hk ob ow nn bc wc w
  have cs : ∀ w, Calls Try.prog 32 #[.int .i64 k, .bool false] w fun e w' => e = .returned (.int .i64 3) ∧ w' = w := fun w => shape_buf k hk w
  have ce : ∀ w, Calls Try.prog 33 #[.int .i64 k] w fun e w' => e = .returned (.int .i64 (elB k : Nat)) ∧ w' = w := fun w => elementBytes_c k w
  have hB := (show Below W.heap.size W (W.alloc (.cells #[.int .i64 k, .bool false, .int .i64 0, .string ⟨#[]⟩, .slice ob nn bc, .slice ow 0 wc, .int .u64 0, .int .i64 0, .int .i64 0] 36)) from (Below.refl _ W).alloc (Nat.le_refl _) _)
  have hs1 : (W.alloc (.cells #[.int .i64 k, .bool false, .int .i64 0, .string ⟨#[]⟩, .slice ob nn bc, .slice ow 0 wc, .int .u64 0, .int .i64 0, .int .i64 0] 36)).heap.size = W.heap.size + 1 := World.size_alloc ..
  have l1 : (nn : Int) ≤ 8388608 := by omega
  generalize elB k = ev at *
  have hm2 : (nn : Int) % (ev : Int) = 0 := by omega
  have hm3 : Int.tmod (nn : Int) (ev : Int) = 0 := by rw [Int.tmod_eq_emod_of_nonneg (by omega)]; exact hm2
  have e0 : ¬ ((ev : Nat) : Int) = 0 := by omega
  have kp : Hid (∀ w2, Below (W.alloc (.cells #[.int .i64 k, .bool false, .int .i64 0, .string ⟨#[]⟩, .slice ob nn bc, .slice ow 0 wc, .int .u64 0, .int .i64 0, .int .i64 0] 36)).heap.size (W.alloc (.cells #[.int .i64 k, .bool false, .int .i64 0, .string ⟨#[]⟩, .slice ob nn bc, .slice ow 0 wc, .int .u64 0, .int .i64 0, .int .i64 0] 36)) w2 → (w2.cell? ⟨W.heap.size, 0, none⟩ = some (.int .i64 k) ∧ w2.cell? ⟨W.heap.size, 1, none⟩ = some (.bool false) ∧ w2.cell? ⟨W.heap.size, 4, none⟩ = some (.slice ob nn bc)) ∧ Below W.heap.size W w2) := by
    show ∀ w2, _
    intro w2 hB2
    have e := fun j => (World.cell?_of_block (a := ⟨W.heap.size, j, none⟩) (hB2.block W.heap.size (by omega))).trans (World.cell?_alloc_new W #[.int .i64 k, .bool false, .int .i64 0, .string ⟨#[]⟩, .slice ob nn bc, .slice ow 0 wc, .int .u64 0, .int .i64 0, .int .i64 0] 36 j)
    exact ⟨⟨e 0, e 1, e 4⟩, hB.trans (hB2.mono hB.size)⟩
  clear hs1 hmod hl hk
  go_enter Try.func18, Try.ntmps18
  go_upto_region 9 with (first | (go_at_call 31; (with_reducible refine (cp _).mono ?_); rintro e w2 ⟨rfl, hB2⟩; clear cp; (obtain ⟨⟨z0, z1, z4⟩, hBf⟩ := kp.out w2 hB2)) | (go_at_call 32; (with_reducible refine (cs _).mono ?_); rintro e w' ⟨rfl, hw⟩; (have hw' := hw.symm); subst hw'; clear hw))
  go_region_with (go_at_call 33; (with_reducible refine (ce _).mono ?_); rintro e w' ⟨rfl, hw⟩; (have hw' := hw.symm); subst hw'; clear hw)
  all_goals (
    simp only [Act.put, List.getElem_toArray, List.getElem_cons_zero, List.getElem_cons_succ, List.setIfInBounds_toArray, List.set_cons_zero, List.set_cons_succ]
    go_wp2
    go_ret
    exact ⟨rfl, ⟨hBf.os, hBf.tape, hBf.output, hBf.size, hBf.block⟩⟩)
theorem put_buf {S : Nat → Prop} (g : HSt W S hb H u) (hS : ∀ k, S k → k < W.heap.size) (k : Int) (hk : elB k > 0) (bs : List Nat) (hb256 : ∀ x ∈ bs, x < 256) (hl : bs.length ≤ 8388608) (hmod : bs.length % elB k = 0) (ob ow : Option Addr) (bc wc : Nat) (hcap : bs.length ≤ bc) (hv : ByteRow W ob bs) (ho : ∀ x, ob = some x → ¬ S x.block ∧ x.block < W.heap.size) (vr : Value) (rs : List Nat) (hr : WordsAt W vr rs) :
    Calls Try.prog 6 #[.pointer (some ⟨hb, 0, none⟩), .agg #[.int .i64 k, .bool false, .int .i64 0, .string ⟨#[]⟩, .slice ob bs.length bc, .slice ow 0 wc, .int .u64 0, .int .i64 0, .int .i64 0], vr] W (PutPost W S hb (roomH H u (.buf k bs) rs) u (.buf k bs)) := by
  refine hput_c g hS (.buf k bs) ⟨hk, hb256, hl⟩ 0 ⟨#[]⟩ ob ow bs.length bc 0 wc (by decide) hl (by decide) ?_ (words_nil W ow wc) (show 0 < _ by decide) ?_ ?_ vr rs hr
  · show sizeV k false 0 bs.length 0 = bs.length
    have e3 : shp k false = 3 := by
      unfold shp
      simp [hk]
    unfold sizeV
    rw [e3]; rfl
  · intro w hB
    exact right_buf k hk ob ow bc wc bs.length hl hmod hb w
  · intro sb h W' T' vc' H' id hl' hi hT hU
    have e : (Hc.buf k bs).zero = .buf k (List.replicate bs.length 0) := rfl
    rw [e] at hi
    exact save_buf hl' id k hk bs hb256 hi hl ob ow bc wc hcap (byteRow_upd hv hU (fun x e => (ho x e).1)) (fun x e => ⟨fun e2 => by rcases hT _ e2 with e3 | e3; exact (ho x e).1 e3; have := (ho x e).2; omega, Nat.lt_of_lt_of_le (ho x e).2 hU.size⟩)
end
end Go.Proofs.Ytfbncmjocaechaa.W
