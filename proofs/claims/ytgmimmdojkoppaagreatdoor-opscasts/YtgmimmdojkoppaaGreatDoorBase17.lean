import Derived.Test.YtgmimmdojkoppaaGreatDoorBase16
import Derived.Test.YtgmimmdojkoppaaGreatDoorBase14
/- Package heap: add, the walk. -/
namespace Go.Proofs.YtgmimmdojkoppaaGreatDoor.W
open Go.ChangeShapes Go.WideShapes Go.RowKit Go.Shelf
set_option linter.unusedVariables false
section
variable {W W' : World} {hb sb : Nat} {vc : Value} {T : Nat → Prop} {H : List (Option Hc)} {u h : Nat}
/-- save does what it should, whatever lies where -/
def SaveOk (W : World) (hb sb : Nat) (S : Nat → Prop) (c : Hc) (v : Value) (u h : Nat) : Prop := ∀ (W' : World) (T' : Nat → Prop) (vc' : Value) (H' : List (Option Hc)) (id : Nat), HLay W' hb sb vc' T' H' u h → H'[id]? = some (some c.zero) → (∀ k, T' k → S k ∨ W.heap.size ≤ k) → Upd S W W' →
  Calls Tryz.prog 182 #[.pointer (some ⟨hb, 0, none⟩), .int .i64 id, v] W' fun e w' => e = .returned (.tuple #[]) ∧ Upd T' W' w' ∧ HLay w' hb sb vc' T' (H'.set id (some c)) u h
theorem add_tail {Wa w3 w4 : World} {b cap m : Nat} {H4 : List (Option Hc)} (g : HLay W hb sb vc T H u h) (S : Nat → Prop) (hST : ∀ k, T k ∨ k = hb ∨ vc.ownBlock = some k → S k) (c : Hc) (hok : c.ok) (v : Value) (hBa : Below W.heap.size W Wa) (hm : m = c.bytes.length) (hroom : sumH H + c.need ≤ 1048576) (hsv : SaveOk W hb sb S c v u h)
    (k : Took Wa hb sb vc T H u h m w3) (ht : HTab w4 hb sb (.slice (some ⟨b, 0, none⟩) H4.length cap) H4 u h) (hU4 : Upd (fun x => x = hb ∨ vc.ownBlock = some x) w3 w4) (hv4 : vc.ownBlock = some b ∨ w3.heap.size ≤ b) (hl4 : lid H < H4.length) (hp : H4.set (lid H) (some c.zero) = putH H (lid H) (some c.zero)) :
    (w4.cell? ⟨hb, 1, none⟩ = some (.slice (some ⟨b, 0, none⟩) H4.length cap) ∧ (∃ v0 v1 v2 v3 v4, w4.cell? ⟨b, lid H * 5, none⟩ = some v0 ∧ w4.cell? ⟨b, lid H * 5 + 1, none⟩ = some v1 ∧ w4.cell? ⟨b, lid H * 5 + 2, none⟩ = some v2 ∧ w4.cell? ⟨b, lid H * 5 + 3, none⟩ = some v3 ∧ w4.cell? ⟨b, lid H * 5 + 4, none⟩ = some v4) ∧ (w4.frozen? ⟨b, lid H * 5, none⟩ = false ∧ w4.frozen? ⟨b, lid H * 5 + 1, none⟩ = false ∧ w4.frozen? ⟨b, lid H * 5 + 2, none⟩ = false ∧ w4.frozen? ⟨b, lid H * 5 + 3, none⟩ = false ∧ w4.frozen? ⟨b, lid H * 5 + 4, none⟩ = false)) ∧ (∀ x, x ≠ b → ((((((w4.setCell ⟨b, lid H * 5, none⟩ (.int .i64 c.cl.kind)).setCell ⟨b, lid H * 5 + 1, none⟩ (.bool c.cl.view)).setCell ⟨b, lid H * 5 + 2, none⟩ (.int .u64 c.cl.base)).setCell ⟨b, lid H * 5 + 3, none⟩ (.int .i64 c.cl.frm)).setCell ⟨b, lid H * 5 + 4, none⟩ (.int .i64 c.cl.len))).heap[x]? = w4.heap[x]?) ∧
    Calls Tryz.prog 182 #[.pointer (some ⟨hb, 0, none⟩), .int .i64 (lid H : Nat), v] ((((((w4.setCell ⟨b, lid H * 5, none⟩ (.int .i64 c.cl.kind)).setCell ⟨b, lid H * 5 + 1, none⟩ (.bool c.cl.view)).setCell ⟨b, lid H * 5 + 2, none⟩ (.int .u64 c.cl.base)).setCell ⟨b, lid H * 5 + 3, none⟩ (.int .i64 c.cl.frm)).setCell ⟨b, lid H * 5 + 4, none⟩ (.int .i64 c.cl.len))).drew fun e w' => e = .returned (.tuple #[]) ∧ Hid (Upd S W w' ∧ ∃ vc' T', HLay w' hb sb vc' T' (putH H (lid H) (some c)) u h ∧ (∀ k, T' k → T k ∨ W.heap.size ≤ k) ∧ (∀ k, vc'.ownBlock = some k → vc.ownBlock = some k ∨ W.heap.size ≤ k)) := by
  have ga := g.below hBa
  have za := hBa.size
  have z3 := k.upd.size
  have z4 := hU4.size
  obtain ⟨ht5, hU5⟩ := ht.write (lid H) hl4 (some c.zero)
  have ecl : clO (some c.zero) = c.cl := zero_cl c
  rw [ecl] at ht5 hU5
  rw [hp] at ht5
  have hx : ∀ x, x ≠ b → ((((((w4.setCell ⟨b, lid H * 5, none⟩ (.int .i64 c.cl.kind)).setCell ⟨b, lid H * 5 + 1, none⟩ (.bool c.cl.view)).setCell ⟨b, lid H * 5 + 2, none⟩ (.int .u64 c.cl.base)).setCell ⟨b, lid H * 5 + 3, none⟩ (.int .i64 c.cl.frm)).setCell ⟨b, lid H * 5 + 4, none⟩ (.int .i64 c.cl.len))).heap[x]? = w4.heap[x]? := by
    intro x hx
    rw [Below.heap_setCell _ _ _ _ hx, Below.heap_setCell _ _ _ _ hx, Below.heap_setCell _ _ _ _ hx, Below.heap_setCell _ _ _ _ hx, Below.heap_setCell _ _ _ _ hx]
  generalize (((((w4.setCell ⟨b, lid H * 5, none⟩ (.int .i64 c.cl.kind)).setCell ⟨b, lid H * 5 + 1, none⟩ (.bool c.cl.view)).setCell ⟨b, lid H * 5 + 2, none⟩ (.int .u64 c.cl.base)).setCell ⟨b, lid H * 5 + 3, none⟩ (.int .i64 c.cl.frm)).setCell ⟨b, lid H * 5 + 4, none⟩ (.int .i64 c.cl.len)) = w5 at *
  have hblt : b < w4.heap.size := (ht.own.lt b rfl).2
  have hcell : ∀ j, j < 5 → ∃ v, w4.cell? ⟨b, lid H * 5 + j, none⟩ = some v := by
    intro j hj
    have h1 := ht.own.cellAt (lid H * 5 + j) (by omega)
    have h2 : lid H * 5 + j < (flatC H4).length := by rw [flatC_len]; omega
    rw [List.getElem?_eq_getElem h2] at h1
    exact ⟨_, h1⟩
  have hlay := k.lay ga hm hok hroom hU4 ht5 (hU5.mono (fun x e => by rw [e]; rfl)) (fun x e => by cases e; exact hv4)
  have hUS4 : Upd S W w4 := ((Upd.of_below hBa).trans' (k.upd.mono (fun x e => hST x (.inl e)))).trans' (hU4.mono (fun x e => hST x (.inr e)))
  have hUS5 : Upd S W w5 := hUS4.trans (hU5.mono (fun x e => by
    subst e
    rcases hv4 with e | e
    · exact .inl (hST x (.inr (.inr e)))
    · exact .inr ⟨by omega, hblt⟩))
  obtain ⟨v0, e0⟩ := hcell 0 (by omega)
  obtain ⟨v1, e1⟩ := hcell 1 (by omega)
  obtain ⟨v2, e2⟩ := hcell 2 (by omega)
  obtain ⟨v3, e3⟩ := hcell 3 (by omega)
  obtain ⟨v4, e4⟩ := hcell 4 (by omega)
  refine ⟨⟨ht.cell 1, ⟨v0, v1, v2, v3, v4, e0, e1, e2, e3, e4⟩, ht.own.frozenAt _, ht.own.frozenAt _, ht.own.frozenAt _, ht.own.frozenAt _, ht.own.frozenAt _⟩, ?_, ?_⟩
  · exact hx
  · refine (hsv _ _ _ _ (lid H) (hlay.same (W' := w5.drew) rfl) (putH_self _ _) ?_ hUS5.drew).mono ?_
    · rintro x (e | e)
      · exact .inl (hST x (.inl e))
      · right; omega
    · rintro e w6 ⟨rfl, hU6, hL6⟩
      rw [putH_set] at hL6
      refine ⟨rfl, ?_⟩
      have z5 := hU5.size
      show _ ∧ _
      refine ⟨hUS5.drew.trans (hU6.mono ?_), _, _, hL6, ?_, ?_⟩
      · rintro x (e | e)
        · exact .inl (hST x (.inl e))
        · exact .inr ⟨by omega, by show x < w5.heap.size; omega⟩
      · rintro x (e | e)
        · exact .inl e
        · right; omega
      · intro x e
        cases e
        rcases hv4 with e | e
        · exact .inl e
        · right; show W.heap.size ≤ b; omega
set_option maxHeartbeats 2000000 in
theorem add_c (g : HLay W hb sb vc T H u h) (S : Nat → Prop) (hST : ∀ k, T k ∨ k = hb ∨ vc.ownBlock = some k → S k) (c : Hc) (hok : c.ok) (i : Int) (t : ByteArray) (ob ow : Option Addr) (bl bc wl wc : Nat) (hwl : wl ≤ 1048576) (hsz : sizeV c.cl.kind c.cl.view t.size bl wl = c.bytes.length) (hroom : sumH H + c.need ≤ 1048576) (hsv : SaveOk W hb sb S c (.agg #[.int .i64 c.cl.kind, .bool c.cl.view, .int .i64 i, .string t, .slice ob bl bc, .slice ow wl wc, .int .u64 c.cl.base, .int .i64 c.cl.frm, .int .i64 c.cl.len]) u h) :
    Calls Tryz.prog 133 #[.pointer (some ⟨hb, 0, none⟩), .agg #[.int .i64 c.cl.kind, .bool c.cl.view, .int .i64 i, .string t, .slice ob bl bc, .slice ow wl wc, .int .u64 c.cl.base, .int .i64 c.cl.frm, .int .i64 c.cl.len]] W fun e w' => e = .returned (.int .i64 (lid H : Nat)) ∧ Upd S W w' ∧ ∃ vc' T', HLay w' hb sb vc' T' (putH H (lid H) (some c)) u h ∧ (∀ k, T' k → T k ∨ W.heap.size ≤ k) ∧ (∀ k, vc'.ownBlock = some k → vc.ownBlock = some k ∨ W.heap.size ≤ k) := by
  have hBa : Below W.heap.size W (W.alloc (.cells #[.int .i64 c.cl.kind, .bool c.cl.view, .int .i64 i, .string t, .slice ob bl bc, .slice ow wl wc, .int .u64 c.cl.base, .int .i64 c.cl.frm, .int .i64 c.cl.len] 99)) := (Below.refl _ W).alloc (Nat.le_refl _) _
  have ga := g.below hBa
  have cs := size_c c.cl.kind c.cl.view i t ob ow bl bc wl wc c.cl.base c.cl.frm c.cl.len (by omega)
  rw [hsz] at cs
  unfold cellV at cs
  have n9 := World.cell?_alloc_new W #[.int .i64 c.cl.kind, .bool c.cl.view, .int .i64 i, .string t, .slice ob bl bc, .slice ow wl wc, .int .u64 c.cl.base, .int .i64 c.cl.frm, .int .i64 c.cl.len] 99
  have c0 := ga.cell 0
  simp only [List.getElem?_cons_zero] at c0
  have ct : Hid (∀ w2, Below ((W.alloc (.cells #[.int .i64 c.cl.kind, .bool c.cl.view, .int .i64 i, .string t, .slice ob bl bc, .slice ow wl wc, .int .u64 c.cl.base, .int .i64 c.cl.frm, .int .i64 c.cl.len] 99))).drew.heap.size ((W.alloc (.cells #[.int .i64 c.cl.kind, .bool c.cl.view, .int .i64 i, .string t, .slice ob bl bc, .slice ow wl wc, .int .u64 c.cl.base, .int .i64 c.cl.frm, .int .i64 c.cl.len] 99))).drew w2 → ((w2.cell? ⟨hb, 0, none⟩ = some (.pointer (some ⟨sb, 0, none⟩)) ∧ ∀ j, w2.cell? ⟨W.heap.size, j, none⟩ = #[.int .i64 c.cl.kind, .bool c.cl.view, .int .i64 i, .string t, .slice ob bl bc, .slice ow wl wc, .int .u64 c.cl.base, .int .i64 c.cl.frm, .int .i64 c.cl.len][j]?) ∧ Calls Tryz.prog 181 #[.pointer (some ⟨sb, 0, none⟩), .int .i64 (c.bytes.length : Nat)] w2 fun e w3 => e = .returned (.tuple #[.int .i64 (lid H : Nat), .int .i64 0]) ∧ Took (W.alloc (.cells #[.int .i64 c.cl.kind, .bool c.cl.view, .int .i64 i, .string t, .slice ob bl bc, .slice ow wl wc, .int .u64 c.cl.base, .int .i64 c.cl.frm, .int .i64 c.cl.len] 99)) hb sb vc T H u h c.bytes.length w3 ∧ (w3.cell? ⟨hb, 0, none⟩ = some (.pointer (some ⟨sb, 0, none⟩)) ∧ ∀ j, w3.cell? ⟨W.heap.size, j, none⟩ = #[.int .i64 c.cl.kind, .bool c.cl.view, .int .i64 i, .string t, .slice ob bl bc, .slice ow wl wc, .int .u64 c.cl.base, .int .i64 c.cl.frm, .int .i64 c.cl.len][j]?))) := by
    show ∀ w2, _
    intro w2 hB2
    have hB2' : Below ((W.alloc (.cells #[.int .i64 c.cl.kind, .bool c.cl.view, .int .i64 i, .string t, .slice ob bl bc, .slice ow wl wc, .int .u64 c.cl.base, .int .i64 c.cl.frm, .int .i64 c.cl.len] 99))).heap.size (W.alloc (.cells #[.int .i64 c.cl.kind, .bool c.cl.view, .int .i64 i, .string t, .slice ob bl bc, .slice ow wl wc, .int .u64 c.cl.base, .int .i64 c.cl.frm, .int .i64 c.cl.len] 99)) w2 := ⟨hB2.os, hB2.tape, hB2.output, hB2.size, hB2.block⟩
    have hs2 := hB2'.size
    have hsa : ((W.alloc (.cells #[.int .i64 c.cl.kind, .bool c.cl.view, .int .i64 i, .string t, .slice ob bl bc, .slice ow wl wc, .int .u64 c.cl.base, .int .i64 c.cl.frm, .int .i64 c.cl.len] 99))).heap.size = W.heap.size + 1 := World.size_alloc ..
    have e9 : ∀ (w : World), w.heap[W.heap.size]? = ((W.alloc (.cells #[.int .i64 c.cl.kind, .bool c.cl.view, .int .i64 i, .string t, .slice ob bl bc, .slice ow wl wc, .int .u64 c.cl.base, .int .i64 c.cl.frm, .int .i64 c.cl.len] 99))).heap[W.heap.size]? → ∀ j, w.cell? ⟨W.heap.size, j, none⟩ = #[.int .i64 c.cl.kind, .bool c.cl.view, .int .i64 i, .string t, .slice ob bl bc, .slice ow wl wc, .int .u64 c.cl.base, .int .i64 c.cl.frm, .int .i64 c.cl.len][j]? := fun w e j => by
      rw [World.cell?_of_block e]; exact n9 j
    refine ⟨⟨below_cell hB2' c0, e9 w2 (hB2'.block _ (by omega))⟩, ?_⟩
    refine (took (ga.below hB2') c hok hroom).mono ?_
    rintro e w3 ⟨rfl, k⟩
    have hU3 : Upd T (W.alloc (.cells #[.int .i64 c.cl.kind, .bool c.cl.view, .int .i64 i, .string t, .slice ob bl bc, .slice ow wl wc, .int .u64 c.cl.base, .int .i64 c.cl.frm, .int .i64 c.cl.len] 99)) w3 := (Upd.of_below hB2').trans' k.upd
    refine ⟨rfl, ⟨k.tab, k.st.mono (fun x hx => ?_), hU3⟩, k.tab.cell 0, e9 w3 (hU3.block _ (by omega) (fun e => by have := g.tlt _ e; omega))⟩
    rcases hx with e | e
    · exact .inl e
    · exact .inr ⟨by omega, e.2⟩
  go_enter Tryz.func133, Tryz.ntmps133
  go_upto_region 1 with fail
  go_region_held3 (fun w' => w'.cell? ⟨hb, 0, none⟩ = some (.pointer (some ⟨sb, 0, none⟩)) ∧ ∀ j, w'.cell? ⟨W.heap.size, j, none⟩ = #[.int .i64 c.cl.kind, .bool c.cl.view, .int .i64 i, .string t, .slice ob bl bc, .slice ow wl wc, .int .u64 c.cl.base, .int .i64 c.cl.frm, .int .i64 c.cl.len][j]?) (first | exact ⟨c0, n9⟩ | exact k2 | exact k3) (first | (go_at_call 175; (with_reducible refine (cs _).mono ?_); rintro e w2 ⟨rfl, hB2⟩; (have k2 := (ct.out w2 hB2).1); (have ct2 := (ct.out w2 hB2).2); clear ct c0 n9) | (go_at_call 181; (with_reducible refine ct2.mono ?_); rintro e w3 ⟨rfl, hk, k3⟩; clear ct2 k2))
  obtain ⟨k30, n9⟩ := k3
  by_cases hlt : lid H < H.length
  · obtain ⟨b, cap, hvc, _⟩ := own_slice hk.tab.own (by omega)
    subst hvc
    have hvb : (Value.slice (some ⟨b, 0, none⟩) H.length cap).ownBlock = some b := rfl
    obtain ⟨⟨c1, ⟨v0, v1, v2, v3, v4, f0, f1, f2, f3, f4⟩, ⟨q0, q1, q2, q3, q4⟩⟩, hx, csv⟩ := add_tail (w4 := w3) g S hST c hok _ hBa rfl hroom hsv hk hk.tab (Upd.refl _ _) (.inl hvb) hlt (by unfold putH; rw [if_pos hlt])
    have hne : ¬ ((lid H : Nat) : Int) = (H.length : Nat) := by omega
    have l0 : (0 : Int) ≤ (lid H : Nat) := by omega
    have l1 : ((lid H : Nat) : Int) < (H.length : Nat) := by omega
    have kb : Hid (W.heap.size ≠ b ∧ hb ≠ b) := by
      have h1 := g.clt b hvb
      exact ⟨by omega, fun e => g.tab.ne (by rw [e]; rfl)⟩
    clear hsv hk hBa ga g hST hok cs
    generalize c.cl = cc at *
    obtain ⟨kd, vw, ba, fr, ln⟩ := cc
    simp only at *
    go_upto_region 4 with fail
    have k5 : Hid (∀ j, (((((w3.setCell ⟨b, lid H * 5, none⟩ (.int .i64 kd)).setCell ⟨b, lid H * 5 + 1, none⟩ (.bool vw)).setCell ⟨b, lid H * 5 + 2, none⟩ (.int .u64 ba)).setCell ⟨b, lid H * 5 + 3, none⟩ (.int .i64 fr)).setCell ⟨b, lid H * 5 + 4, none⟩ (.int .i64 ln)).cell? ⟨W.heap.size, j, none⟩ = #[.int .i64 kd, .bool vw, .int .i64 i, .string t, .slice ob bl bc, .slice ow wl wc, .int .u64 ba, .int .i64 fr, .int .i64 ln][j]?) := by
      intro j
      rw [World.cell?_of_block (hx _ kb.out.1)]
      exact n9 j
    clear hx
    go_region
    have k6 := k5.out
    go_wp2_with (go_at_call 182; (with_reducible refine csv.mono ?_); rintro e w6 ⟨rfl, hf⟩; clear csv)
    go_ret
    exact ⟨rfl, hf.out⟩
  · have hlid := lid_le H
    have hle : lid H = H.length := by omega
    obtain ⟨v', w', hrun, r1, r2, ht, hU4, hv'⟩ := hk.tab.grow g.len 43
    obtain ⟨b, cap, hvv, _⟩ := own_slice ht.own (by rw [List.length_append]; simp)
    subst hvv
    obtain ⟨⟨c1, ⟨v0, v1, v2, v3, v4, f0, f1, f2, f3, f4⟩, ⟨q0, q1, q2, q3, q4⟩⟩, hx, csv⟩ := add_tail (w4 := w'.setCell ⟨hb, 1, none⟩ (.slice (some ⟨b, 0, none⟩) (H ++ [(none : Option Hc)]).length cap)) g S hST c hok _ hBa rfl hroom hsv hk ht hU4 (hv' b rfl) (by rw [List.length_append]; show lid H < H.length + 1; omega) (by unfold putH; rw [if_neg hlt, hle, List.set_append_right _ _ (Nat.le_refl _)]; simp)
    have hl4 : (H ++ [(none : Option Hc)]).length = H.length + 1 := by simp
    generalize (H ++ [(none : Option Hc)]).length = n4 at *
    subst hl4
    rw [hle] at f0 f1 f2 f3 f4 q0 q1 q2 q3 q4 hx csv
    have l0 : (0 : Int) ≤ (H.length : Nat) := by omega
    have l1 : ((H.length : Nat) : Int) < ((H.length + 1 : Nat) : Int) := by omega
    have heq : ((lid H : Nat) : Int) = (H.length : Nat) := by omega
    have z3 := hk.upd.size
    have hsa : ((W.alloc (.cells #[.int .i64 c.cl.kind, .bool c.cl.view, .int .i64 i, .string t, .slice ob bl bc, .slice ow wl wc, .int .u64 c.cl.base, .int .i64 c.cl.frm, .int .i64 c.cl.len] 99))).heap.size = W.heap.size + 1 := World.size_alloc ..
    have kb : Hid (W.heap.size ≠ b ∧ hb ≠ b ∧ W.heap.size ≠ hb) := by
      refine ⟨?_, fun e => ht.ne (by rw [e]; rfl), ?_⟩
      · rcases hv' b rfl with e | e
        · have := g.clt b e; omega
        · omega
      · have := g.hlt; omega
    have n9' : ∀ j, (w'.setCell ⟨hb, 1, none⟩ (.slice (some ⟨b, 0, none⟩) (H.length + 1) cap)).cell? ⟨W.heap.size, j, none⟩ = #[.int .i64 c.cl.kind, .bool c.cl.view, .int .i64 i, .string t, .slice ob bl bc, .slice ow wl wc, .int .u64 c.cl.base, .int .i64 c.cl.frm, .int .i64 c.cl.len][j]? := by
      intro j
      have e4 := hU4.block W.heap.size (by omega) (by
        rintro (e | e)
        · exact kb.out.2.2 e
        · have := g.clt _ e; omega)
      rw [World.cell?_of_block e4]
      exact n9 j
    have k1 := hk.tab.cell 1
    obtain ⟨o1, cap1, hvc⟩ := g.sl
    rw [hvc] at k1 hrun r1
    have k5 : Hid (∀ j, ((((((w'.setCell ⟨hb, 1, none⟩ (.slice (some ⟨b, 0, none⟩) (H.length + 1) cap)).setCell ⟨b, H.length * 5, none⟩ (.int .i64 c.cl.kind)).setCell ⟨b, H.length * 5 + 1, none⟩ (.bool c.cl.view)).setCell ⟨b, H.length * 5 + 2, none⟩ (.int .u64 c.cl.base)).setCell ⟨b, H.length * 5 + 3, none⟩ (.int .i64 c.cl.frm)).setCell ⟨b, H.length * 5 + 4, none⟩ (.int .i64 c.cl.len)).cell? ⟨W.heap.size, j, none⟩ = #[.int .i64 c.cl.kind, .bool c.cl.view, .int .i64 i, .string t, .slice ob bl bc, .slice ow wl wc, .int .u64 c.cl.base, .int .i64 c.cl.frm, .int .i64 c.cl.len][j]?) := by
      intro j
      rw [World.cell?_of_block (hx _ kb.out.1)]
      exact n9' j
    have N9 := hid n9'
    have k10 := k1
    simp only [List.getElem?_cons_succ, List.getElem?_cons_zero] at k10
    clear hsv hk hBa ga g hST hok cs hx ht hU4 n9' hv' k1 n9 hB2
    generalize c.cl = cc at *
    obtain ⟨kd, vw, ba, fr, ln⟩ := cc
    simp only at *
    go_upto_region 4 with (at_builtin; refine Lib.wpList_append_run _ rfl _ _ _ _ rfl _ _ rfl rfl _ _ hrun ?_)
    have n9 := N9.out
    clear hrun r1 r2 k10
    generalize w'.setCell ⟨hb, 1, none⟩ (.slice (some ⟨b, 0, none⟩) (H.length + 1) cap) = W4 at *
    clear heq
    go_region
    have k6 := k5.out
    go_wp2_with (go_at_call 182; (with_reducible refine csv.mono ?_); rintro e w6 ⟨rfl, hf⟩; clear csv)
    go_ret
    rw [hle]
    exact ⟨rfl, hf.out⟩
end
end Go.Proofs.YtgmimmdojkoppaaGreatDoor.W
/- Package heap: reach's own frame, its marks, its measure. -/
namespace Go.Proofs.YtgmimmdojkoppaaGreatDoor.W
open Go.ChangeShapes Go.WideShapes Go.RowKit Go.Shelf
set_option linter.unusedVariables false
/-- marks among deferred calls, none of which hands a call over -/
def Marks (B : Nat) (w : World) : List Deferred → Prop
  | [] => True
  | d :: ds => (∃ r, d = { target := .collected r, args := #[] } ∧ B ≤ r ∧ w.heap[r]? = some (.deferred (some [])) ∧ ∀ d' ∈ ds, d' ≠ d) ∧ Marks B w ds
theorem Marks.kept {B : Nat} {w w' : World} (hk : ∀ k : Nat, B ≤ k → w.heap[k]? = some (.deferred (some [])) → w'.heap[k]? = w.heap[k]?) : ∀ ds, Marks B w ds → Marks B w' ds
  | [], _ => trivial
  | d :: ds, ⟨⟨r, h1, h2, h3, h4⟩, h5⟩ => ⟨⟨r, h1, h2, (hk r h2 h3).trans h3, h4⟩, Marks.kept hk ds h5⟩
theorem marks_leave {F : Fence} {n : Nat} {P : Program} {fn : Func} {tmps : Array Value} {R : Ending → World → Prop} {B : Nat} : ∀ (ds : List Deferred) (w : World), Marks B w ds →
    (∀ w', Upd (fun k => B ≤ k ∧ w.heap[k]? = some (.deferred (some []))) w w' → LeavesIn F n P fn tmps R [] .returning w') → LeavesInM F n P fn tmps R ds .returning w
  | [], w, _, h => h w (Upd.refl _ _)
  | d :: ds, w, ⟨⟨r, h1, h2, h3, h4⟩, h5⟩, h => by
    refine ⟨by simp, .inl ⟨r, _, by rw [h1], run_takeDeferred h3, ?_⟩⟩
    have hu : Upd (fun k => B ≤ k ∧ w.heap[k]? = some (.deferred (some []))) w (w.putObj r (.deferred none)) := upd_put (S := fun k => B ≤ k ∧ w.heap[k]? = some (.deferred (some []))) ⟨h2, h3⟩ _
    have hrr : (w.putObj r (.deferred none)).heap[r]? = some (.deferred none) := World.putObj_heap_same (Array.getElem?_eq_some_iff.1 h3).1
    have hM : Marks B (w.putObj r (.deferred none)) ds := by
      have : ∀ es : List Deferred, (∀ d' ∈ es, d' ≠ d) → Marks B w es → Marks B (w.putObj r (.deferred none)) es := by
        intro es
        induction es with
        | nil => intro _ _; trivial
        | cons e es ih =>
          rintro hne ⟨⟨q, g1, g2, g3, g4⟩, g5⟩
          refine ⟨⟨q, g1, g2, ?_, g4⟩, ih (fun d' hd' => hne d' (by simp [hd'])) g5⟩
          rw [World.putObj_heap_other (by rintro rfl; exact hne e (by simp) (by rw [g1, h1]))]
          exact g3
      exact this ds h4 h5
    refine marks_leave ds _ hM (fun w' hw' => h w' (hu.trans (hw'.mono ?_)))
    rintro k ⟨hk1, hk2⟩
    refine .inl ⟨hk1, ?_⟩
    by_cases e : k = r
    · subst e; rw [hrr] at hk2; cases hk2
    · rwa [World.putObj_heap_other e] at hk2
/-- a list of 82, written out -/
theorem list82 (f : Nat → Value) : (List.range 82).map f = [f 0, f 1, f 2, f 3, f 4, f 5, f 6, f 7, f 8, f 9, f 10, f 11, f 12, f 13, f 14, f 15, f 16, f 17, f 18, f 19, f 20, f 21, f 22, f 23, f 24, f 25, f 26, f 27, f 28, f 29, f 30, f 31, f 32, f 33, f 34, f 35, f 36, f 37, f 38, f 39, f 40, f 41, f 42, f 43, f 44, f 45, f 46, f 47, f 48, f 49, f 50, f 51, f 52, f 53, f 54, f 55, f 56, f 57, f 58, f 59, f 60, f 61, f 62, f 63, f 64, f 65, f 66, f 67, f 68, f 69, f 70, f 71, f 72, f 73, f 74, f 75, f 76, f 77, f 78, f 79, f 80, f 81] := rfl
def ract (x2 x4 x5 x6 x7 : Value) (u : Nat → Value) : Array Value := #[u 0, u 1, x2, u 3, x4, x5, x6, x7, u 8, u 9, u 10, u 11, u 12, u 13, u 14, u 15, u 16, u 17, u 18, u 19, u 20, u 21, u 22, u 23, u 24, u 25, u 26, u 27, u 28, u 29, u 30, u 31, u 32, u 33, u 34, u 35, u 36, u 37, u 38, u 39, u 40, u 41, u 42, u 43, u 44, u 45, u 46, u 47, u 48, u 49, u 50, u 51, u 52, u 53, u 54, u 55, u 56, u 57, u 58, u 59, u 60, u 61, u 62, u 63, u 64, u 65, u 66, u 67, u 68, u 69, u 70, u 71, u 72, u 73, u 74, u 75, u 76, u 77, u 78, u 79, u 80, u 81]
theorem ract_of (t : Array Value) {x2 x4 x5 x6 x7 : Value} (hs : t.size = 82) (h2 : t.getD 2 undef = x2) (h4 : t.getD 4 undef = x4) (h5 : t.getD 5 undef = x5) (h6 : t.getD 6 undef = x6) (h7 : t.getD 7 undef = x7) : ∃ u, t = ract x2 x4 x5 x6 x7 u := by
  refine ⟨fun n => t.getD n undef, ?_⟩
  subst h2 h4 h5 h6 h7
  have e : t.toList = (List.range 82).map (fun n => t.getD n undef) := by
    apply List.ext_getElem?
    intro i
    by_cases hi : i < 82
    · rw [List.getElem?_map, List.getElem?_range hi]
      simp [hi, hs]
    · rw [List.getElem?_eq_none (by simp; omega), List.getElem?_eq_none (by simp; omega)]
  rw [list82] at e
  have : t = t.toList.toArray := by simp
  rw [this, e]
  rfl
/-- how much there is to do -/
def isF : Value → Bool
  | .bool false => true
  | _ => false
def muW (gR Bo : Nat) (W : World) : Nat :=
  2 * (match W.heap[gR]? with | some (.cells a _ _) => (a.toList.filter isF).length | _ => 0) + (match W.cell? ⟨Bo, 0, none⟩ with | some (.slice _ n _) => n | _ => 0)
theorem isF_map (R : List Bool) : ((R.map Value.bool).filter isF).length = unmarked R := by
  induction R with
  | nil => rfl
  | cons b R ih =>
    unfold unmarked at *
    cases b
    · show ((Value.bool false :: R.map Value.bool).filter isF).length = ((false :: R).filter (fun b => !b)).length
      rw [List.filter_cons_of_pos rfl, List.filter_cons_of_pos rfl, List.length_cons, List.length_cons, ih]
    · show ((Value.bool true :: R.map Value.bool).filter isF).length = ((true :: R).filter (fun b => !b)).length
      rw [List.filter_cons_of_neg (by intro h; cases h), List.filter_cons_of_neg (by decide), ih]
section
variable {W : World} {hb B0 Bh Br Bn Bo gR n : Nat} {vo : Value} {s : List Bool × List Nat × Nat}
theorem RSt.mu (r : RSt W B0 Bh Br Bn Bo hb (.slice (some ⟨gR, 0, none⟩) n n) vo s) (hl : s.1.length = n) : muW gR Bo W = 2 * unmarked s.1 + s.2.1.length := by
  unfold muW
  rw [r.bo.cell]
  obtain ⟨o, cap, hvo⟩ := slice_of (owns_base r.orow (b' := 0) (fun _ _ => Nat.zero_le _))
  rcases r.rrow.2 with ⟨h0, _⟩ | ⟨g', cap', cur, h0, _, hgg, h1, h2, h3, h4⟩
  · cases h0
  · cases h0
    rw [hgg, hvo]
    have e : cur.toList = s.1.map .bool := by
      rw [← h4, List.take_of_length_le (by simp; omega)]
    simp only [e, isF_map]
theorem RSt.pop {R : List Bool} {O : List Nat} {i m gO capO : Nat} {vr : Value} (r : RSt W B0 Bh Br Bn Bo hb vr (.slice (some ⟨gO, 0, none⟩) (O.length + 1) capO) (R, O ++ [i], m)) : RSt (W.setCell ⟨Bo, 0, none⟩ (.slice (some ⟨gO, 0, none⟩) O.length capO)) B0 Bh Br Bn Bo hb vr (.slice (some ⟨gO, 0, none⟩) O.length capO) (R, O, m) := by
  have hbs : ∀ {B t v}, Boxed W B t v → t ≠ 70 → Boxed (W.setCell ⟨Bo, 0, none⟩ (.slice (some ⟨gO, 0, none⟩) O.length capO)) B t v := by
    intro B t v hbx ht
    refine box_set hbx ?_
    rintro rfl
    have b4 := r.bo
    unfold Boxed at b4 hbx
    rw [b4] at hbx
    cases hbx
    exact ht rfl
  refine ⟨hbs r.bh (by decide), hbs r.br (by decide), hbs r.bn (by decide), r.bo.set _, ?_, ?_, r.ne, r.l1, r.l2, r.l3, r.l4⟩
  · refine owns_on r.rrow (fun k e => Below.heap_setCell _ _ _ _ ?_)
    rintro rfl
    exact own_ne (owns_base r.rrow (b' := 0) (fun _ _ => Nat.zero_le _)) r.bo (by decide) e.symm
  · have ho := own_take (owns_base r.orow (b' := 0) (fun _ _ => Nat.zero_le _)) (show Value.slice (some ⟨gO, 0, none⟩) (O.length + 1) capO = .slice (some ⟨gO, 0, none⟩) (O ++ [i]).length capO by simp) (m := O.length) (by simp)
    have e : ((O ++ [i]).map (fun i => Value.int .i64 (i : Nat))).take O.length = O.map (fun i => Value.int .i64 (i : Nat)) := by
      rw [List.map_append, List.take_append_of_le_length (by simp), List.take_of_length_le (by simp)]
    have hne := own_ne (owns_base r.orow (b' := 0) (fun _ _ => Nat.zero_le _)) r.bo (by decide)
    have ho2 := owns_base ho (b' := B0) (fun k ek => (r.orow.lt k ek).1)
    refine owns_on (W := W) ?_ (fun k ek => Below.heap_setCell _ _ _ _ ?_)
    · have e' := e
      show World.ownsRow W B0 3 1 _ O.length (O.map (fun i => Value.int .i64 (i : Nat)))
      rw [← e]
      exact ho2
    · rintro rfl
      exact hne ek.symm
end
end Go.Proofs.YtgmimmdojkoppaaGreatDoor.W
/- Package heap: reach: what is popped, what marks keep. -/
namespace Go.Proofs.YtgmimmdojkoppaaGreatDoor.W
open Go.ChangeShapes Go.WideShapes Go.RowKit Go.Shelf
set_option linter.unusedVariables false
theorem Marks.lt {B : Nat} {w : World} : ∀ ds, Marks B w ds → ∀ d ∈ ds, ∃ r, d = { target := .collected r, args := #[] } ∧ r < w.heap.size
  | [], _, d, hd => by cases hd
  | e :: ds, ⟨⟨r, h1, h2, h3, h4⟩, h5⟩, d, hd => by
    rcases List.mem_cons.1 hd with rfl | hd
    · exact ⟨r, h1, (Array.getElem?_eq_some_iff.1 h3).1⟩
    · exact Marks.lt ds h5 d hd
section
variable {W0 W W' : World} {hb sb Br Bn Bo Bm : Nat} {vc vr vo : Value} {T : Nat → Prop} {H : List (Option Hc)} {u h : Nat} {ws : List Nat} {cur : Nat → Prop} {s : List Bool × List Nat × Nat}
theorem Rw.pop {R : List Bool} {O : List Nat} {i m gO capO : Nat} (q : Rw W0 hb sb vc T H u h Br Bn Bo Bm vr ws (fun _ => False) W (.slice (some ⟨gO, 0, none⟩) (O.length + 1) capO) (R, O ++ [i], m)) :
    Rw W0 hb sb vc T H u h Br Bn Bo Bm vr ws (fun j => j = i) (W.setCell ⟨Bo, 0, none⟩ (.slice (some ⟨gO, 0, none⟩) O.length capO)) (.slice (some ⟨gO, 0, none⟩) O.length capO) (R, O, m) := by
  have hU : Upd (fun k => k = Bo) W (W.setCell ⟨Bo, 0, none⟩ (.slice (some ⟨gO, 0, none⟩) O.length capO)) := (Upd.refl (fun k => k = Bo) W).setCell (p := ⟨Bo, 0, none⟩) (.inl rfl) _
  have hb' : Below W0.heap.size W (W.setCell ⟨Bo, 0, none⟩ (.slice (some ⟨gO, 0, none⟩) O.length capO)) := hU.below q.bel.size (fun k e => by subst e; exact q.r.l4)
  refine ⟨q.lay.low q.low hb', q.low, q.r.pop, ?_, q.bel.trans hb', ⟨q.mm.inv.pop, q.mm.need⟩, q.sum⟩
  refine box_set q.m ?_
  rintro rfl
  have b1 := q.m
  have b2 := q.r.bo
  unfold Boxed at b1 b2
  rw [b1] at b2
  simp at b2
theorem Rw.live {R : List Bool} {O : List Nat} {i m : Nat} (q : Rw W0 hb sb vc T H u h Br Bn Bo Bm vr ws (fun _ => False) W vo (R, O ++ [i], m)) : ∃ c, H[i]? = some (some c) := (q.mm.inv.sound i (q.mm.inv.opn i (by simp))).live
/-- a block that marking may change holds cells -/
theorem RSt.cells {B0 Bh k : Nat} (r : RSt W B0 Bh Br Bn Bo hb vr vo s) (hk : RB Bn Bo vr vo k) : ∃ a t f, W.heap[k]? = some (.cells a t f) := by
  rcases hk with rfl | rfl | e | e
  · exact ⟨_, _, _, r.bn⟩
  · exact ⟨_, _, _, r.bo⟩
  · rcases r.rrow.2 with ⟨h0, _⟩ | ⟨g', cap', cur, h0, _, hgg, _⟩
    · rw [h0] at e; cases e
    · rw [h0] at e; cases e; exact ⟨_, _, _, hgg⟩
  · rcases r.orow.2 with ⟨h0, _⟩ | ⟨g', cap', cur, h0, _, hgg, _⟩
    · rw [h0] at e; cases e
    · rw [h0] at e; cases e; exact ⟨_, _, _, hgg⟩
theorem Marks.upd {B B0 Bh : Nat} {ds : List Deferred} (hM : Marks B W ds) (r : RSt W B0 Bh Br Bn Bo hb vr vo s) (hU : Upd (RB Bn Bo vr vo) W W') : Marks B W' ds := by
  refine Marks.kept ?_ ds hM
  intro k _ hk
  refine hU.block k (Array.getElem?_eq_some_iff.1 hk).1 ?_
  intro hb
  obtain ⟨a, t, f, e⟩ := r.cells hb
  rw [hk] at e; cases e
theorem Rw.mu {gR n : Nat} (q : Rw W0 hb sb vc T H u h Br Bn Bo Bm (.slice (some ⟨gR, 0, none⟩) n n) ws cur W vo s) (hn : n = H.length) : muW gR Bo W = 2 * unmarked s.1 + s.2.1.length := q.r.mu (by rw [q.mm.inv.len, hn])
theorem Rw.far {L : Nat} (q : Rw W0 hb sb vc T H u h Br Bn Bo Bm vr ws cur W vo s) (hu : Upd (fun k => k = L) W W') (h0 : W0.heap.size < L) (h1 : Br ≠ L) (h2 : Bn ≠ L) (h3 : Bo ≠ L) (h4 : Bm ≠ L) (h5 : vr.ownBlock ≠ some L) (h6 : vo.ownBlock ≠ some L) : Rw W0 hb sb vc T H u h Br Bn Bo Bm vr ws cur W' vo s := by
  have kb : ∀ {B t v}, Boxed W B t v → B ≠ L → Boxed W' B t v := fun b hn => box_of (hu.block _ b.lt hn) b
  have ko : ∀ {b e size v n xs}, W.ownsRow b e size v n xs → v.ownBlock ≠ some L → W'.ownsRow b e size v n xs := by
    intro b e size v n xs ho hn
    exact owns_on ho (fun k ek => hu.block k (ho.lt k ek).2 (by rintro rfl; exact hn ek))
  have hb' : Below W0.heap.size W W' := hu.below q.bel.size (fun k e => by omega)
  exact ⟨q.lay.low q.low hb', q.low, ⟨kb q.r.bh (by omega), kb q.r.br h1, kb q.r.bn h2, kb q.r.bo h3, ko q.r.rrow h5, ko q.r.orow h6, q.r.ne, q.r.l1, q.r.l2, q.r.l3, q.r.l4⟩, kb q.m h4, q.bel.trans hb', q.mm, q.sum⟩
theorem Rw.close {i : Nat} {c : Hc} (q : Rw W0 hb sb vc T H u h Br Bn Bo Bm vr ws (fun j => j = i) W vo s) (hc : H[i]? = some (some c)) (hs : ∀ w ∈ c.succ, ∀ j, hit H w = some j → s.1[j]? = some true) : Rw W0 hb sb vc T H u h Br Bn Bo Bm vr ws (fun _ => False) W vo s :=
  ⟨q.lay, q.low, q.r, q.m, q.bel, ⟨q.mm.inv.close hc hs, q.mm.need⟩, q.sum⟩
theorem Rw.below (q : Rw W0 hb sb vc T H u h Br Bn Bo Bm vr ws cur W vo s) (hb' : Below W.heap.size W W') : Rw W0 hb sb vc T H u h Br Bn Bo Bm vr ws cur W' vo s :=
  ⟨q.lay.below hb', q.low, q.r.below hb', box_of (hb'.block _ q.m.lt) q.m, q.bel.trans (hb'.mono q.bel.size), q.mm, q.sum⟩
end
end Go.Proofs.YtgmimmdojkoppaaGreatDoor.W
