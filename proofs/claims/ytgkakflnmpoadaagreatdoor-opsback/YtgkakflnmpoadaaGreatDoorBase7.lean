import Derived.Test.YtgkakflnmpoadaaGreatDoorBase6
import Derived.Test.YtgkakflnmpoadaaGreatDoorBase4
import Derived.BigFrameIn
import Derived.Test.YtgkakflnmpoadaaGreatDoorBase5
import Derived.Scope
/- Package heap: add. -/
namespace Go.Proofs.YtgkakflnmpoadaaGreatDoor.W
open Go.ChangeShapes Go.WideShapes Go.RowKit Go.Shelf
set_option linter.unusedVariables false
/-- the Id that the next cell gets -/
def lid (H : List (Option Hc)) : Nat := leastA (hA H)
theorem lid_le (H : List (Option Hc)) : lid H ≤ H.length := by
  unfold lid leastA; rw [← hA_len]; exact List.findIdx_le_length
theorem lid_free {H : List (Option Hc)} (h : lid H < H.length) : H[lid H]? = some none := by
  have h' : leastA (hA H) < (hA H).length := by rw [hA_len]; exact h
  have h2 : (hA H)[leastA (hA H)] = none := Option.isNone_iff_eq_none.1 (List.findIdx_getElem (w := h'))
  have h3 : (hA H)[leastA (hA H)]? = some none := by rw [List.getElem?_eq_getElem h', h2]
  rw [hA_get] at h3
  show H[leastA (hA H)]? = _
  have h4 : H[leastA (hA H)]? = some H[leastA (hA H)] := List.getElem?_eq_getElem h
  rw [h4] at h3 ⊢
  cases e : H[leastA (hA H)] with
  | none => rfl
  | some x => rw [e] at h3; simp at h3
theorem lid_low (H : List (Option Hc)) (i : Nat) (hi : i < lid H) : ∃ c, H[i]? = some (some c) := by
  have hil : i < H.length := Nat.lt_of_lt_of_le hi (lid_le H)
  have h1 := List.not_of_lt_findIdx (p := fun x : Option (List Nat) => x.isNone) (xs := hA H) hi
  have h2 : (hA H)[i]? = some ((hA H)[i]'(by rw [hA_len]; exact hil)) := List.getElem?_eq_getElem _
  have h4 : H[i]? = some H[i] := List.getElem?_eq_getElem hil
  rw [hA_get, h4] at h2
  cases e : H[i] with
  | some x => exact ⟨x, by rw [h4, e]⟩
  | none =>
    rw [e] at h2
    simp at h2
    rw [← h2] at h1
    simp at h1
theorem need_pos (c : Hc) : 1 ≤ c.need := by unfold Hc.need; omega
theorem full_sum (H : List (Option Hc)) (h : ∀ i, i < H.length → ∃ c, H[i]? = some (some c)) : H.length ≤ sumH H := by
  induction H with
  | nil => exact Nat.le_refl _
  | cons a H ih =>
    obtain ⟨c, hc⟩ := h 0 (by simp)
    simp at hc
    subst hc
    rw [sumH_cons, List.length_cons]
    have := ih (fun i hi => by have := h (i + 1) (by simpa using hi); simpa using this)
    have := need_pos c
    show _ ≤ c.need + _
    omega
theorem lid_sum {H : List (Option Hc)} (h : lid H = H.length) : H.length ≤ sumH H := full_sum H (fun i hi => lid_low H i (by omega))
theorem putH_len (H : List (Option Hc)) (id : Nat) (x : Option Hc) : (putH H id x).length = if id < H.length then H.length else H.length + 1 := by
  unfold putH; split <;> simp
theorem putH_sum (H : List (Option Hc)) (c : Hc) : sumH (putH H (lid H) (some c)) = sumH H + c.need := by
  unfold putH
  by_cases d : lid H < H.length
  · rw [if_pos d]
    have h1 := sumH_set H (lid H) (some c) d
    have h2 := lid_free d
    rw [List.getElem?_eq_getElem d] at h2
    simp at h2
    rw [h2] at h1
    simpa [needO] using h1
  · rw [if_neg d, sumH_snoc]; rfl
theorem putH_self (H : List (Option Hc)) (x : Option Hc) : (putH H (lid H) x)[lid H]? = some x := by
  unfold putH
  by_cases d : lid H < H.length
  · rw [if_pos d, List.getElem?_set_self d]
  · have := lid_le H
    rw [if_neg d, show lid H = H.length by omega]; simp
theorem putH_ne (H : List (Option Hc)) (x : Option Hc) (j : Nat) (hj : j ≠ lid H) : (putH H (lid H) x)[j]? = H[j]? := by
  unfold putH
  by_cases d : lid H < H.length
  · rw [if_pos d, List.getElem?_set_ne (Ne.symm hj)]
  · have := lid_le H
    rw [if_neg d]
    by_cases e : j < H.length
    · rw [List.getElem?_append_left e]
    · rw [List.getElem?_eq_none (by simp; omega), List.getElem?_eq_none (by omega)]
theorem putH_set (H : List (Option Hc)) (x y : Option Hc) : (putH H (lid H) x).set (lid H) y = putH H (lid H) y := by
  unfold putH
  by_cases d : lid H < H.length
  · rw [if_pos d, if_pos d, List.set_set]
  · have := lid_le H
    rw [if_neg d, if_neg d, show lid H = H.length by omega, List.set_append_right _ _ (Nat.le_refl _)]; simp
theorem putH_ok {H : List (Option Hc)} {c : Hc} (h : ∀ (i : Nat) (c : Hc), H[i]? = some (some c) → c.ok) (hc : c.ok) : ∀ (i : Nat) (d : Hc), (putH H (lid H) (some c))[i]? = some (some d) → d.ok := by
  intro i d hd
  by_cases e : i = lid H
  · subst e; rw [putH_self] at hd; cases hd; exact hc
  · rw [putH_ne _ _ _ e] at hd; exact h i d hd
section
variable {W W' : World} {hb sb : Nat} {vc : Value} {T : Nat → Prop} {H : List (Option Hc)} {u h : Nat}
/-- what holds behind Take -/
structure Took (W0 : World) (hb sb : Nat) (vc : Value) (T : Nat → Prop) (H : List (Option Hc)) (u h m : Nat) (W : World) : Prop where
  tab : HTab W hb sb vc H u h
  st : St W (Nx T W0 W) sb (putA (hA H) (lid H) (some (List.replicate m 0))) 8388608 1048577
  upd : Upd T W0 W
theorem took (g : HLay W hb sb vc T H u h) (c : Hc) (hok : c.ok) (hroom : sumH H + c.need ≤ 1048576) : Calls Tryz.prog 168 #[.pointer (some ⟨sb, 0, none⟩), .int .i64 (c.bytes.length : Nat)] W fun e w' => e = .returned (.tuple #[.int .i64 (lid H : Nat), .int .i64 0]) ∧ Took W hb sb vc T H u h c.bytes.length w' := by
  have h1 := sumA_sumH H
  have h2 := need_up8 c
  have h3 := g.len
  refine (take_st g.st c.bytes.length (Hc.bytes_len hok) (by omega) (by rw [hA_len]; omega)).mono ?_
  rintro e w' ⟨rfl, hU, hS⟩
  exact ⟨rfl, g.tab.kept (hU.block _ g.hlt g.thb) (fun k e => hU.block k (g.clt k e) (g.tvc k e)), hS, hU⟩
/-- the table has room for the Id: a heap, the cell of noughts -/
theorem Took.lay {W1 : World} {vc4 : Value} {c : Hc} {m : Nat} (g : HLay W hb sb vc T H u h) (k : Took W hb sb vc T H u h m W1) (hm : m = c.bytes.length) (hok : c.ok) (hroom : sumH H + c.need ≤ 1048576)
    {W2 W3 : World} (hU : Upd (fun x => x = hb ∨ vc.ownBlock = some x) W1 W2) (ht : HTab W3 hb sb vc4 (putH H (lid H) (some c.zero)) u h) (hU3 : Upd (fun x => vc4.ownBlock = some x) W2 W3) (hv4 : ∀ x, vc4.ownBlock = some x → vc.ownBlock = some x ∨ W1.heap.size ≤ x) :
    HLay W3 hb sb vc4 (Nx T W W1) (putH H (lid H) (some c.zero)) u h := by
  have z1 := k.upd.size
  have z2 := hU.size
  have z3 := hU3.size
  have hT : ∀ x, Nx T W W1 x → x < W1.heap.size := by
    rintro x (e | e)
    · have := g.tlt x e; omega
    · exact e.2
  have hThb : ¬ Nx T W W1 hb := by
    rintro (e | e)
    · exact g.thb e
    · have := g.hlt; omega
  have hTv : ∀ x, vc.ownBlock = some x → ¬ Nx T W W1 x := by
    rintro x e (e2 | e2)
    · exact g.tvc x e e2
    · have := g.clt x e; omega
  have hTv4 : ∀ x, vc4.ownBlock = some x → ¬ Nx T W W1 x := by
    intro x e e2
    rcases hv4 x e with e3 | e3
    · exact hTv x e3 e2
    · have := hT x e2; omega
  have hbl : ∀ x, Nx T W W1 x → W3.heap[x]? = W1.heap[x]? := by
    intro x hx
    have hl := hT x hx
    rw [hU3.block x (by omega) (fun e => hTv4 x e hx), hU.block x hl]
    rintro (e | e)
    · exact hThb (e ▸ hx)
    · exact hTv x e hx
  have hs : St W3 (Nx T W W1) sb (hA (putH H (lid H) (some c.zero))) 8388608 1048577 := by
    rw [hA_put, zero_bytes, ← hm]
    exact k.st.on hbl
  refine ht.lay hs (fun x e => by have := hT x e; omega) hThb hTv4 (putH_ok g.ok (zero_ok hok)) ?_ g.u1 g.h1
  rw [putH_len]
  split
  · exact g.len
  · have h5 := lid_le H
    have h6 := lid_sum (H := H) (by omega)
    have := need_pos c
    omega
end
end Go.Proofs.YtgkakflnmpoadaaGreatDoor.W
/- Package heap: add, the walk. -/
namespace Go.Proofs.YtgkakflnmpoadaaGreatDoor.W
open Go.ChangeShapes Go.WideShapes Go.RowKit Go.Shelf
set_option linter.unusedVariables false
section
variable {W W' : World} {hb sb : Nat} {vc : Value} {T : Nat → Prop} {H : List (Option Hc)} {u h : Nat}
/-- save does what it should, whatever lies where -/
def SaveOk (W : World) (hb sb : Nat) (S : Nat → Prop) (c : Hc) (v : Value) (u h : Nat) : Prop := ∀ (W' : World) (T' : Nat → Prop) (vc' : Value) (H' : List (Option Hc)) (id : Nat), HLay W' hb sb vc' T' H' u h → H'[id]? = some (some c.zero) → (∀ k, T' k → S k ∨ W.heap.size ≤ k) → Upd S W W' →
  Calls Tryz.prog 169 #[.pointer (some ⟨hb, 0, none⟩), .int .i64 id, v] W' fun e w' => e = .returned (.tuple #[]) ∧ Upd T' W' w' ∧ HLay w' hb sb vc' T' (H'.set id (some c)) u h
theorem add_tail {Wa w3 w4 : World} {b cap m : Nat} {H4 : List (Option Hc)} (g : HLay W hb sb vc T H u h) (S : Nat → Prop) (hST : ∀ k, T k ∨ k = hb ∨ vc.ownBlock = some k → S k) (c : Hc) (hok : c.ok) (v : Value) (hBa : Below W.heap.size W Wa) (hm : m = c.bytes.length) (hroom : sumH H + c.need ≤ 1048576) (hsv : SaveOk W hb sb S c v u h)
    (k : Took Wa hb sb vc T H u h m w3) (ht : HTab w4 hb sb (.slice (some ⟨b, 0, none⟩) H4.length cap) H4 u h) (hU4 : Upd (fun x => x = hb ∨ vc.ownBlock = some x) w3 w4) (hv4 : vc.ownBlock = some b ∨ w3.heap.size ≤ b) (hl4 : lid H < H4.length) (hp : H4.set (lid H) (some c.zero) = putH H (lid H) (some c.zero)) :
    (w4.cell? ⟨hb, 1, none⟩ = some (.slice (some ⟨b, 0, none⟩) H4.length cap) ∧ (∃ v0 v1 v2 v3 v4, w4.cell? ⟨b, lid H * 5, none⟩ = some v0 ∧ w4.cell? ⟨b, lid H * 5 + 1, none⟩ = some v1 ∧ w4.cell? ⟨b, lid H * 5 + 2, none⟩ = some v2 ∧ w4.cell? ⟨b, lid H * 5 + 3, none⟩ = some v3 ∧ w4.cell? ⟨b, lid H * 5 + 4, none⟩ = some v4) ∧ (w4.frozen? ⟨b, lid H * 5, none⟩ = false ∧ w4.frozen? ⟨b, lid H * 5 + 1, none⟩ = false ∧ w4.frozen? ⟨b, lid H * 5 + 2, none⟩ = false ∧ w4.frozen? ⟨b, lid H * 5 + 3, none⟩ = false ∧ w4.frozen? ⟨b, lid H * 5 + 4, none⟩ = false)) ∧ (∀ x, x ≠ b → ((((((w4.setCell ⟨b, lid H * 5, none⟩ (.int .i64 c.cl.kind)).setCell ⟨b, lid H * 5 + 1, none⟩ (.bool c.cl.view)).setCell ⟨b, lid H * 5 + 2, none⟩ (.int .u64 c.cl.base)).setCell ⟨b, lid H * 5 + 3, none⟩ (.int .i64 c.cl.frm)).setCell ⟨b, lid H * 5 + 4, none⟩ (.int .i64 c.cl.len))).heap[x]? = w4.heap[x]?) ∧
    Calls Tryz.prog 169 #[.pointer (some ⟨hb, 0, none⟩), .int .i64 (lid H : Nat), v] ((((((w4.setCell ⟨b, lid H * 5, none⟩ (.int .i64 c.cl.kind)).setCell ⟨b, lid H * 5 + 1, none⟩ (.bool c.cl.view)).setCell ⟨b, lid H * 5 + 2, none⟩ (.int .u64 c.cl.base)).setCell ⟨b, lid H * 5 + 3, none⟩ (.int .i64 c.cl.frm)).setCell ⟨b, lid H * 5 + 4, none⟩ (.int .i64 c.cl.len))).drew fun e w' => e = .returned (.tuple #[]) ∧ Hid (Upd S W w' ∧ ∃ vc' T', HLay w' hb sb vc' T' (putH H (lid H) (some c)) u h ∧ (∀ k, T' k → T k ∨ W.heap.size ≤ k) ∧ (∀ k, vc'.ownBlock = some k → vc.ownBlock = some k ∨ W.heap.size ≤ k)) := by
  have ga := g.below hBa
  have za := hBa.size
  have z3 := k.upd.size
  have z4 := hU4.size
  obtain ⟨ht5, hU5⟩ := ht.write (lid H) hl4 (some c.zero)
  have ecl : clO (some c.zero) = c.cl := zero_cl c
  rw [ecl] at ht5 hU5
  rw [hp] at ht5
  have hx : ∀ x, x ≠ b → ((((((w4.setCell ⟨b, lid H * 5, none⟩ (.int .i64 c.cl.kind)).setCell ⟨b, lid H * 5 + 1, none⟩ (.bool c.cl.view)).setCell ⟨b, lid H * 5 + 2, none⟩ (.int .u64 c.cl.base)).setCell ⟨b, lid H * 5 + 3, none⟩ (.int .i64 c.cl.frm)).setCell ⟨b, lid H * 5 + 4, none⟩ (.int .i64 c.cl.len))).heap[x]? = w4.heap[x]? := by
    intro x hx
    rw [Below.heap_setCell _ _ _ _ hx, Below.heap_setCell _ _ _ _ hx, Below.heap_setCell _ _ _ _ hx, Below.heap_setCell _ _ _ _ hx, Below.heap_setCell _ _ _ _ hx]
  generalize (((((w4.setCell ⟨b, lid H * 5, none⟩ (.int .i64 c.cl.kind)).setCell ⟨b, lid H * 5 + 1, none⟩ (.bool c.cl.view)).setCell ⟨b, lid H * 5 + 2, none⟩ (.int .u64 c.cl.base)).setCell ⟨b, lid H * 5 + 3, none⟩ (.int .i64 c.cl.frm)).setCell ⟨b, lid H * 5 + 4, none⟩ (.int .i64 c.cl.len)) = w5 at *
  have hblt : b < w4.heap.size := (ht.own.lt b rfl).2
  have hcell : ∀ j, j < 5 → ∃ v, w4.cell? ⟨b, lid H * 5 + j, none⟩ = some v := by
    intro j hj
    have h1 := ht.own.cellAt (lid H * 5 + j) (by omega)
    have h2 : lid H * 5 + j < (flatC H4).length := by rw [flatC_len]; omega
    rw [List.getElem?_eq_getElem h2] at h1
    exact ⟨_, h1⟩
  have hlay := k.lay ga hm hok hroom hU4 ht5 (hU5.mono (fun x e => by rw [e]; rfl)) (fun x e => by cases e; exact hv4)
  have hUS4 : Upd S W w4 := ((Upd.of_below hBa).trans' (k.upd.mono (fun x e => hST x (.inl e)))).trans' (hU4.mono (fun x e => hST x (.inr e)))
  have hUS5 : Upd S W w5 := hUS4.trans (hU5.mono (fun x e => by
    subst e
    rcases hv4 with e | e
    · exact .inl (hST x (.inr (.inr e)))
    · exact .inr ⟨by omega, hblt⟩))
  obtain ⟨v0, e0⟩ := hcell 0 (by omega)
  obtain ⟨v1, e1⟩ := hcell 1 (by omega)
  obtain ⟨v2, e2⟩ := hcell 2 (by omega)
  obtain ⟨v3, e3⟩ := hcell 3 (by omega)
  obtain ⟨v4, e4⟩ := hcell 4 (by omega)
  refine ⟨⟨ht.cell 1, ⟨v0, v1, v2, v3, v4, e0, e1, e2, e3, e4⟩, ht.own.frozenAt _, ht.own.frozenAt _, ht.own.frozenAt _, ht.own.frozenAt _, ht.own.frozenAt _⟩, ?_, ?_⟩
  · exact hx
  · refine (hsv _ _ _ _ (lid H) (hlay.same (W' := w5.drew) rfl) (putH_self _ _) ?_ hUS5.drew).mono ?_
    · rintro x (e | e)
      · exact .inl (hST x (.inl e))
      · right; omega
    · rintro e w6 ⟨rfl, hU6, hL6⟩
      rw [putH_set] at hL6
      refine ⟨rfl, ?_⟩
      have z5 := hU5.size
      show _ ∧ _
      refine ⟨hUS5.drew.trans (hU6.mono ?_), _, _, hL6, ?_, ?_⟩
      · rintro x (e | e)
        · exact .inl (hST x (.inl e))
        · exact .inr ⟨by omega, by show x < w5.heap.size; omega⟩
      · rintro x (e | e)
        · exact .inl e
        · right; omega
      · intro x e
        cases e
        rcases hv4 with e | e
        · exact .inl e
        · right; show W.heap.size ≤ b; omega
set_option maxHeartbeats 2000000 in
theorem add_c (g : HLay W hb sb vc T H u h) (S : Nat → Prop) (hST : ∀ k, T k ∨ k = hb ∨ vc.ownBlock = some k → S k) (c : Hc) (hok : c.ok) (i : Int) (t : ByteArray) (ob ow : Option Addr) (bl bc wl wc : Nat) (hwl : wl ≤ 1048576) (hsz : sizeV c.cl.kind c.cl.view t.size bl wl = c.bytes.length) (hroom : sumH H + c.need ≤ 1048576) (hsv : SaveOk W hb sb S c (.agg #[.int .i64 c.cl.kind, .bool c.cl.view, .int .i64 i, .string t, .slice ob bl bc, .slice ow wl wc, .int .u64 c.cl.base, .int .i64 c.cl.frm, .int .i64 c.cl.len]) u h) :
    Calls Tryz.prog 99 #[.pointer (some ⟨hb, 0, none⟩), .agg #[.int .i64 c.cl.kind, .bool c.cl.view, .int .i64 i, .string t, .slice ob bl bc, .slice ow wl wc, .int .u64 c.cl.base, .int .i64 c.cl.frm, .int .i64 c.cl.len]] W fun e w' => e = .returned (.int .i64 (lid H : Nat)) ∧ Upd S W w' ∧ ∃ vc' T', HLay w' hb sb vc' T' (putH H (lid H) (some c)) u h ∧ (∀ k, T' k → T k ∨ W.heap.size ≤ k) ∧ (∀ k, vc'.ownBlock = some k → vc.ownBlock = some k ∨ W.heap.size ≤ k) := by
  have hBa : Below W.heap.size W (W.alloc (.cells #[.int .i64 c.cl.kind, .bool c.cl.view, .int .i64 i, .string t, .slice ob bl bc, .slice ow wl wc, .int .u64 c.cl.base, .int .i64 c.cl.frm, .int .i64 c.cl.len] 97)) := (Below.refl _ W).alloc (Nat.le_refl _) _
  have ga := g.below hBa
  have cs := size_c c.cl.kind c.cl.view i t ob ow bl bc wl wc c.cl.base c.cl.frm c.cl.len (by omega)
  rw [hsz] at cs
  unfold cellV at cs
  have n9 := World.cell?_alloc_new W #[.int .i64 c.cl.kind, .bool c.cl.view, .int .i64 i, .string t, .slice ob bl bc, .slice ow wl wc, .int .u64 c.cl.base, .int .i64 c.cl.frm, .int .i64 c.cl.len] 97
  have c0 := ga.cell 0
  simp only [List.getElem?_cons_zero] at c0
  have ct : Hid (∀ w2, Below ((W.alloc (.cells #[.int .i64 c.cl.kind, .bool c.cl.view, .int .i64 i, .string t, .slice ob bl bc, .slice ow wl wc, .int .u64 c.cl.base, .int .i64 c.cl.frm, .int .i64 c.cl.len] 97))).drew.heap.size ((W.alloc (.cells #[.int .i64 c.cl.kind, .bool c.cl.view, .int .i64 i, .string t, .slice ob bl bc, .slice ow wl wc, .int .u64 c.cl.base, .int .i64 c.cl.frm, .int .i64 c.cl.len] 97))).drew w2 → ((w2.cell? ⟨hb, 0, none⟩ = some (.pointer (some ⟨sb, 0, none⟩)) ∧ ∀ j, w2.cell? ⟨W.heap.size, j, none⟩ = #[.int .i64 c.cl.kind, .bool c.cl.view, .int .i64 i, .string t, .slice ob bl bc, .slice ow wl wc, .int .u64 c.cl.base, .int .i64 c.cl.frm, .int .i64 c.cl.len][j]?) ∧ Calls Tryz.prog 168 #[.pointer (some ⟨sb, 0, none⟩), .int .i64 (c.bytes.length : Nat)] w2 fun e w3 => e = .returned (.tuple #[.int .i64 (lid H : Nat), .int .i64 0]) ∧ Took (W.alloc (.cells #[.int .i64 c.cl.kind, .bool c.cl.view, .int .i64 i, .string t, .slice ob bl bc, .slice ow wl wc, .int .u64 c.cl.base, .int .i64 c.cl.frm, .int .i64 c.cl.len] 97)) hb sb vc T H u h c.bytes.length w3 ∧ (w3.cell? ⟨hb, 0, none⟩ = some (.pointer (some ⟨sb, 0, none⟩)) ∧ ∀ j, w3.cell? ⟨W.heap.size, j, none⟩ = #[.int .i64 c.cl.kind, .bool c.cl.view, .int .i64 i, .string t, .slice ob bl bc, .slice ow wl wc, .int .u64 c.cl.base, .int .i64 c.cl.frm, .int .i64 c.cl.len][j]?))) := by
    show ∀ w2, _
    intro w2 hB2
    have hB2' : Below ((W.alloc (.cells #[.int .i64 c.cl.kind, .bool c.cl.view, .int .i64 i, .string t, .slice ob bl bc, .slice ow wl wc, .int .u64 c.cl.base, .int .i64 c.cl.frm, .int .i64 c.cl.len] 97))).heap.size (W.alloc (.cells #[.int .i64 c.cl.kind, .bool c.cl.view, .int .i64 i, .string t, .slice ob bl bc, .slice ow wl wc, .int .u64 c.cl.base, .int .i64 c.cl.frm, .int .i64 c.cl.len] 97)) w2 := ⟨hB2.os, hB2.tape, hB2.output, hB2.size, hB2.block⟩
    have hs2 := hB2'.size
    have hsa : ((W.alloc (.cells #[.int .i64 c.cl.kind, .bool c.cl.view, .int .i64 i, .string t, .slice ob bl bc, .slice ow wl wc, .int .u64 c.cl.base, .int .i64 c.cl.frm, .int .i64 c.cl.len] 97))).heap.size = W.heap.size + 1 := World.size_alloc ..
    have e9 : ∀ (w : World), w.heap[W.heap.size]? = ((W.alloc (.cells #[.int .i64 c.cl.kind, .bool c.cl.view, .int .i64 i, .string t, .slice ob bl bc, .slice ow wl wc, .int .u64 c.cl.base, .int .i64 c.cl.frm, .int .i64 c.cl.len] 97))).heap[W.heap.size]? → ∀ j, w.cell? ⟨W.heap.size, j, none⟩ = #[.int .i64 c.cl.kind, .bool c.cl.view, .int .i64 i, .string t, .slice ob bl bc, .slice ow wl wc, .int .u64 c.cl.base, .int .i64 c.cl.frm, .int .i64 c.cl.len][j]? := fun w e j => by
      rw [World.cell?_of_block e]; exact n9 j
    refine ⟨⟨below_cell hB2' c0, e9 w2 (hB2'.block _ (by omega))⟩, ?_⟩
    refine (took (ga.below hB2') c hok hroom).mono ?_
    rintro e w3 ⟨rfl, k⟩
    have hU3 : Upd T (W.alloc (.cells #[.int .i64 c.cl.kind, .bool c.cl.view, .int .i64 i, .string t, .slice ob bl bc, .slice ow wl wc, .int .u64 c.cl.base, .int .i64 c.cl.frm, .int .i64 c.cl.len] 97)) w3 := (Upd.of_below hB2').trans' k.upd
    refine ⟨rfl, ⟨k.tab, k.st.mono (fun x hx => ?_), hU3⟩, k.tab.cell 0, e9 w3 (hU3.block _ (by omega) (fun e => by have := g.tlt _ e; omega))⟩
    rcases hx with e | e
    · exact .inl e
    · exact .inr ⟨by omega, e.2⟩
  go_enter Tryz.func99, Tryz.ntmps99
  go_upto_region 1 with fail
  go_region_held3 (fun w' => w'.cell? ⟨hb, 0, none⟩ = some (.pointer (some ⟨sb, 0, none⟩)) ∧ ∀ j, w'.cell? ⟨W.heap.size, j, none⟩ = #[.int .i64 c.cl.kind, .bool c.cl.view, .int .i64 i, .string t, .slice ob bl bc, .slice ow wl wc, .int .u64 c.cl.base, .int .i64 c.cl.frm, .int .i64 c.cl.len][j]?) (first | exact ⟨c0, n9⟩ | exact k2 | exact k3) (first | (go_at_call 162; (with_reducible refine (cs _).mono ?_); rintro e w2 ⟨rfl, hB2⟩; (have k2 := (ct.out w2 hB2).1); (have ct2 := (ct.out w2 hB2).2); clear ct c0 n9) | (go_at_call 168; (with_reducible refine ct2.mono ?_); rintro e w3 ⟨rfl, hk, k3⟩; clear ct2 k2))
  obtain ⟨k30, n9⟩ := k3
  by_cases hlt : lid H < H.length
  · obtain ⟨b, cap, hvc, _⟩ := own_slice hk.tab.own (by omega)
    subst hvc
    have hvb : (Value.slice (some ⟨b, 0, none⟩) H.length cap).ownBlock = some b := rfl
    obtain ⟨⟨c1, ⟨v0, v1, v2, v3, v4, f0, f1, f2, f3, f4⟩, ⟨q0, q1, q2, q3, q4⟩⟩, hx, csv⟩ := add_tail (w4 := w3) g S hST c hok _ hBa rfl hroom hsv hk hk.tab (Upd.refl _ _) (.inl hvb) hlt (by unfold putH; rw [if_pos hlt])
    have hne : ¬ ((lid H : Nat) : Int) = (H.length : Nat) := by omega
    have l0 : (0 : Int) ≤ (lid H : Nat) := by omega
    have l1 : ((lid H : Nat) : Int) < (H.length : Nat) := by omega
    have kb : Hid (W.heap.size ≠ b ∧ hb ≠ b) := by
      have h1 := g.clt b hvb
      exact ⟨by omega, fun e => g.tab.ne (by rw [e]; rfl)⟩
    clear hsv hk hBa ga g hST hok cs
    generalize c.cl = cc at *
    obtain ⟨kd, vw, ba, fr, ln⟩ := cc
    simp only at *
    go_upto_region 4 with fail
    have k5 : Hid (∀ j, (((((w3.setCell ⟨b, lid H * 5, none⟩ (.int .i64 kd)).setCell ⟨b, lid H * 5 + 1, none⟩ (.bool vw)).setCell ⟨b, lid H * 5 + 2, none⟩ (.int .u64 ba)).setCell ⟨b, lid H * 5 + 3, none⟩ (.int .i64 fr)).setCell ⟨b, lid H * 5 + 4, none⟩ (.int .i64 ln)).cell? ⟨W.heap.size, j, none⟩ = #[.int .i64 kd, .bool vw, .int .i64 i, .string t, .slice ob bl bc, .slice ow wl wc, .int .u64 ba, .int .i64 fr, .int .i64 ln][j]?) := by
      intro j
      rw [World.cell?_of_block (hx _ kb.out.1)]
      exact n9 j
    clear hx
    go_region
    have k6 := k5.out
    go_wp2_with (go_at_call 169; (with_reducible refine csv.mono ?_); rintro e w6 ⟨rfl, hf⟩; clear csv)
    go_ret
    exact ⟨rfl, hf.out⟩
  · have hlid := lid_le H
    have hle : lid H = H.length := by omega
    obtain ⟨v', w', hrun, r1, r2, ht, hU4, hv'⟩ := hk.tab.grow g.len 42
    obtain ⟨b, cap, hvv, _⟩ := own_slice ht.own (by rw [List.length_append]; simp)
    subst hvv
    obtain ⟨⟨c1, ⟨v0, v1, v2, v3, v4, f0, f1, f2, f3, f4⟩, ⟨q0, q1, q2, q3, q4⟩⟩, hx, csv⟩ := add_tail (w4 := w'.setCell ⟨hb, 1, none⟩ (.slice (some ⟨b, 0, none⟩) (H ++ [(none : Option Hc)]).length cap)) g S hST c hok _ hBa rfl hroom hsv hk ht hU4 (hv' b rfl) (by rw [List.length_append]; show lid H < H.length + 1; omega) (by unfold putH; rw [if_neg hlt, hle, List.set_append_right _ _ (Nat.le_refl _)]; simp)
    have hl4 : (H ++ [(none : Option Hc)]).length = H.length + 1 := by simp
    generalize (H ++ [(none : Option Hc)]).length = n4 at *
    subst hl4
    rw [hle] at f0 f1 f2 f3 f4 q0 q1 q2 q3 q4 hx csv
    have l0 : (0 : Int) ≤ (H.length : Nat) := by omega
    have l1 : ((H.length : Nat) : Int) < ((H.length + 1 : Nat) : Int) := by omega
    have heq : ((lid H : Nat) : Int) = (H.length : Nat) := by omega
    have z3 := hk.upd.size
    have hsa : ((W.alloc (.cells #[.int .i64 c.cl.kind, .bool c.cl.view, .int .i64 i, .string t, .slice ob bl bc, .slice ow wl wc, .int .u64 c.cl.base, .int .i64 c.cl.frm, .int .i64 c.cl.len] 97))).heap.size = W.heap.size + 1 := World.size_alloc ..
    have kb : Hid (W.heap.size ≠ b ∧ hb ≠ b ∧ W.heap.size ≠ hb) := by
      refine ⟨?_, fun e => ht.ne (by rw [e]; rfl), ?_⟩
      · rcases hv' b rfl with e | e
        · have := g.clt b e; omega
        · omega
      · have := g.hlt; omega
    have n9' : ∀ j, (w'.setCell ⟨hb, 1, none⟩ (.slice (some ⟨b, 0, none⟩) (H.length + 1) cap)).cell? ⟨W.heap.size, j, none⟩ = #[.int .i64 c.cl.kind, .bool c.cl.view, .int .i64 i, .string t, .slice ob bl bc, .slice ow wl wc, .int .u64 c.cl.base, .int .i64 c.cl.frm, .int .i64 c.cl.len][j]? := by
      intro j
      have e4 := hU4.block W.heap.size (by omega) (by
        rintro (e | e)
        · exact kb.out.2.2 e
        · have := g.clt _ e; omega)
      rw [World.cell?_of_block e4]
      exact n9 j
    have k1 := hk.tab.cell 1
    obtain ⟨o1, cap1, hvc⟩ := g.sl
    rw [hvc] at k1 hrun r1
    have k5 : Hid (∀ j, ((((((w'.setCell ⟨hb, 1, none⟩ (.slice (some ⟨b, 0, none⟩) (H.length + 1) cap)).setCell ⟨b, H.length * 5, none⟩ (.int .i64 c.cl.kind)).setCell ⟨b, H.length * 5 + 1, none⟩ (.bool c.cl.view)).setCell ⟨b, H.length * 5 + 2, none⟩ (.int .u64 c.cl.base)).setCell ⟨b, H.length * 5 + 3, none⟩ (.int .i64 c.cl.frm)).setCell ⟨b, H.length * 5 + 4, none⟩ (.int .i64 c.cl.len)).cell? ⟨W.heap.size, j, none⟩ = #[.int .i64 c.cl.kind, .bool c.cl.view, .int .i64 i, .string t, .slice ob bl bc, .slice ow wl wc, .int .u64 c.cl.base, .int .i64 c.cl.frm, .int .i64 c.cl.len][j]?) := by
      intro j
      rw [World.cell?_of_block (hx _ kb.out.1)]
      exact n9' j
    have N9 := hid n9'
    have k10 := k1
    simp only [List.getElem?_cons_succ, List.getElem?_cons_zero] at k10
    clear hsv hk hBa ga g hST hok cs hx ht hU4 n9' hv' k1 n9 hB2
    generalize c.cl = cc at *
    obtain ⟨kd, vw, ba, fr, ln⟩ := cc
    simp only at *
    go_upto_region 4 with (at_builtin; refine Lib.wpList_append_run _ rfl _ _ _ _ rfl _ _ rfl rfl _ _ hrun ?_)
    have n9 := N9.out
    clear hrun r1 r2 k10
    generalize w'.setCell ⟨hb, 1, none⟩ (.slice (some ⟨b, 0, none⟩) (H.length + 1) cap) = W4 at *
    clear heq
    go_region
    have k6 := k5.out
    go_wp2_with (go_at_call 169; (with_reducible refine csv.mono ?_); rintro e w6 ⟨rfl, hf⟩; clear csv)
    go_ret
    rw [hle]
    exact ⟨rfl, hf.out⟩
end
end Go.Proofs.YtgkakflnmpoadaaGreatDoor.W
/- Package heap: reach's own frame, its marks, its measure. -/
namespace Go.Proofs.YtgkakflnmpoadaaGreatDoor.W
open Go.ChangeShapes Go.WideShapes Go.RowKit Go.Shelf
set_option linter.unusedVariables false
/-- marks among deferred calls, none of which hands a call over -/
def Marks (B : Nat) (w : World) : List Deferred → Prop
  | [] => True
  | d :: ds => (∃ r, d = { target := .collected r, args := #[] } ∧ B ≤ r ∧ w.heap[r]? = some (.deferred (some [])) ∧ ∀ d' ∈ ds, d' ≠ d) ∧ Marks B w ds
theorem Marks.kept {B : Nat} {w w' : World} (hk : ∀ k : Nat, B ≤ k → w.heap[k]? = some (.deferred (some [])) → w'.heap[k]? = w.heap[k]?) : ∀ ds, Marks B w ds → Marks B w' ds
  | [], _ => trivial
  | d :: ds, ⟨⟨r, h1, h2, h3, h4⟩, h5⟩ => ⟨⟨r, h1, h2, (hk r h2 h3).trans h3, h4⟩, Marks.kept hk ds h5⟩
theorem marks_leave {F : Fence} {n : Nat} {P : Program} {fn : Func} {tmps : Array Value} {R : Ending → World → Prop} {B : Nat} : ∀ (ds : List Deferred) (w : World), Marks B w ds →
    (∀ w', Upd (fun k => B ≤ k ∧ w.heap[k]? = some (.deferred (some []))) w w' → LeavesIn F n P fn tmps R [] .returning w') → LeavesInM F n P fn tmps R ds .returning w
  | [], w, _, h => h w (Upd.refl _ _)
  | d :: ds, w, ⟨⟨r, h1, h2, h3, h4⟩, h5⟩, h => by
    refine ⟨by simp, .inl ⟨r, _, by rw [h1], run_takeDeferred h3, ?_⟩⟩
    have hu : Upd (fun k => B ≤ k ∧ w.heap[k]? = some (.deferred (some []))) w (w.putObj r (.deferred none)) := upd_put (S := fun k => B ≤ k ∧ w.heap[k]? = some (.deferred (some []))) ⟨h2, h3⟩ _
    have hrr : (w.putObj r (.deferred none)).heap[r]? = some (.deferred none) := World.putObj_heap_same (Array.getElem?_eq_some_iff.1 h3).1
    have hM : Marks B (w.putObj r (.deferred none)) ds := by
      have : ∀ es : List Deferred, (∀ d' ∈ es, d' ≠ d) → Marks B w es → Marks B (w.putObj r (.deferred none)) es := by
        intro es
        induction es with
        | nil => intro _ _; trivial
        | cons e es ih =>
          rintro hne ⟨⟨q, g1, g2, g3, g4⟩, g5⟩
          refine ⟨⟨q, g1, g2, ?_, g4⟩, ih (fun d' hd' => hne d' (by simp [hd'])) g5⟩
          rw [World.putObj_heap_other (by rintro rfl; exact hne e (by simp) (by rw [g1, h1]))]
          exact g3
      exact this ds h4 h5
    refine marks_leave ds _ hM (fun w' hw' => h w' (hu.trans (hw'.mono ?_)))
    rintro k ⟨hk1, hk2⟩
    refine .inl ⟨hk1, ?_⟩
    by_cases e : k = r
    · subst e; rw [hrr] at hk2; cases hk2
    · rwa [World.putObj_heap_other e] at hk2
/-- a list of 82, written out -/
theorem list82 (f : Nat → Value) : (List.range 82).map f = [f 0, f 1, f 2, f 3, f 4, f 5, f 6, f 7, f 8, f 9, f 10, f 11, f 12, f 13, f 14, f 15, f 16, f 17, f 18, f 19, f 20, f 21, f 22, f 23, f 24, f 25, f 26, f 27, f 28, f 29, f 30, f 31, f 32, f 33, f 34, f 35, f 36, f 37, f 38, f 39, f 40, f 41, f 42, f 43, f 44, f 45, f 46, f 47, f 48, f 49, f 50, f 51, f 52, f 53, f 54, f 55, f 56, f 57, f 58, f 59, f 60, f 61, f 62, f 63, f 64, f 65, f 66, f 67, f 68, f 69, f 70, f 71, f 72, f 73, f 74, f 75, f 76, f 77, f 78, f 79, f 80, f 81] := rfl
def ract (x2 x4 x5 x6 x7 : Value) (u : Nat → Value) : Array Value := #[u 0, u 1, x2, u 3, x4, x5, x6, x7, u 8, u 9, u 10, u 11, u 12, u 13, u 14, u 15, u 16, u 17, u 18, u 19, u 20, u 21, u 22, u 23, u 24, u 25, u 26, u 27, u 28, u 29, u 30, u 31, u 32, u 33, u 34, u 35, u 36, u 37, u 38, u 39, u 40, u 41, u 42, u 43, u 44, u 45, u 46, u 47, u 48, u 49, u 50, u 51, u 52, u 53, u 54, u 55, u 56, u 57, u 58, u 59, u 60, u 61, u 62, u 63, u 64, u 65, u 66, u 67, u 68, u 69, u 70, u 71, u 72, u 73, u 74, u 75, u 76, u 77, u 78, u 79, u 80, u 81]
theorem ract_of (t : Array Value) {x2 x4 x5 x6 x7 : Value} (hs : t.size = 82) (h2 : t.getD 2 undef = x2) (h4 : t.getD 4 undef = x4) (h5 : t.getD 5 undef = x5) (h6 : t.getD 6 undef = x6) (h7 : t.getD 7 undef = x7) : ∃ u, t = ract x2 x4 x5 x6 x7 u := by
  refine ⟨fun n => t.getD n undef, ?_⟩
  subst h2 h4 h5 h6 h7
  have e : t.toList = (List.range 82).map (fun n => t.getD n undef) := by
    apply List.ext_getElem?
    intro i
    by_cases hi : i < 82
    · rw [List.getElem?_map, List.getElem?_range hi]
      simp [hi, hs]
    · rw [List.getElem?_eq_none (by simp; omega), List.getElem?_eq_none (by simp; omega)]
  rw [list82] at e
  have : t = t.toList.toArray := by simp
  rw [this, e]
  rfl
/-- how much there is to do -/
def isF : Value → Bool
  | .bool false => true
  | _ => false
def muW (gR Bo : Nat) (W : World) : Nat :=
  2 * (match W.heap[gR]? with | some (.cells a _ _) => (a.toList.filter isF).length | _ => 0) + (match W.cell? ⟨Bo, 0, none⟩ with | some (.slice _ n _) => n | _ => 0)
theorem isF_map (R : List Bool) : ((R.map Value.bool).filter isF).length = unmarked R := by
  induction R with
  | nil => rfl
  | cons b R ih =>
    unfold unmarked at *
    cases b
    · show ((Value.bool false :: R.map Value.bool).filter isF).length = ((false :: R).filter (fun b => !b)).length
      rw [List.filter_cons_of_pos rfl, List.filter_cons_of_pos rfl, List.length_cons, List.length_cons, ih]
    · show ((Value.bool true :: R.map Value.bool).filter isF).length = ((true :: R).filter (fun b => !b)).length
      rw [List.filter_cons_of_neg (by intro h; cases h), List.filter_cons_of_neg (by decide), ih]
section
variable {W : World} {hb B0 Bh Br Bn Bo gR n : Nat} {vo : Value} {s : List Bool × List Nat × Nat}
theorem RSt.mu (r : RSt W B0 Bh Br Bn Bo hb (.slice (some ⟨gR, 0, none⟩) n n) vo s) (hl : s.1.length = n) : muW gR Bo W = 2 * unmarked s.1 + s.2.1.length := by
  unfold muW
  rw [r.bo.cell]
  obtain ⟨o, cap, hvo⟩ := slice_of (owns_base r.orow (b' := 0) (fun _ _ => Nat.zero_le _))
  rcases r.rrow.2 with ⟨h0, _⟩ | ⟨g', cap', cur, h0, _, hgg, h1, h2, h3, h4⟩
  · cases h0
  · cases h0
    rw [hgg, hvo]
    have e : cur.toList = s.1.map .bool := by
      rw [← h4, List.take_of_length_le (by simp; omega)]
    simp only [e, isF_map]
theorem RSt.pop {R : List Bool} {O : List Nat} {i m gO capO : Nat} {vr : Value} (r : RSt W B0 Bh Br Bn Bo hb vr (.slice (some ⟨gO, 0, none⟩) (O.length + 1) capO) (R, O ++ [i], m)) : RSt (W.setCell ⟨Bo, 0, none⟩ (.slice (some ⟨gO, 0, none⟩) O.length capO)) B0 Bh Br Bn Bo hb vr (.slice (some ⟨gO, 0, none⟩) O.length capO) (R, O, m) := by
  have hbs : ∀ {B t v}, Boxed W B t v → t ≠ 66 → Boxed (W.setCell ⟨Bo, 0, none⟩ (.slice (some ⟨gO, 0, none⟩) O.length capO)) B t v := by
    intro B t v hbx ht
    refine box_set hbx ?_
    rintro rfl
    have b4 := r.bo
    unfold Boxed at b4 hbx
    rw [b4] at hbx
    cases hbx
    exact ht rfl
  refine ⟨hbs r.bh (by decide), hbs r.br (by decide), hbs r.bn (by decide), r.bo.set _, ?_, ?_, r.ne, r.l1, r.l2, r.l3, r.l4⟩
  · refine owns_on r.rrow (fun k e => Below.heap_setCell _ _ _ _ ?_)
    rintro rfl
    exact own_ne (owns_base r.rrow (b' := 0) (fun _ _ => Nat.zero_le _)) r.bo (by decide) e.symm
  · have ho := own_take (owns_base r.orow (b' := 0) (fun _ _ => Nat.zero_le _)) (show Value.slice (some ⟨gO, 0, none⟩) (O.length + 1) capO = .slice (some ⟨gO, 0, none⟩) (O ++ [i]).length capO by simp) (m := O.length) (by simp)
    have e : ((O ++ [i]).map (fun i => Value.int .i64 (i : Nat))).take O.length = O.map (fun i => Value.int .i64 (i : Nat)) := by
      rw [List.map_append, List.take_append_of_le_length (by simp), List.take_of_length_le (by simp)]
    have hne := own_ne (owns_base r.orow (b' := 0) (fun _ _ => Nat.zero_le _)) r.bo (by decide)
    have ho2 := owns_base ho (b' := B0) (fun k ek => (r.orow.lt k ek).1)
    refine owns_on (W := W) ?_ (fun k ek => Below.heap_setCell _ _ _ _ ?_)
    · have e' := e
      show World.ownsRow W B0 3 1 _ O.length (O.map (fun i => Value.int .i64 (i : Nat)))
      rw [← e]
      exact ho2
    · rintro rfl
      exact hne ek.symm
end
end Go.Proofs.YtgkakflnmpoadaaGreatDoor.W
/- Package heap: reach: what is popped, what marks keep. -/
namespace Go.Proofs.YtgkakflnmpoadaaGreatDoor.W
open Go.ChangeShapes Go.WideShapes Go.RowKit Go.Shelf
set_option linter.unusedVariables false
theorem Marks.lt {B : Nat} {w : World} : ∀ ds, Marks B w ds → ∀ d ∈ ds, ∃ r, d = { target := .collected r, args := #[] } ∧ r < w.heap.size
  | [], _, d, hd => by cases hd
  | e :: ds, ⟨⟨r, h1, h2, h3, h4⟩, h5⟩, d, hd => by
    rcases List.mem_cons.1 hd with rfl | hd
    · exact ⟨r, h1, (Array.getElem?_eq_some_iff.1 h3).1⟩
    · exact Marks.lt ds h5 d hd
section
variable {W0 W W' : World} {hb sb Br Bn Bo Bm : Nat} {vc vr vo : Value} {T : Nat → Prop} {H : List (Option Hc)} {u h : Nat} {ws : List Nat} {cur : Nat → Prop} {s : List Bool × List Nat × Nat}
theorem Rw.pop {R : List Bool} {O : List Nat} {i m gO capO : Nat} (q : Rw W0 hb sb vc T H u h Br Bn Bo Bm vr ws (fun _ => False) W (.slice (some ⟨gO, 0, none⟩) (O.length + 1) capO) (R, O ++ [i], m)) :
    Rw W0 hb sb vc T H u h Br Bn Bo Bm vr ws (fun j => j = i) (W.setCell ⟨Bo, 0, none⟩ (.slice (some ⟨gO, 0, none⟩) O.length capO)) (.slice (some ⟨gO, 0, none⟩) O.length capO) (R, O, m) := by
  have hU : Upd (fun k => k = Bo) W (W.setCell ⟨Bo, 0, none⟩ (.slice (some ⟨gO, 0, none⟩) O.length capO)) := (Upd.refl (fun k => k = Bo) W).setCell (p := ⟨Bo, 0, none⟩) (.inl rfl) _
  have hb' : Below W0.heap.size W (W.setCell ⟨Bo, 0, none⟩ (.slice (some ⟨gO, 0, none⟩) O.length capO)) := hU.below q.bel.size (fun k e => by subst e; exact q.r.l4)
  refine ⟨q.lay.low q.low hb', q.low, q.r.pop, ?_, q.bel.trans hb', ⟨q.mm.inv.pop, q.mm.need⟩, q.sum⟩
  refine box_set q.m ?_
  rintro rfl
  have b1 := q.m
  have b2 := q.r.bo
  unfold Boxed at b1 b2
  rw [b1] at b2
  simp at b2
theorem Rw.live {R : List Bool} {O : List Nat} {i m : Nat} (q : Rw W0 hb sb vc T H u h Br Bn Bo Bm vr ws (fun _ => False) W vo (R, O ++ [i], m)) : ∃ c, H[i]? = some (some c) := (q.mm.inv.sound i (q.mm.inv.opn i (by simp))).live
/-- a block that marking may change holds cells -/
theorem RSt.cells {B0 Bh k : Nat} (r : RSt W B0 Bh Br Bn Bo hb vr vo s) (hk : RB Bn Bo vr vo k) : ∃ a t f, W.heap[k]? = some (.cells a t f) := by
  rcases hk with rfl | rfl | e | e
  · exact ⟨_, _, _, r.bn⟩
  · exact ⟨_, _, _, r.bo⟩
  · rcases r.rrow.2 with ⟨h0, _⟩ | ⟨g', cap', cur, h0, _, hgg, _⟩
    · rw [h0] at e; cases e
    · rw [h0] at e; cases e; exact ⟨_, _, _, hgg⟩
  · rcases r.orow.2 with ⟨h0, _⟩ | ⟨g', cap', cur, h0, _, hgg, _⟩
    · rw [h0] at e; cases e
    · rw [h0] at e; cases e; exact ⟨_, _, _, hgg⟩
theorem Marks.upd {B B0 Bh : Nat} {ds : List Deferred} (hM : Marks B W ds) (r : RSt W B0 Bh Br Bn Bo hb vr vo s) (hU : Upd (RB Bn Bo vr vo) W W') : Marks B W' ds := by
  refine Marks.kept ?_ ds hM
  intro k _ hk
  refine hU.block k (Array.getElem?_eq_some_iff.1 hk).1 ?_
  intro hb
  obtain ⟨a, t, f, e⟩ := r.cells hb
  rw [hk] at e; cases e
theorem Rw.mu {gR n : Nat} (q : Rw W0 hb sb vc T H u h Br Bn Bo Bm (.slice (some ⟨gR, 0, none⟩) n n) ws cur W vo s) (hn : n = H.length) : muW gR Bo W = 2 * unmarked s.1 + s.2.1.length := q.r.mu (by rw [q.mm.inv.len, hn])
theorem Rw.far {L : Nat} (q : Rw W0 hb sb vc T H u h Br Bn Bo Bm vr ws cur W vo s) (hu : Upd (fun k => k = L) W W') (h0 : W0.heap.size < L) (h1 : Br ≠ L) (h2 : Bn ≠ L) (h3 : Bo ≠ L) (h4 : Bm ≠ L) (h5 : vr.ownBlock ≠ some L) (h6 : vo.ownBlock ≠ some L) : Rw W0 hb sb vc T H u h Br Bn Bo Bm vr ws cur W' vo s := by
  have kb : ∀ {B t v}, Boxed W B t v → B ≠ L → Boxed W' B t v := fun b hn => box_of (hu.block _ b.lt hn) b
  have ko : ∀ {b e size v n xs}, W.ownsRow b e size v n xs → v.ownBlock ≠ some L → W'.ownsRow b e size v n xs := by
    intro b e size v n xs ho hn
    exact owns_on ho (fun k ek => hu.block k (ho.lt k ek).2 (by rintro rfl; exact hn ek))
  have hb' : Below W0.heap.size W W' := hu.below q.bel.size (fun k e => by omega)
  exact ⟨q.lay.low q.low hb', q.low, ⟨kb q.r.bh (by omega), kb q.r.br h1, kb q.r.bn h2, kb q.r.bo h3, ko q.r.rrow h5, ko q.r.orow h6, q.r.ne, q.r.l1, q.r.l2, q.r.l3, q.r.l4⟩, kb q.m h4, q.bel.trans hb', q.mm, q.sum⟩
theorem Rw.close {i : Nat} {c : Hc} (q : Rw W0 hb sb vc T H u h Br Bn Bo Bm vr ws (fun j => j = i) W vo s) (hc : H[i]? = some (some c)) (hs : ∀ w ∈ c.succ, ∀ j, hit H w = some j → s.1[j]? = some true) : Rw W0 hb sb vc T H u h Br Bn Bo Bm vr ws (fun _ => False) W vo s :=
  ⟨q.lay, q.low, q.r, q.m, q.bel, ⟨q.mm.inv.close hc hs, q.mm.need⟩, q.sum⟩
theorem Rw.below (q : Rw W0 hb sb vc T H u h Br Bn Bo Bm vr ws cur W vo s) (hb' : Below W.heap.size W W') : Rw W0 hb sb vc T H u h Br Bn Bo Bm vr ws cur W' vo s :=
  ⟨q.lay.below hb', q.low, q.r.below hb', box_of (hb'.block _ q.m.lt) q.m, q.bel.trans (hb'.mono q.bel.size), q.mm, q.sum⟩
end
end Go.Proofs.YtgkakflnmpoadaaGreatDoor.W
/- Package heap: reach. -/
namespace Go.Proofs.YtgkakflnmpoadaaGreatDoor.W
open Go.ChangeShapes Go.WideShapes Go.RowKit Go.Shelf
set_option linter.unusedVariables false
section
variable {W : World} {hb sb : Nat} {vc : Value} {T : Nat → Prop} {H : List (Option Hc)} {u h : Nat}
set_option maxRecDepth 20000 in
set_option maxHeartbeats 1000000 in
theorem reach_c (g : HLay W hb sb vc T H u h) (v : Value) (ls : List (List Nat)) (hls : ListsAt W v ls) (hsum : sumH H ≤ 100000000) :
    Calls Tryz.prog 97 #[.pointer (some ⟨hb, 0, none⟩), v] W fun e w' => ∃ R vr, e = .returned (.tuple #[vr, .int .i64 (needR H R : Nat)]) ∧ Below W.heap.size W w' ∧ w'.ownsRow W.heap.size 4 1 vr R.length (R.map .bool) ∧ R.length = H.length ∧ ∀ i : Nat, R[i]? = some true ↔ Rch H ls.flatten i := by
  obtain ⟨o, cap, rfl, hll, hl⟩ := hls
  have c1 := g.cell 1
  simp at c1
  obtain ⟨oc, capc, hvc⟩ := g.sl
  rw [hvc] at c1
  have hlen := g.len
  refine (callsIn_wide (n := 9)).1 ?_
  refine callsIn_of_wp_marks Tryz.func97 rfl trivial ?_ rfl
  refine wpIn_wide.2 ?_
  simp only [Tryz.ntmps97, List.size_toArray, List.length_cons, List.length_nil, Nat.reduceAdd, Nat.reduceSub, Array.replicate_succ, Array.replicate_zero, List.push_toArray, List.append_toArray, List.nil_append, List.cons_append]
  have hlt := g.hlt
  go_upto_region 1 with fail
  have b1 : Boxed (((W.alloc (.cells #[.pointer (some ⟨hb, 0, none⟩)] 25)).alloc (.cells #[.slice none 0 0] 140)).alloc (.cells #[.int .i64 0] 3)) W.heap.size 25 (.pointer (some ⟨hb, 0, none⟩)) := ((Boxed.new W _ _).alloc _).alloc _
  have b2 : Boxed (((W.alloc (.cells #[.pointer (some ⟨hb, 0, none⟩)] 25)).alloc (.cells #[.slice none 0 0] 140)).alloc (.cells #[.int .i64 0] 3)) (W.heap.size + 1) 140 (.slice none 0 0) := by
    have := (Boxed.new (W.alloc (.cells #[.pointer (some ⟨hb, 0, none⟩)] 25)) 140 (.slice none 0 0)).alloc (.cells #[.int .i64 0] 3)
    rwa [World.size_alloc] at this
  have b3 : Boxed (((W.alloc (.cells #[.pointer (some ⟨hb, 0, none⟩)] 25)).alloc (.cells #[.slice none 0 0] 140)).alloc (.cells #[.int .i64 0] 3)) (W.heap.size + 2) 3 (.int .i64 0) := by
    have := Boxed.new ((W.alloc (.cells #[.pointer (some ⟨hb, 0, none⟩)] 25)).alloc (.cells #[.slice none 0 0] 140)) 3 (.int .i64 0)
    rwa [World.size_alloc, World.size_alloc] at this
  have hB1 : Below W.heap.size W (((W.alloc (.cells #[.pointer (some ⟨hb, 0, none⟩)] 25)).alloc (.cells #[.slice none 0 0] 140)).alloc (.cells #[.int .i64 0] 3)) := (((Below.refl _ W).alloc (Nat.le_refl _) _).alloc (by simp) _).alloc (by simp; omega) _
  have hz1 : (((W.alloc (.cells #[.pointer (some ⟨hb, 0, none⟩)] 25)).alloc (.cells #[.slice none 0 0] 140)).alloc (.cells #[.int .i64 0] 3)).heap.size = W.heap.size + 3 := by simp
  generalize World.alloc (World.alloc (World.alloc W _) _) _ = W1 at *
  have d1 := below_cell hB1 c1
  have e1 := b1.cell
  have e2 := b2.cell
  have f2 := b2.frozen
  obtain ⟨Wm, hmk, hro, hgr⟩ := make_bools W1 H.length hlen
  have g2 : Boxed Wm (W.heap.size + 1) 140 (.slice none 0 0) := b2.kept hgr (by simp)
  have e3 := g2.cell
  have f3 := g2.frozen
  rw [hz1] at hmk hro
  go_upto_region 2 with fail
  go_upto_region 4 with fail
  have hzm : W1.heap.size + 1 ≤ Wm.heap.size := (Nat.lt_of_le_of_lt (Nat.le_of_eq hz1) (hro.lt (W.heap.size + 3) rfl).2 : W1.heap.size < Wm.heap.size)
  have q4 : Rw W hb sb vc T H u h (W.heap.size + 1) (W.heap.size + 1 + 1) Wm.heap.size (Wm.heap.size + 1) (.slice (some ⟨W.heap.size + 3, 0, none⟩) H.length H.length) ls.flatten (fun _ => False) (((Wm.setCell ⟨W.heap.size + 1, 0, none⟩ (.slice (some ⟨W.heap.size + 3, 0, none⟩) H.length H.length)).alloc (.cells #[.slice none 0 0] 66)).alloc (.cells #[markF W.heap.size (W.heap.size + 1) (W.heap.size + 1 + 1) Wm.heap.size] 194)) (.slice none 0 0) (List.replicate H.length false, [], 0) := by
    have hs5 : (Wm.setCell ⟨W.heap.size + 1, 0, none⟩ (.slice (some ⟨W.heap.size + 3, 0, none⟩) H.length H.length)).heap.size = Wm.heap.size := by simp [World.setCell]
    have hBm : Below W.heap.size W Wm := hB1.trans (((Upd.refl (fun _ => False) W1).grown hgr (fun k e => by cases e)).below (by omega) (fun k e => e.elim))
    have hB4 : Below W.heap.size W (((Wm.setCell ⟨W.heap.size + 1, 0, none⟩ (.slice (some ⟨W.heap.size + 3, 0, none⟩) H.length H.length)).alloc (.cells #[.slice none 0 0] 66)).alloc (.cells #[markF W.heap.size (W.heap.size + 1) (W.heap.size + 1 + 1) Wm.heap.size] 194)) :=
      hBm.trans (((((Upd.refl (fun k => k = W.heap.size + 1) Wm).setCell (p := ⟨W.heap.size + 1, 0, none⟩) (.inl rfl) _).alloc _).alloc _).below (by omega) (fun k e => by omega))
    have kb : ∀ {B t v}, Boxed W1 B t v → B ≠ W.heap.size + 1 → Boxed (((Wm.setCell ⟨W.heap.size + 1, 0, none⟩ (.slice (some ⟨W.heap.size + 3, 0, none⟩) H.length H.length)).alloc (.cells #[.slice none 0 0] 66)).alloc (.cells #[markF W.heap.size (W.heap.size + 1) (W.heap.size + 1 + 1) Wm.heap.size] 194)) B t v := fun b hn => ((box_set (b.kept hgr (by simp)) hn).alloc _).alloc _
    refine ⟨g.below hB4, ⟨g.hlt, g.clt, g.tlt⟩, ⟨kb b1 (by omega), ((g2.set _).alloc _).alloc _, kb b3 (by omega), ?_, ?_, World.ownsRow_nil _ _ _ _, by simp [Value.ownBlock], by omega, by omega, by omega, by omega⟩, ?_, hB4, Mk.start H _, hsum⟩
    · have := (Boxed.new (Wm.setCell ⟨W.heap.size + 1, 0, none⟩ (.slice (some ⟨W.heap.size + 3, 0, none⟩) H.length H.length)) 66 (.slice none 0 0)).alloc (.cells #[markF W.heap.size (W.heap.size + 1) (W.heap.size + 1 + 1) Wm.heap.size] 194)
      rwa [hs5] at this
    · show World.ownsRow _ W.heap.size 4 1 _ (List.replicate H.length false).length _
      rw [List.length_replicate]
      refine owns_on (owns_base hro (fun k e => by cases e; show _ ≤ W.heap.size + 3; omega)) (fun k e => ?_)
      cases e
      have h3 := (hro.lt (W.heap.size + 3) rfl).2
      show (World.alloc (World.alloc (World.setCell _ _ _) _) _).heap[W.heap.size + 3]? = Wm.heap[W.heap.size + 3]?
      rw [Below.heap_alloc _ _ _ (by rw [World.size_alloc, hs5]; omega), Below.heap_alloc _ _ _ (by rw [hs5]; omega), Below.heap_setCell _ _ _ _ (by show _ ≠ W.heap.size + 1; omega)]
    · have := Boxed.new ((Wm.setCell ⟨W.heap.size + 1, 0, none⟩ (.slice (some ⟨W.heap.size + 3, 0, none⟩) H.length H.length)).alloc (.cells #[.slice none 0 0] 66)) 194 (markF W.heap.size (W.heap.size + 1) (W.heap.size + 1 + 1) Wm.heap.size)
      rwa [World.size_alloc, hs5] at this
  clear b1 b2 b3 e1 e2 f2 e3 f3 g2 d1 hmk hro hgr hB1
  unfold markF at q4
  generalize World.alloc (World.alloc (World.setCell _ _ _) _) _ = W4 at *
  have hl0 : Hid (∀ i (hi : i < ls.length), ∃ x u, o = some x ∧ W.cell? (x.add i) = some u ∧ WordsAt W u ls[i]) := hl
  clear hl c1
  have hb4 : 2 * unmarked (List.replicate H.length false) + 0 ≤ 2 * H.length := by simp [unmarked]
  go_wp2
  go_loopw [24] (fun ii wr => ∃ (i : Nat) (vo : Value) (s : List Bool × List Nat × Nat), i ≤ ls.length ∧ ii = .int .i64 i ∧ Rw W hb sb vc T H u h (W.heap.size + 1) (W.heap.size + 1 + 1) Wm.heap.size (Wm.heap.size + 1) (.slice (some ⟨W.heap.size + 3, 0, none⟩) H.length H.length) ls.flatten (fun _ => False) wr vo s ∧ 2 * unmarked s.1 + s.2.1.length ≤ 2 * H.length ∧ ∀ w ∈ (ls.take i).flatten, ∀ j, hit H w = some j → s.1[j]? = some true) (fun ii _ => ls.length - (intOf ii).toNat)
  case atStart => exact ⟨0, _, _, Nat.zero_le _, rfl, q4, hb4, fun w hw => absurd hw (by simp)⟩
  case round =>
    obtain ⟨i, vo, s, hi, rfl, q, hbd, hpr⟩ := hrel
    clear q4 hb4
    have hpr' := hid hpr
    have hq := hid q
    clear hpr
    by_cases hlt' : i < ls.length
    · obtain ⟨x, uu, ho, hcx, hws⟩ := hl0.out i hlt'
      have hmem : ls[i] ∈ ls := List.getElem_mem hlt'
      have htk : ls.take (i + 1) = ls.take i ++ [ls[i]] := by rw [List.take_add_one, List.getElem?_eq_getElem hlt']; rfl
      generalize ls[i] = ws at *
      obtain ⟨ow, capw, huu, hwl, hlt64, hcell⟩ := hws
      subst ho
      subst huu
      have hcx2 := below_cell (q.bel.mono (Nat.le_refl _)) hcx
      have i0 : (0 : Int) ≤ i := by omega
      have i1 : (i : Int) < ls.length := by omega
      have hw1 : IntKind.i64.wrap ((i : Int) + 1) = (i : Int) + 1 := by rw [IntKind.wrap_i64]; omega
      have HC := hid hcell
      have HT := hid htk
      have HM := hid hmem
      clear q hcell htk hmem
      go_upto_region 9 with fail
      go_loopw [30] (fun jj wr2 => ∃ (j : Nat) (vo : Value) (s : List Bool × List Nat × Nat), j ≤ ws.length ∧ jj = .int .i64 j ∧ Rw W hb sb vc T H u h (W.heap.size + 1) (W.heap.size + 1 + 1) Wm.heap.size (Wm.heap.size + 1) (.slice (some ⟨W.heap.size + 3, 0, none⟩) H.length H.length) ls.flatten (fun _ => False) wr2 vo s ∧ 2 * unmarked s.1 + s.2.1.length ≤ 2 * H.length ∧ ∀ w ∈ (ls.take i).flatten ++ ws.take j, ∀ j, hit H w = some j → s.1[j]? = some true) (fun jj _ => ws.length - (intOf jj).toNat)
      case atStart => exact ⟨0, vo, s, Nat.zero_le _, rfl, hq.out, hbd, fun w hw => hpr'.out w (by simpa using hw)⟩
      case round =>
        obtain ⟨j, vo2, s2, hj, rfl, q2, hbd2, hpr2⟩ := hrel
        clear hpr' hbd hq hcx2
        have HP := hid hpr2
        clear hpr2
        have hw2 : IntKind.i64.wrap ((j : Int) + 1) = (j : Int) + 1 := by rw [IntKind.wrap_i64]; omega
        by_cases hjl : j < ws.length
        · obtain ⟨y, hy, hcy⟩ := HC.out j hjl
          subst hy
          have hcy2 := below_cell (q2.bel.mono (Nat.le_refl _)) hcy
          have j0 : (0 : Int) ≤ j := by omega
          have j1 : (j : Int) < ws.length := by omega
          have cm := q2.m.cell
          unfold markF at cm
          have hroot : ∀ k, hit H ws[j] = some k → Rch H ls.flatten k := fun k hk => Rch.root ws[j] k (List.mem_flatten.2 ⟨ws, HM.out, List.getElem_mem hjl⟩) hk
          have ck := q2.mark hbd2 ws[j] (hlt64 _ (List.getElem_mem hjl)) hroot
          obtain ⟨n1, n2, n3, n4⟩ := q2.mm.mark ws[j] hroot
          have HN2 := hid n2
          have HN3 := hid n3
          have hbd3 := Nat.le_trans n4 hbd2
          have htk2 : ws.take (j + 1) = ws.take j ++ [ws[j]] := by rw [List.take_add_one, List.getElem?_eq_getElem hjl]; rfl
          have HT2 := hid htk2
          clear n1 n2 n3 n4 hroot htk2 q2 hcy
          generalize ws[j] = wj at *
          go_wp2_with (go_at_call 165; (with_reducible refine ck.mono ?_); rintro e w3 ⟨rfl, vo3, q3, hU3, hn3⟩)
          go_roundw
          case rel =>
            refine ⟨j + 1, vo3, _, hjl, by go_num, q3, hbd3, ?_⟩
            intro w hw k hk
            rw [HT2.out] at hw
            rcases List.mem_append.1 hw with hw | hw
            · exact HN3.out k (HP.out w (List.mem_append_left _ hw) k hk)
            · rcases List.mem_append.1 hw with hw | hw
              · exact HN3.out k (HP.out w (List.mem_append_right _ hw) k hk)
              · simp at hw; subst hw; exact HN2.out k hk
          case measure => show ws.length - (j + 1 : Int).toNat < ws.length - (j : Int).toNat; omega
        · have hje : j = ws.length := by omega
          have j1 : ¬ (j : Int) < ws.length := by omega
          have Q2 := hid q2
          clear q2
          go_wp2
          go_roundw
          case rel =>
            refine ⟨i + 1, vo2, s2, hlt', by go_num, Q2.out, hbd2, ?_⟩
            intro w hw k hk
            rw [HT.out, List.flatten_append] at hw
            refine HP.out w ?_ k hk
            rw [hje, List.take_length]
            simpa using hw
          case measure => show ls.length - (i + 1 : Int).toNat < ls.length - (i : Int).toNat; omega
    · have hie : i = ls.length := by omega
      have i1 : ¬ (i : Int) < ls.length := by omega
      have hroots : Hid (∀ w ∈ ls.flatten, ∀ j, hit H w = some j → s.1[j]? = some true) := by
        have := hpr'.out
        rw [hie, List.take_length] at this
        exact this
      clear hpr' q
      go_wp2
      refine wp_loop (fun a' w' => (a'.tmps.size = 82 ∧ a'.tmps.getD 2 undef = .pointer (some ⟨W.heap.size, 0, none⟩) ∧ a'.tmps.getD 4 undef = .pointer (some ⟨W.heap.size + 1, 0, none⟩) ∧ a'.tmps.getD 5 undef = .pointer (some ⟨W.heap.size + 1 + 1, 0, none⟩) ∧ a'.tmps.getD 6 undef = .pointer (some ⟨Wm.heap.size, 0, none⟩) ∧ a'.tmps.getD 7 undef = .pointer (some ⟨Wm.heap.size + 1, 0, none⟩)) ∧ Marks W.heap.size w' a'.defers ∧ ∃ (vo : Value) (s : List Bool × List Nat × Nat), Rw W hb sb vc T H u h (W.heap.size + 1) (W.heap.size + 1 + 1) Wm.heap.size (Wm.heap.size + 1) (.slice (some ⟨W.heap.size + 3, 0, none⟩) H.length H.length) ls.flatten (fun _ => False) w' vo s ∧ 2 * unmarked s.1 + s.2.1.length ≤ 2 * H.length ∧ ∀ w ∈ ls.flatten, ∀ j, hit H w = some j → s.1[j]? = some true) (fun _ w' => muW (W.heap.size + 3) Wm.heap.size w') ?_ ?_
      · exact ⟨⟨rfl, rfl, rfl, rfl, rfl, rfl⟩, trivial, vo, s, hq.out, hbd, hroots.out⟩
      clear hroots hbd hq
      rintro ⟨t, ds⟩ wr2 ⟨⟨hs, h2, h4, h5, h6, h7⟩, hM, vo2, s2, q, hbd, hroots⟩
      obtain ⟨uu, rfl⟩ := ract_of t hs h2 h4 h5 h6 h7
      clear hs h2 h4 h5 h6 h7 hl0
      unfold ract
      obtain ⟨R, O, m⟩ := s2
      have co := q.r.bo.cell
      have fo := q.r.bo.frozen
      have HR := hid hroots
      have HM := hid hM
      have hbd2 : 2 * unmarked R + O.length ≤ 2 * H.length := hbd
      clear hroots hM hbd
      rcases List.eq_nil_or_concat O with rfl | ⟨O', id, hOe⟩
      · obtain ⟨o', cap', hvo⟩ := slice_of (owns_base q.r.orow (b' := 0) (fun _ _ => Nat.zero_le _))
        rw [hvo] at co
        simp only [List.length_nil] at co
        have HQ := hid q
        have cr := q.r.br.cell
        have cn := q.r.bn.cell
        have fr := q.r.br.frozen
        have fn := q.r.bn.frozen
        have x1 : Boxed (wr2.setCell ⟨W.heap.size + 1, 0, none⟩ (.slice (some ⟨W.heap.size + 3, 0, none⟩) H.length H.length)) (W.heap.size + 1 + 1) 3 (.int .i64 (m : Nat)) := box_set q.r.bn (by omega)
        have y1 := x1.cell
        have y2 := x1.frozen
        have y3 : (wr2.setCell ⟨W.heap.size + 1, 0, none⟩ (.slice (some ⟨W.heap.size + 3, 0, none⟩) H.length H.length)).drew.cell? ⟨W.heap.size + 1 + 1, 0, none⟩ = some (.int .i64 (m : Nat)) := y1
        have y4 : (wr2.drew.setCell ⟨W.heap.size + 1, 0, none⟩ (.slice (some ⟨W.heap.size + 3, 0, none⟩) H.length H.length)).cell? ⟨W.heap.size + 1 + 1, 0, none⟩ = some (.int .i64 (m : Nat)) := y1
        have z3 : Boxed ((wr2.setCell ⟨W.heap.size + 1, 0, none⟩ (.slice (some ⟨W.heap.size + 3, 0, none⟩) H.length H.length)).setCell ⟨W.heap.size + 1 + 1, 0, none⟩ (.int .i64 (m : Nat))).drew (W.heap.size + 1 + 1) 3 (.int .i64 (m : Nat)) := x1.set _
        have z2 : Boxed ((wr2.setCell ⟨W.heap.size + 1, 0, none⟩ (.slice (some ⟨W.heap.size + 3, 0, none⟩) H.length H.length)).setCell ⟨W.heap.size + 1 + 1, 0, none⟩ (.int .i64 (m : Nat))).drew (W.heap.size + 1) 140 (.slice (some ⟨W.heap.size + 3, 0, none⟩) H.length H.length) := box_set (q.r.br.set (.slice (some ⟨W.heap.size + 3, 0, none⟩) H.length H.length)) (by omega)
        have hU5 : Upd (fun k => k = W.heap.size + 1 ∨ k = W.heap.size + 1 + 1) wr2 ((wr2.setCell ⟨W.heap.size + 1, 0, none⟩ (.slice (some ⟨W.heap.size + 3, 0, none⟩) H.length H.length)).setCell ⟨W.heap.size + 1 + 1, 0, none⟩ (.int .i64 (m : Nat))).drew := (((Upd.refl (fun k => k = W.heap.size + 1 ∨ k = W.heap.size + 1 + 1) wr2).setCell (p := ⟨W.heap.size + 1, 0, none⟩) (.inl (.inl rfl)) _).setCell (p := ⟨W.heap.size + 1 + 1, 0, none⟩) (.inl (.inr rfl)) _).drew
        have Z2 := hid z2
        have Z3 := hid z3
        have U5 := hid hU5
        clear q z2 z3 hU5 x1
        go_wp2
        go_region
        clear y1 y2 y3 y4 cr cn fr fn
        generalize World.drew (World.setCell (World.setCell wr2 _ _) _ _) = w5 at *
        have hM5 : Hid (Marks W.heap.size w5 ds) := by
          refine Marks.kept ?_ ds HM.out
          intro k _ hk
          refine U5.out.block k (Array.getElem?_eq_some_iff.1 hk).1 ?_
          rintro (rfl | rfl)
          · have := HQ.out.r.br
            unfold Boxed at this
            rw [this] at hk; cases hk
          · have := HQ.out.r.bn
            unfold Boxed at this
            rw [this] at hk; cases hk
        go_wp2
        refine marks_leave ds w5 hM5.out (fun w' hu => ?_)
        have kb : ∀ {B t v}, Boxed w5 B t v → Boxed w' B t v := fun b => box_of (hu.block _ b.lt (by rintro ⟨_, e⟩; unfold Boxed at b; rw [b] at e; cases e)) b
        have c2 := (kb Z2.out).cell
        have c3 := (kb Z3.out).cell
        have hB5 : Below W.heap.size W w5 := HQ.out.bel.trans (U5.out.below HQ.out.bel.size (fun k e => by omega))
        have hB6 : Below W.heap.size W w' := hB5.trans (hu.below hB5.size (fun k e => e.1))
        have hrr : w'.ownsRow W.heap.size 4 1 (.slice (some ⟨W.heap.size + 3, 0, none⟩) H.length H.length) R.length (R.map .bool) := by
          have h5 : w5.ownsRow W.heap.size 4 1 (.slice (some ⟨W.heap.size + 3, 0, none⟩) H.length H.length) R.length (R.map .bool) := owns_on HQ.out.r.rrow (fun k e => by
            simp [Value.ownBlock] at e
            exact U5.out.block k (by have := (HQ.out.r.rrow.lt (W.heap.size + 3) rfl).2; omega) (by omega))
          refine owns_on h5 (fun k e => hu.block k (h5.lt k e).2 ?_)
          rintro ⟨_, ex⟩
          rcases h5.2 with ⟨h0, _⟩ | ⟨g', cap2, cur, h0, _, hgg, _⟩
          · cases h0
          · rw [h0] at e; cases e; rw [hgg] at ex; cases ex
        have hm := HQ.out.mm.need
        have hRl := HQ.out.mm.inv.len
        have hdn := HQ.out.mm.inv.done HR.out
        simp only at hm hRl hdn
        refine ⟨.tuple #[.slice (some ⟨W.heap.size + 3, 0, none⟩) H.length H.length, .int .i64 (m : Nat)], ?_, R, .slice (some ⟨W.heap.size + 3, 0, none⟩) H.length H.length, by rw [hm], hB6, hrr, hRl, hdn⟩
        clear hm hRl hdn hrr hB6 hB5
        simp [results, Tryz.results97, go_sem, c2, c3]
      · rw [List.concat_eq_append] at hOe
        subst hOe
        obtain ⟨gO, capO, hvo, hcO⟩ := own_slice (owns_base q.r.orow (b' := 0) (fun _ _ => Nat.zero_le _)) (by simp)
        have hll1 : (O' ++ [id]).length = O'.length + 1 := by simp
        simp only [hll1] at hvo hcO hbd2
        subst hvo
        have hor := q.r.orow
        simp only [hll1] at hor
        have hlast := hor.cellAt O'.length (by omega)
        clear hor
        rw [List.getElem?_map, List.getElem?_append_right (Nat.le_refl _), Nat.sub_self, List.getElem?_cons_zero, Option.map_some] at hlast
        have hbig : O'.length ≤ 10000000 := by omega
        have o1 : IntKind.i64.wrap (((O'.length + 1 : Nat) : Int) - 1) = O'.length := by rw [IntKind.wrap_i64]; omega
        have o2 : (0 : Int) ≤ O'.length := by omega
        have o3 : (O'.length : Int) < ((O'.length + 1 : Nat) : Int) := by omega
        have o4 : (0 : Int) < ((O'.length + 1 : Nat) : Int) := by omega
        have q5 := hid q
        clear q
        go_upto_region 16 with fail
        have q6 := q5.out.pop
        have hmu0 : Hid (muW (W.heap.size + 3) Wm.heap.size wr2 = 2 * unmarked R + (O' ++ [id]).length) := q5.out.mu rfl
        rw [hll1] at hmu0
        obtain ⟨c, hc⟩ := q5.out.live
        have hrid : Hid (Rch H ls.flatten id) := q5.out.mm.inv.sound id (q5.out.mm.inv.opn id (by simp))
        have hM6 : Hid (Marks W.heap.size (wr2.setCell ⟨Wm.heap.size, 0, none⟩ (.slice (some ⟨gO, 0, none⟩) O'.length capO)) ds) := by
          refine Marks.kept ?_ ds HM.out
          intro k _ hk
          refine Below.heap_setCell _ _ _ _ ?_
          rintro rfl
          have := q5.out.r.bo
          unfold Boxed at this
          rw [this] at hk; cases hk
        clear co fo hlast q5 HM o1 o2 o3 o4
        generalize World.setCell wr2 _ _ = W6 at *
        have hok := q6.lay.ok id c hc
        have hidl : id < H.length := (List.getElem?_eq_some_iff.1 hc).1
        obtain ⟨b, capc', hvc', hcell, _⟩ := q6.lay.at hidl
        have ch := q6.r.bh.cell
        have c1 := q6.lay.cell 1
        simp only [List.getElem?_cons_succ, List.getElem?_cons_zero] at c1
        rw [hvc'] at c1
        have k0 := hcell 0 (some c) hc (by omega)
        have k1 := hcell 1 (some c) hc (by omega)
        have k2 := hcell 2 (some c) hc (by omega)
        have k3 := hcell 3 (some c) hc (by omega)
        have k4 := hcell 4 (some c) hc (by omega)
        simp only [clO, Cl.cells, List.getElem?_cons_succ, List.getElem?_cons_zero, Nat.add_zero] at k0 k1 k2 k3 k4
        have j0 : (0 : Int) ≤ id := by omega
        have j1 : (id : Int) < H.length := by omega
        clear hcell
        go_upto_region 17 with fail
        have hB7 : Below W6.heap.size W6 (W6.alloc (.cells #[.int .i64 c.cl.kind, .bool c.cl.view, .int .u64 c.cl.base, .int .i64 c.cl.frm, .int .i64 c.cl.len] 146)) := (Below.refl _ W6).alloc (Nat.le_refl _) _
        have q7 := q6.below hB7
        have hM7 : Hid (Marks W.heap.size (W6.alloc (.cells #[.int .i64 c.cl.kind, .bool c.cl.view, .int .u64 c.cl.base, .int .i64 c.cl.frm, .int .i64 c.cl.len] 146)) ds) := Marks.kept (fun k _ hk => hB7.block k (Array.getElem?_eq_some_iff.1 hk).1) ds hM6.out
        have n0 := World.cell?_alloc_new W6 #[.int .i64 c.cl.kind, .bool c.cl.view, .int .u64 c.cl.base, .int .i64 c.cl.frm, .int .i64 c.cl.len] 146 0
        have n1 := World.cell?_alloc_new W6 #[.int .i64 c.cl.kind, .bool c.cl.view, .int .u64 c.cl.base, .int .i64 c.cl.frm, .int .i64 c.cl.len] 146 1
        have n2 := World.cell?_alloc_new W6 #[.int .i64 c.cl.kind, .bool c.cl.view, .int .u64 c.cl.base, .int .i64 c.cl.frm, .int .i64 c.cl.len] 146 2
        simp only [List.getElem?_toArray, List.getElem?_cons_succ, List.getElem?_cons_zero] at n0 n1 n2
        clear q6 hM6 hB7 k0 k1 k2 k3 k4 ch c1
        generalize World.alloc W6 _ = W7 at *
        generalize W6.heap.size = Bc at *
        have csh := shape_c c.cl.kind c.cl.view W7
        rw [shp_eq hok] at csh
        have plain : ∀ (c' : Hc), c = c' → c'.succ = [] → Rw W hb sb vc T H u h (W.heap.size + 1) (W.heap.size + 1 + 1) Wm.heap.size (Wm.heap.size + 1) (.slice (some ⟨W.heap.size + 3, 0, none⟩) H.length H.length) ls.flatten (fun _ => False) W7 (.slice (some ⟨gO, 0, none⟩) O'.length capO) (R, O', m) := by
          rintro c' rfl hs
          exact q7.close hc (fun w hw => by rw [hs] at hw; cases hw)
        cases c with
        | num n =>
          have q8 := hid (plain _ rfl rfl)
          have hmu1 : Hid (muW (W.heap.size + 3) Wm.heap.size W7 = 2 * unmarked R + O'.length) := q8.out.mu rfl
          clear plain q7
          go_wp2_with (go_at_call 157; (with_reducible refine csh.mono ?_); rintro e w' ⟨rfl, hw⟩; (have hw' := hw.symm); subst hw'; clear hw)
          exact ⟨⟨⟨rfl, rfl, rfl, rfl, rfl, rfl⟩, hM7.out, _, _, q8.out, by show 2 * unmarked R + O'.length ≤ _; omega, HR.out⟩, by rw [hmu0.out, hmu1.out]; omega⟩
        | text bt =>
          have q8 := hid (plain _ rfl rfl)
          have hmu1 : Hid (muW (W.heap.size + 3) Wm.heap.size W7 = 2 * unmarked R + O'.length) := q8.out.mu rfl
          clear plain q7
          go_wp2_with (go_at_call 157; (with_reducible refine csh.mono ?_); rintro e w' ⟨rfl, hw⟩; (have hw' := hw.symm); subst hw'; clear hw)
          exact ⟨⟨⟨rfl, rfl, rfl, rfl, rfl, rfl⟩, hM7.out, _, _, q8.out, by show 2 * unmarked R + O'.length ≤ _; omega, HR.out⟩, by rw [hmu0.out, hmu1.out]; omega⟩
        | buf k bt =>
          have q8 := hid (plain _ rfl rfl)
          have hmu1 : Hid (muW (W.heap.size + 3) Wm.heap.size W7 = 2 * unmarked R + O'.length) := q8.out.mu rfl
          clear plain q7
          go_wp2_with (go_at_call 157; (with_reducible refine csh.mono ?_); rintro e w' ⟨rfl, hw⟩; (have hw' := hw.symm); subst hw'; clear hw)
          exact ⟨⟨⟨rfl, rfl, rfl, rfl, rfl, rfl⟩, hM7.out, _, _, q8.out, by show 2 * unmarked R + O'.length ≤ _; omega, HR.out⟩, by rw [hmu0.out, hmu1.out]; omega⟩
        | view k bs p n =>
          have hroot : ∀ j, hit H bs = some j → Rch H ls.flatten j := fun j hj => Rch.step id j bs _ hrid.out hc (by simp [Hc.succ]) hj
          have ck := q7.mark (by show 2 * unmarked R + O'.length ≤ _; omega) bs hok.2.1 hroot
          obtain ⟨x1, x2, x3, x4⟩ := q7.mm.mark bs hroot
          have cm := q7.m.cell
          unfold markF at cm
          have Q7 := hid q7
          have X2 := hid x2
          have X3 := hid x3
          have X4 : Hid (2 * unmarked (markP H (R, O', m) bs).1 + (markP H (R, O', m) bs).2.1.length ≤ 2 * unmarked R + O'.length) := x4
          simp only [Hc.cl] at n2
          clear plain q7 x1 x2 x3 x4 hroot
          go_wp2_with (first | (go_at_call 157; (with_reducible refine csh.mono ?_); rintro e w' ⟨rfl, hw⟩; (have hw' := hw.symm); subst hw'; clear hw) | (go_at_call 165; (with_reducible refine ck.mono ?_); rintro e w9 ⟨rfl, vo9, q9, hU9, hn9⟩))
          have q10 := q9.close hc (fun w hw => by
            simp [Hc.succ] at hw
            subst hw
            exact X2.out)
          have hmu1 := q10.mu rfl
          exact ⟨⟨⟨rfl, rfl, rfl, rfl, rfl, rfl⟩, hM7.out.upd Q7.out.r hU9, _, _, q10, Nat.le_trans X4.out (by omega), fun w hw j hj => X3.out j (HR.out w hw j hj)⟩, by rw [hmu0.out, hmu1]; have := X4.out; omega⟩
        | row ws =>
          have cw := words_c W7 hb id
          have ch := q7.r.bh.cell
          have Q7 := hid q7
          clear plain q7
          go_wp2_with (first | (go_at_call 157; (with_reducible refine csh.mono ?_); rintro e w' ⟨rfl, hw⟩; (have hw' := hw.symm); subst hw'; clear hw) | (go_at_call 166; (with_reducible refine cw.mono ?_); rintro e w8 ⟨rfl, hw8⟩; (have hw' := hw8.symm); subst hw'; clear hw8))
          have hB8 : Below W7.heap.size W7 ((W7.alloc (.cells #[.pointer (some ⟨hb, 0, none⟩)] 25)).alloc (.cells #[.int .i64 id] 3)) := ((Below.refl _ W7).alloc (Nat.le_refl _) _).alloc (by simp) _
          have hz8 : ((W7.alloc (.cells #[.pointer (some ⟨hb, 0, none⟩)] 25)).alloc (.cells #[.int .i64 id] 3)).heap.size = W7.heap.size + 2 := by simp
          have b8h : Boxed ((W7.alloc (.cells #[.pointer (some ⟨hb, 0, none⟩)] 25)).alloc (.cells #[.int .i64 id] 3)) W7.heap.size 25 (.pointer (some ⟨hb, 0, none⟩)) := (Boxed.new W7 _ _).alloc _
          have b8i : Boxed ((W7.alloc (.cells #[.pointer (some ⟨hb, 0, none⟩)] 25)).alloc (.cells #[.int .i64 id] 3)) (W7.heap.size + 1) 3 (.int .i64 id) := by
            have := Boxed.new (W7.alloc (.cells #[.pointer (some ⟨hb, 0, none⟩)] 25)) 3 (.int .i64 id)
            rwa [World.size_alloc] at this
          have q8 := Q7.out.below hB8
          have t1 := Q7.out.r.br.lt
          have t2 := Q7.out.r.bn.lt
          have t3 := Q7.out.r.bo.lt
          have t4 := Q7.out.m.lt
          have t5 := (Q7.out.r.rrow.lt (W.heap.size + 3) rfl).2
          have t6 := (Q7.out.r.orow.lt gO rfl).2
          have t7 := Q7.out.bel.size
          clear csh cw ch n0 n1 n2
          generalize World.alloc (World.alloc W7 _) _ = W8 at *
          refine words_law (hb := hb) (sb := sb) (vc := vc) (T := T) (u := u) (h := h) ws hc rfl
            (fun i W' => ∃ vo s, Rw W hb sb vc T H u h (W.heap.size + 1) (W.heap.size + 1 + 1) Wm.heap.size (Wm.heap.size + 1) (.slice (some ⟨W.heap.size + 3, 0, none⟩) H.length H.length) ls.flatten (fun j => j = id) W' vo s ∧ 2 * unmarked s.1 + s.2.1.length ≤ 2 * unmarked R + O'.length ∧ (∀ w ∈ ws.take i, ∀ j, hit H w = some j → s.1[j]? = some true) ∧ (∀ j : Nat, R[j]? = some true → s.1[j]? = some true) ∧ (∀ k, vo.ownBlock = some k → k < W7.heap.size ∨ W8.heap.size + 2 ≤ k) ∧ (∀ k : Nat, W7.heap[k]? = some (.deferred (some [])) → W'.heap[k]? = some (.deferred (some []))) ∧ Boxed W' W7.heap.size 25 (.pointer (some ⟨hb, 0, none⟩)) ∧ Boxed W' (W7.heap.size + 1) 3 (.int .i64 id))
            (fun _ _ => False) ?hL ?hI ?hIx ⟨_, _, q8, Nat.le_refl _, fun w hw => absurd hw (by simp), fun j e => e, fun k e => .inl (by cases e; exact t6), fun k e => (hB8.block k (Array.getElem?_eq_some_iff.1 e).1).trans e, b8h, b8i⟩ 14 ?assign ?body ?done ?stop
          case hL =>
            rintro i W' ⟨vo, s, g1, g2, g3, g4, g5, g6, g7, g8⟩
            exact ⟨g1.lay, g7.cell, g8.cell⟩
          case hI =>
            rintro i Wa Wb ⟨vo, s, g1, g2, g3, g4, g5, g6, g7, g8⟩ hu
            refine ⟨vo, s, g1.far hu (by omega) (by omega) (by omega) (by omega) (by omega) ?_ ?_, g2, g3, g4, g5, ?_, box_of (hu.block _ g7.lt (by omega)) g7, box_of (hu.block _ g8.lt (by omega)) g8⟩
            · intro e; simp [Value.ownBlock] at e; omega
            · intro e
              have := g5 _ e
              omega
            · intro k hk
              have h1 := (Array.getElem?_eq_some_iff.1 hk).1
              exact (hu.block k (Array.getElem?_eq_some_iff.1 (g6 k hk)).1 (by omega)).trans (g6 k hk)
          case hIx => intro c Wa Wb hF; exact hF.elim
          case assign =>
            intro L x W' K hK
            gi_wp2_with (simp only [Oper.semAt]; go_simp)
            exact hK
          case body =>
            rintro L i hi W' hLe ⟨vo, s, g1, g2, g3, g4, g5, g6, g7, g8⟩ hs ⟨r, hr⟩
            simp only [wAct, List.setIfInBounds_toArray, List.set_cons_succ, List.set_cons_zero]
            have hroot : ∀ j, hit H ws[i] = some j → Rch H ls.flatten j := fun j hj => Rch.step id j ws[i] _ hrid.out hc (List.getElem_mem hi) hj
            have ck := g1.mark (by omega) ws[i] (hok.1 _ (List.getElem_mem hi)) hroot
            obtain ⟨x1, x2, x3, x4⟩ := g1.mm.mark ws[i] hroot
            have htk : ws.take (i + 1) = ws.take i ++ [ws[i]] := by rw [List.take_add_one, List.getElem?_eq_getElem hi]; rfl
            have cm := g1.m.cell
            unfold markF at cm
            have fin : Hid (∀ w9 vo9, Rw W hb sb vc T H u h (W.heap.size + 1) (W.heap.size + 1 + 1) Wm.heap.size (Wm.heap.size + 1) (.slice (some ⟨W.heap.size + 3, 0, none⟩) H.length H.length) ls.flatten (fun j => j = id) w9 vo9 (markP H s ws[i]) → Upd (RB (W.heap.size + 1 + 1) Wm.heap.size (.slice (some ⟨W.heap.size + 3, 0, none⟩) H.length H.length) vo) W' w9 → (∀ k, vo9.ownBlock = some k → vo.ownBlock = some k ∨ W'.heap.size ≤ k) → (w9.heap[L]? = W'.heap[L]? ∧ w9.heap[W8.heap.size]? = W'.heap[W8.heap.size]?) ∧ ∃ vo s, Rw W hb sb vc T H u h (W.heap.size + 1) (W.heap.size + 1 + 1) Wm.heap.size (Wm.heap.size + 1) (.slice (some ⟨W.heap.size + 3, 0, none⟩) H.length H.length) ls.flatten (fun j => j = id) w9 vo s ∧ 2 * unmarked s.1 + s.2.1.length ≤ 2 * unmarked R + O'.length ∧ (∀ w ∈ ws.take (i + 1), ∀ j, hit H w = some j → s.1[j]? = some true) ∧ (∀ j : Nat, R[j]? = some true → s.1[j]? = some true) ∧ (∀ k, vo.ownBlock = some k → k < W7.heap.size ∨ W8.heap.size + 2 ≤ k) ∧ (∀ k : Nat, W7.heap[k]? = some (.deferred (some [])) → w9.heap[k]? = some (.deferred (some []))) ∧ Boxed w9 W7.heap.size 25 (.pointer (some ⟨hb, 0, none⟩)) ∧ Boxed w9 (W7.heap.size + 1) 3 (.int .i64 id)) := by
              show ∀ w9 vo9, _
              intro w9 vo9 q9 hU9 hn9
              have nb : ∀ k, W7.heap.size ≤ k → k < W8.heap.size + 2 → ¬ RB (W.heap.size + 1 + 1) Wm.heap.size (.slice (some ⟨W.heap.size + 3, 0, none⟩) H.length H.length) vo k := by
                rintro k h1 h2 (e | e | e | e)
                · omega
                · omega
                · simp [Value.ownBlock] at e; omega
                · have := g5 k e; omega
              refine ⟨⟨hU9.block _ (by omega) (nb _ (by omega) (by omega)), hU9.block _ (by omega) (nb _ (by omega) (by omega))⟩, vo9, _, q9, Nat.le_trans x4 g2, ?_, fun j e => x3 j (g4 j e), ?_, ?_, box_of (hU9.block _ g7.lt (nb _ (by omega) (by omega))) g7, box_of (hU9.block _ g8.lt (nb _ (by omega) (by omega))) g8⟩
              · intro w hw j hj
                rw [htk] at hw
                rcases List.mem_append.1 hw with hw | hw
                · exact x3 j (g3 w hw j hj)
                · simp at hw; subst hw; exact x2 j hj
              · intro k e
                rcases hn9 k e with e | e
                · exact g5 k e
                · right; omega
              · intro k hk
                refine (hU9.block k (Array.getElem?_eq_some_iff.1 (g6 k hk)).1 ?_).trans (g6 k hk)
                intro hR
                obtain ⟨a, t, f, e⟩ := g1.r.cells hR
                rw [g6 k hk] at e; cases e
            clear x1 x2 x3 x4 htk hroot g1 g2 g3 g4 g5 g6 g7 g8 hr
            generalize ws[i] = wi at *
            gi_wp2_with (first | (simp only [Oper.semAt]; go_simp) | ((refine ⟨trivial, ?_⟩); gi_at_call 165; (refine (CallsIn.inRound L (callsIn_wide.2 ck)).mono ?_); rintro e w9 ⟨rfl, vo9, q9, hU9, hn9⟩))
            exact fin.out w9 vo9 q9 hU9 hn9
          case done =>
            rintro W' ⟨vo, s, g1, g2, g3, g4, g5, g6, g7, g8⟩ hD
            have q10 := g1.close hc (by
              intro w hw j hj
              rw [List.take_length] at g3
              exact g3 w hw j hj)
            have hmu1 := q10.mu rfl
            have hbd3 : 2 * unmarked s.1 + s.2.1.length ≤ 2 * H.length := by omega
            have hM9 : Marks W.heap.size W' ({ target := .collected W8.heap.size, args := #[] } :: ds) := by
              refine ⟨⟨_, rfl, by omega, hD, ?_⟩, Marks.kept (fun k _ hk => (g6 k hk).trans hk.symm) ds hM7.out⟩
              intro d hd e
              obtain ⟨r, h1, h2⟩ := Marks.lt ds hM7.out d hd
              rw [h1] at e
              injection e with e1 _
              injection e1 with e1
              omega
            have hlt9 : muW (W.heap.size + 3) Wm.heap.size W' < muW (W.heap.size + 3) Wm.heap.size wr2 := by rw [hmu0.out, hmu1]; omega
            have hr9 : ∀ w ∈ ls.flatten, ∀ j, hit H w = some j → s.1[j]? = some true := fun w hw j hj => g4 j (HR.out w hw j hj)
            exact ⟨⟨⟨rfl, rfl, rfl, rfl, rfl, rfl⟩, hM9, vo, s, q10, hbd3, hr9⟩, hlt9⟩
          case stop => intro c W' hF; exact hF.elim
end
end Go.Proofs.YtgkakflnmpoadaaGreatDoor.W
/- Package heap: New, Reach; a heap and the blocks that are its own. -/
namespace Go.Proofs.YtgkakflnmpoadaaGreatDoor.W
open Go.ChangeShapes Go.WideShapes Go.RowKit Go.Shelf
set_option linter.unusedVariables false
/-- a heap of u units at hb, whose cells are H, in blocks of S -/
def HSt (W : World) (S : Nat → Prop) (hb : Nat) (H : List (Option Hc)) (u : Nat) : Prop := ∃ sb vc T, HLay W hb sb vc T H u (sumH H) ∧ S hb ∧ (∀ k, vc.ownBlock = some k → S k) ∧ (∀ k, T k → S k) ∧ sumH H ≤ u
section
variable {W W' : World} {S : Nat → Prop} {hb : Nat} {H : List (Option Hc)} {u : Nat}
theorem HSt.on (h : HSt W S hb H u) (hs : W.heap.size ≤ W'.heap.size) (hk : ∀ k, S k → k < W.heap.size → W'.heap[k]? = W.heap[k]?) : HSt W' S hb H u := by
  obtain ⟨sb, vc, T, h1, h2, h3, h4, h5⟩ := h
  exact ⟨sb, vc, T, h1.kept hs (hk _ h2 h1.hlt) (fun k e => hk k (h3 k e) (h1.clt k e)) (fun k e => hk k (h4 k e) (h1.tlt k e)), h2, h3, h4, h5⟩
theorem HSt.below (h : HSt W S hb H u) (hb' : Below W.heap.size W W') : HSt W' S hb H u := h.on hb'.size (fun k _ hl => hb'.block k hl)
theorem HSt.mono {S' : Nat → Prop} (h : HSt W S hb H u) (hk : ∀ k, S k → S' k) : HSt W S' hb H u := by
  obtain ⟨sb, vc, T, h1, h2, h3, h4, h5⟩ := h
  exact ⟨sb, vc, T, h1, hk _ h2, fun k e => hk k (h3 k e), fun k e => hk k (h4 k e), h5⟩
/-- what is given by reach's answer -/
theorem needR_eq {R R' : List Bool} (h1 : R.length = H.length) (h2 : R'.length = H.length) (h : ∀ i : Nat, R[i]? = some true ↔ R'[i]? = some true) : R = R' := by
  apply List.ext_getElem?
  intro i
  by_cases hi : i < H.length
  · have a1 : R[i]? = some R[i] := List.getElem?_eq_getElem (by omega)
    have a2 : R'[i]? = some R'[i] := List.getElem?_eq_getElem (by omega)
    have := h i
    rw [a1, a2] at this
    rw [a1, a2]
    cases e1 : R[i] <;> cases e2 : R'[i] <;> simp_all
  · rw [List.getElem?_eq_none (by omega), List.getElem?_eq_none (by omega)]
end
theorem hnew_c (u : Nat) (hu : u ≤ 1048576) (W : World) : Calls Tryz.prog 4 #[.int .i64 u] W fun e w' => ∃ hb, e = .returned (.tuple #[.pointer (some ⟨hb, 0, none⟩), .int .i64 0]) ∧ Below W.heap.size W w' ∧ HSt w' (fun k => W.heap.size ≤ k ∧ k < w'.heap.size) hb [] u := by
  have u0 : ¬ (u : Int) < 0 := by omega
  have u1 : ¬ (u : Int) > 1048576 := by omega
  have cn := new_st W 8388608 1048577 (by omega) (by omega)
  go_enter Tryz.func4, Tryz.ntmps4
  go_wp2_with (go_at_call 10; (with_reducible refine cn.mono ?_); rintro e w1 ⟨rfl, hSt, hBl, hSz⟩; clear cn)
  go_ret2
  have hB2 : Below w1.heap.size w1 (w1.alloc (.cells #[.pointer (some ⟨W.heap.size, 0, none⟩), .slice none 0 0, .int .i64 u, .int .i64 0] 44)) := (Below.refl _ w1).alloc (Nat.le_refl _) _
  have hl : HLay (w1.alloc (.cells #[.pointer (some ⟨W.heap.size, 0, none⟩), .slice none 0 0, .int .i64 u, .int .i64 0] 44)) w1.heap.size W.heap.size (.slice none 0 0) (fun k => k = W.heap.size) [] u 0 := by
    refine ⟨World.alloc_heap_new w1 _, World.ownsRow_nil _ _ _ _, hSt.below hB2 ?_, ?_, ?_, ?_, ?_, Nat.zero_le _, hu, Nat.zero_le _⟩
    · intro k e; subst e; omega
    · intro k e; subst e; have := hB2.size; omega
    · show ¬ w1.heap.size = W.heap.size; omega
    · intro k e; cases e
    · intro i c e; simp at e
  refine ⟨w1.heap.size, by rw [hSz]; rfl, hBl.trans (hB2.mono hBl.size), W.heap.size, .slice none 0 0, fun k => k = W.heap.size, hl, ⟨by omega, by rw [World.size_alloc]; omega⟩, ?_, ?_, Nat.zero_le _⟩
  · intro k e; cases e
  · intro k e; subst e; exact ⟨Nat.le_refl _, by rw [World.size_alloc]; omega⟩
/-- which cells are reached, as a row of truths -/
noncomputable def rchB (H : List (Option Hc)) (ws : List Nat) : List Bool := (List.range H.length).map (fun i => @decide (Rch H ws i) (Classical.propDecidable _))
theorem rchB_len (H : List (Option Hc)) (ws : List Nat) : (rchB H ws).length = H.length := by simp [rchB]
theorem rchB_get (H : List (Option Hc)) (ws : List Nat) (i : Nat) : (rchB H ws)[i]? = some true ↔ Rch H ws i := by
  by_cases hi : i < H.length
  · unfold rchB
    rw [List.getElem?_map, List.getElem?_range hi]
    simp
  · rw [List.getElem?_eq_none (by rw [rchB_len]; omega)]
    refine ⟨fun h => (by cases h), fun h => ?_⟩
    obtain ⟨c, hc⟩ := h.live
    exact absurd (List.getElem?_eq_some_iff.1 hc).1 hi
/-- what the cells that are reached need -/
noncomputable def reachN (H : List (Option Hc)) (ws : List Nat) : Nat := needR H (rchB H ws)
section
variable {W : World} {hb sb : Nat} {vc : Value} {T : Nat → Prop} {H : List (Option Hc)} {u h : Nat}
theorem reach_b (g : HLay W hb sb vc T H u h) (v : Value) (ls : List (List Nat)) (hls : ListsAt W v ls) (hsum : sumH H ≤ 100000000) :
    Calls Tryz.prog 97 #[.pointer (some ⟨hb, 0, none⟩), v] W fun e w' => ∃ vr, e = .returned (.tuple #[vr, .int .i64 (reachN H ls.flatten : Nat)]) ∧ Below W.heap.size W w' ∧ w'.ownsRow W.heap.size 4 1 vr H.length ((rchB H ls.flatten).map .bool) := by
  refine (reach_c g v ls hls hsum).mono ?_
  rintro e w' ⟨R, vr, rfl, hB, ho, hl, hR⟩
  have e : R = rchB H ls.flatten := needR_eq hl (rchB_len H _) (fun i => (hR i).trans (rchB_get H _ i).symm)
  subst e
  rw [rchB_len] at ho
  exact ⟨vr, rfl, hB, ho⟩
end
end Go.Proofs.YtgkakflnmpoadaaGreatDoor.W
/- Package heap: keep. -/
namespace Go.Proofs.YtgkakflnmpoadaaGreatDoor.W
open Go.ChangeShapes Go.WideShapes Go.RowKit Go.Shelf
set_option linter.unusedVariables false
/-- the cells, those below k that are not of R let go -/
def stepH (H : List (Option Hc)) (R : List Bool) : Nat → List (Option Hc)
  | 0 => H
  | k + 1 => if R.getD k false = true then stepH H R k else (stepH H R k).set k none
theorem stepH_len (H : List (Option Hc)) (R : List Bool) (k : Nat) : (stepH H R k).length = H.length := by
  induction k with
  | zero => rfl
  | succ k ih => unfold stepH; split <;> simp [ih]
theorem stepH_above (H : List (Option Hc)) (R : List Bool) (k i : Nat) (h : k ≤ i) : (stepH H R k)[i]? = H[i]? := by
  induction k with
  | zero => rfl
  | succ k ih =>
    unfold stepH
    split
    · exact ih (by omega)
    · rw [List.getElem?_set_ne (by omega)]; exact ih (by omega)
theorem stepH_dead (H : List (Option Hc)) (R : List Bool) (k : Nat) (h : H[k]? = some none) : stepH H R (k + 1) = stepH H R k := by
  show (if R.getD k false = true then stepH H R k else (stepH H R k).set k none) = _
  split
  · rfl
  · have e := stepH_above H R k k (Nat.le_refl _)
    rw [h] at e
    apply List.ext_getElem?
    intro i
    by_cases hi : i = k
    · subst hi
      rw [List.getElem?_set_self (List.getElem?_eq_some_iff.1 e).1, e]
    · rw [List.getElem?_set_ne (Ne.symm hi)]
theorem live_law {g : Operand} {pt : Nat} {assign body : Code} {Q : Exit → Act → World → Prop} {a : Act} {W0 : World} {Bh hb n : Nat} {P : Nat → Bool} (hg : a.eval g = .func (.func 207) #[] #[.pointer (some ⟨Bh, 0, none⟩)])
    (I : Nat → World → Prop) (Ix : Code → World → Prop) (hL : ∀ i W, I i W → W.cell? ⟨Bh, 0, none⟩ = some (.pointer (some ⟨hb, 0, none⟩)) ∧ ∃ sb vc T H u h, HLay W hb sb vc T H u h ∧ H.length = n ∧ ∀ k, i ≤ k → k < n → ((H[k]?).getD none).isSome = P k)
    (hI : ∀ i W W', I i W → Upd (fun k => k = W0.heap.size + 1) W W' → I i W')
    (hIx : ∀ c W W', Ix c W → Upd (fun k => k = W0.heap.size + 1) W W' → Ix c W') (h0 : I 0 W0) (hskip : ∀ i W, i < n → P i = false → I i W → I (i + 1) W) (q : Nat)
    (hassign : ∀ (L x : Nat) (W : World) (K : Act → World → Prop), K (ringAct pt a q x) W → assign.wpIn (Fence.wide.inRound L) 7 Tryz.prog (Exit.then K (fun _ _ _ => False)) { tmps := a.tmps.setIfInBounds pt (.int .i64 (x : Int)), defers := [] } W)
    (hbody : ∀ (L : Nat) i (hi : i < n) W, P i = true → L = W0.heap.size + 1 → I i W → W0.heap.size + 2 ≤ W.heap.size → (∃ r, W.heap[L]? = some (.loop r)) → body.wpIn (Fence.wide.inRound L) 7 Tryz.prog (rndWay L W0.heap.size W (I (i + 1)) Ix) (ringAct pt a q i) W)
    (hdone : ∀ W, I n W → W.heap[W0.heap.size]? = some (.deferred (some [])) → Q .normal { a with defers := { target := .collected W0.heap.size, args := #[] } :: a.defers } W)
    (hstop : ∀ c W, Ix c W → W.heap[W0.heap.size]? = some (.deferred (some [])) → c.wp Tryz.prog Q { a with defers := { target := .collected W0.heap.size, args := #[] } :: a.defers } W) :
    (Code.rangeFunc g #[pt] assign body).wp Tryz.prog Q a W0 :=
  iterP_law (live_iter Bh hb n P) eg_live hg I Ix hL hI hIx h0 hskip (fun i => ringAct pt a q i) (fun i => rfl) (fun L i W K hK => by rw [zip_one]; exact hassign L i W K hK) hbody hdone hstop
section
variable {W W' : World} {hb sb : Nat} {vc : Value} {T : Nat → Prop} {H : List (Option Hc)} {u h : Nat}
theorem HLay.held (g : HLay W hb sb vc T H u h) (m : Nat) (hm : m ≤ 1048576) : HLay (W.setCell ⟨hb, 3, none⟩ (.int .i64 m)) hb sb vc T H u m ∧ Upd (fun x => x = hb) W (W.setCell ⟨hb, 3, none⟩ (.int .i64 m)) := by
  have hU : Upd (fun x => x = hb) W (W.setCell ⟨hb, 3, none⟩ (.int .i64 m)) := (Upd.refl (fun x => x = hb) W).setCell (p := ⟨hb, 3, none⟩) (.inl rfl) _
  refine ⟨⟨?_, ?_, ?_, ?_, g.thb, g.tvc, g.ok, g.len, g.u1, hm⟩, hU⟩
  · have := heap_set (b := hb) g.obj 3 (.int .i64 (m : Nat))
    exact this
  · refine owns_on g.own (fun k e => hU.block k (g.clt k e) ?_)
    rintro rfl
    exact own_ne g.own g.obj (by decide) e.symm
  · refine g.st.on (fun k e => hU.block k (g.tlt k e) ?_)
    rintro rfl
    exact g.thb e
  · intro k e
    have := hU.size
    have := g.tlt k e
    omega
set_option maxRecDepth 20000 in
set_option maxHeartbeats 1000000 in
theorem keep_c (g : HLay W hb sb vc T H u h) (vr : Value) (R : List Bool) (hRl : R.length = H.length) (B0 : Nat) (ho : W.ownsRow B0 4 1 vr R.length (R.map .bool)) (l : Low B0 hb vc T) (hB0 : B0 ≤ W.heap.size) (need : Nat) (hn : need ≤ 1048576) :
    Calls Tryz.prog 96 #[.pointer (some ⟨hb, 0, none⟩), vr, .int .i64 need] W fun e w' => e = .returned (.tuple #[]) ∧ Upd (fun x => T x ∨ x = hb ∨ vc.ownBlock = some x) W w' ∧ ∃ T', HLay w' hb sb vc T' (stepH H R H.length) u need ∧ ∀ k, T' k → T k ∨ W.heap.size ≤ k := by
  have hlt := g.hlt
  obtain ⟨ov, capv, hvr⟩ := slice_of (owns_base ho (b' := 0) (fun _ _ => Nat.zero_le _))
  subst hvr
  have cv := live_c
  refine (callsIn_wide (n := 9)).1 ?_
  refine callsIn_of_wp_marks Tryz.func96 rfl trivial ?_ rfl
  refine wpIn_wide.2 ?_
  simp only [Tryz.ntmps96, List.size_toArray, List.length_cons, List.length_nil, Nat.reduceAdd, Nat.reduceSub, Array.replicate_succ, Array.replicate_zero, List.push_toArray, List.append_toArray, List.nil_append, List.cons_append]
  go_wp2
  refine wp_scope_straight ?_
  go_wp2_with (first | (refine wp_label ?_) | (go_at_call 163; (with_reducible refine (cv _ _).mono ?_); rintro e w8 ⟨rfl, hw8⟩; (have hw' := hw8.symm); subst hw'; clear hw8))
  have b1 : Boxed (((W.alloc (.cells #[.pointer (some ⟨hb, 0, none⟩)] 25)).alloc (.cells #[.slice ov H.length capv] 140)).alloc (.cells #[.pointer (some ⟨hb, 0, none⟩)] 25)) W.heap.size 25 (.pointer (some ⟨hb, 0, none⟩)) := ((Boxed.new W _ _).alloc _).alloc _
  have b2 : Boxed (((W.alloc (.cells #[.pointer (some ⟨hb, 0, none⟩)] 25)).alloc (.cells #[.slice ov H.length capv] 140)).alloc (.cells #[.pointer (some ⟨hb, 0, none⟩)] 25)) (W.heap.size + 1) 140 (.slice ov H.length capv) := by
    have := (Boxed.new (W.alloc (.cells #[.pointer (some ⟨hb, 0, none⟩)] 25)) 140 (.slice ov H.length capv)).alloc (.cells #[.pointer (some ⟨hb, 0, none⟩)] 25)
    rwa [World.size_alloc] at this
  have b3 : Boxed (((W.alloc (.cells #[.pointer (some ⟨hb, 0, none⟩)] 25)).alloc (.cells #[.slice ov H.length capv] 140)).alloc (.cells #[.pointer (some ⟨hb, 0, none⟩)] 25)) (W.heap.size + 1 + 1) 25 (.pointer (some ⟨hb, 0, none⟩)) := by
    have := Boxed.new ((W.alloc (.cells #[.pointer (some ⟨hb, 0, none⟩)] 25)).alloc (.cells #[.slice ov H.length capv] 140)) 25 (.pointer (some ⟨hb, 0, none⟩))
    rwa [World.size_alloc, World.size_alloc] at this
  have hB3 : Below W.heap.size W (((W.alloc (.cells #[.pointer (some ⟨hb, 0, none⟩)] 25)).alloc (.cells #[.slice ov H.length capv] 140)).alloc (.cells #[.pointer (some ⟨hb, 0, none⟩)] 25)) := (((Below.refl _ W).alloc (Nat.le_refl _) _).alloc (by simp) _).alloc (by simp; omega) _
  have hz3 : (((W.alloc (.cells #[.pointer (some ⟨hb, 0, none⟩)] 25)).alloc (.cells #[.slice ov H.length capv] 140)).alloc (.cells #[.pointer (some ⟨hb, 0, none⟩)] 25)).heap.size = W.heap.size + 3 := by simp
  generalize World.alloc (World.alloc (World.alloc W _) _) _ = W3 at *
  have g3 := g.below hB3
  have ho3 : W3.ownsRow B0 4 1 (.slice ov R.length capv) R.length (R.map .bool) := owns_on ho (fun k e => hB3.block k (ho.lt k e).2)
  rw [hRl] at ho3
  have hvlt : ∀ k, (Value.slice ov H.length capv).ownBlock = some k → B0 ≤ k ∧ k < W.heap.size := fun k e => ho.lt k (by rw [hRl]; exact e)
  have hcv := l.vc
  have hst := l.st
  have hhb := l.hb
  refine live_law (hb := hb) (n := H.length) (P := fun k => ((H[k]?).getD none).isSome) rfl
    (fun i W' => ∃ T', HLay W' hb sb vc T' (stepH H R i) u h ∧ (∀ x, T' x → T x ∨ W.heap.size + 5 ≤ x) ∧ Boxed W' W.heap.size 25 (.pointer (some ⟨hb, 0, none⟩)) ∧ Boxed W' (W.heap.size + 1) 140 (.slice ov H.length capv) ∧ Boxed W' (W.heap.size + 1 + 1) 25 (.pointer (some ⟨hb, 0, none⟩)) ∧ W'.ownsRow B0 4 1 (.slice ov H.length capv) H.length (R.map .bool) ∧ Upd (fun x => T x ∨ x = hb ∨ vc.ownBlock = some x) W W')
    (fun _ _ => False) ?hL ?hI ?hIx ⟨T, g3, fun x e => .inl e, b1, b2, b3, ho3, Upd.of_below hB3⟩ ?skip 6 ?assign ?body ?done ?stop
  case hL =>
    rintro i W' ⟨T', g1, _, _, _, g5, _, _⟩
    exact ⟨g5.cell, sb, vc, T', _, u, h, g1, stepH_len _ _ _, fun k hk _ => by rw [stepH_above _ _ _ _ hk]⟩
  case hI =>
    rintro i Wa Wb ⟨T', g1, g2, g3, g4, g5, g6, g7⟩ hu
    refine ⟨T', g1.upd hu (by omega) (fun k e => by have := hcv k e; omega) (fun k e => by rcases g2 k e with e | e; · have := hst k e; omega
                                                                                           · omega), g2, box_of (hu.block _ g3.lt (by omega)) g3, box_of (hu.block _ g4.lt (by omega)) g4, box_of (hu.block _ g5.lt (by omega)) g5, owns_on g6 (fun k e => hu.block k (g6.lt k e).2 (by have := hvlt k e; omega)), ⟨hu.os.trans g7.os, hu.tape.trans g7.tape, hu.output.trans g7.output, Nat.le_trans g7.size hu.size, fun k hk hn => (hu.block k (Nat.lt_of_lt_of_le hk g7.size) (by omega)).trans (g7.block k hk hn)⟩⟩
  case hIx => intro c Wa Wb hF; exact hF.elim
  case skip =>
    rintro i Wa hi hP ⟨T', g1, g2⟩
    have hd : H[i]? = some none := by
      rw [List.getElem?_eq_getElem hi] at hP ⊢
      simp only [Option.getD_some] at hP
      cases e : H[i] with
      | none => rfl
      | some c => rw [e] at hP; cases hP
    rw [← stepH_dead H R i hd] at g1
    exact ⟨T', g1, g2⟩
  case assign =>
    intro L x W' K hK
    gi_wp2_with (simp only [Oper.semAt]; go_simp)
    exact hK
  case body =>
    rintro L i hi W' hP hLe ⟨T', g1, g2, g3, g4, g5, g6, g7⟩ hs ⟨r, hr⟩
    simp only [ringAct, List.setIfInBounds_toArray, List.set_cons_succ, List.set_cons_zero]
    obtain ⟨gR, capR, hv, _⟩ := own_slice (owns_base g6 (b' := 0) (fun _ _ => Nat.zero_le _)) (by omega)
    cases hv
    have hcR := g6.cellAt i (by omega)
    have hRi : R[i]? = some R[i] := List.getElem?_eq_getElem (by omega)
    rw [List.getElem?_map, hRi, Option.map_some] at hcR
    have cr := g4.cell
    have ch := g3.cell
    have i0 : (0 : Int) ≤ i := by omega
    have i1 : (i : Int) < H.length := by omega
    have hgd : R.getD i false = R[i] := by rw [List.getD_eq_getElem?_getD, hRi]; rfl
    cases hb1 : R[i] with
    | true =>
      have hst1 : stepH H R (i + 1) = stepH H R i := by
        show (if R.getD i false = true then stepH H R i else (stepH H R i).set i none) = _
        rw [hgd, hb1, if_pos rfl]
      rw [hb1] at hcR
      have fin : Hid (∃ T', HLay W' hb sb vc T' (stepH H R (i + 1)) u h ∧ (∀ x, T' x → T x ∨ W.heap.size + 5 ≤ x) ∧ Boxed W' W.heap.size 25 (.pointer (some ⟨hb, 0, none⟩)) ∧ Boxed W' (W.heap.size + 1) 140 (.slice (some ⟨gR, 0, none⟩) H.length capv) ∧ Boxed W' (W.heap.size + 1 + 1) 25 (.pointer (some ⟨hb, 0, none⟩)) ∧ W'.ownsRow B0 4 1 (.slice (some ⟨gR, 0, none⟩) H.length capv) H.length (R.map .bool) ∧ Upd (fun x => T x ∨ x = hb ∨ vc.ownBlock = some x) W W') := ⟨T', by rw [hst1]; exact g1, g2, g3, g4, g5, g6, g7⟩
      clear g1 g2 g3 g4 g5 g6 g7 hr hst1 b1 b2 b3 ho3 hvlt
      gi_wp2_with (simp only [Oper.semAt]; go_simp)
      exact ⟨⟨rfl, rfl⟩, fin.out⟩
    | false =>
      have hst1 : stepH H R (i + 1) = (stepH H R i).set i none := by
        show (if R.getD i false = true then stepH H R i else (stepH H R i).set i none) = _
        rw [hgd, hb1, if_neg (by decide)]
      rw [hb1] at hcR
      obtain ⟨c, hc⟩ : ∃ c, H[i]? = some (some c) := by
        rw [List.getElem?_eq_getElem hi] at hP ⊢
        simp only [Option.getD_some] at hP
        cases e : H[i] with
        | none => rw [e] at hP; cases hP
        | some c => exact ⟨c, rfl⟩
      have hci : (stepH H R i)[i]? = some (some c) := by rw [stepH_above _ _ _ _ (Nat.le_refl _)]; exact hc
      have cg := give_st g1.st i c.bytes (hA_some hci)
      have c0 := g1.cell 0
      simp only [List.getElem?_cons_zero] at c0
      have hil : i < (stepH H R i).length := by rw [stepH_len]; exact hi
      obtain ⟨b, cap, hvc, hcell, hth⟩ := g1.at hil
      rw [stepH_len] at hvc
      have c1 := g1.cell 1
      simp only [List.getElem?_cons_succ, List.getElem?_cons_zero] at c1
      rw [hvc] at c1
      have hbo : vc.ownBlock = some b := by rw [hvc]; rfl
      have hbT := g1.tvc b hbo
      have hbl := hcv b hbo
      have nT : ∀ x, W.heap.size ≤ x → x < W.heap.size + 5 → ¬ T' x := by
        intro x h1 h2 e
        rcases g2 x e with e | e
        · have := hst x e; omega
        · omega
      have nR : ¬ T' gR := by
        intro e
        have h1 := hvlt gR rfl
        rcases g2 gR e with e | e
        · have := hst gR e; omega
        · omega
      have F : ∀ w2, Upd T' W' w2 → St w2 (Nx T' W' w2) sb ((hA (stepH H R i)).set i none) 8388608 1048577 → w2.cell? ⟨W.heap.size, 0, none⟩ = some (.pointer (some ⟨hb, 0, none⟩)) ∧ w2.cell? ⟨hb, 1, none⟩ = some (.slice (some ⟨b, 0, none⟩) H.length cap) ∧ (∃ v0 v1 v2 v3 v4, w2.cell? ⟨b, i * 5, none⟩ = some v0 ∧ w2.cell? ⟨b, i * 5 + 1, none⟩ = some v1 ∧ w2.cell? ⟨b, i * 5 + 2, none⟩ = some v2 ∧ w2.cell? ⟨b, i * 5 + 3, none⟩ = some v3 ∧ w2.cell? ⟨b, i * 5 + 4, none⟩ = some v4) ∧ (w2.frozen? ⟨b, i * 5, none⟩ = false ∧ w2.frozen? ⟨b, i * 5 + 1, none⟩ = false ∧ w2.frozen? ⟨b, i * 5 + 2, none⟩ = false ∧ w2.frozen? ⟨b, i * 5 + 3, none⟩ = false ∧ w2.frozen? ⟨b, i * 5 + 4, none⟩ = false) ∧
          Hid (((((((w2.setCell ⟨b, i * 5, none⟩ (.int .i64 0)).setCell ⟨b, i * 5 + 1, none⟩ (.bool false)).setCell ⟨b, i * 5 + 2, none⟩ (.int .u64 0)).setCell ⟨b, i * 5 + 3, none⟩ (.int .i64 0)).setCell ⟨b, i * 5 + 4, none⟩ (.int .i64 0)).heap[L]? = W'.heap[L]? ∧ (((((w2.setCell ⟨b, i * 5, none⟩ (.int .i64 0)).setCell ⟨b, i * 5 + 1, none⟩ (.bool false)).setCell ⟨b, i * 5 + 2, none⟩ (.int .u64 0)).setCell ⟨b, i * 5 + 3, none⟩ (.int .i64 0)).setCell ⟨b, i * 5 + 4, none⟩ (.int .i64 0)).heap[W3.heap.size]? = W'.heap[W3.heap.size]?) ∧ ∃ T', HLay (((((w2.setCell ⟨b, i * 5, none⟩ (.int .i64 0)).setCell ⟨b, i * 5 + 1, none⟩ (.bool false)).setCell ⟨b, i * 5 + 2, none⟩ (.int .u64 0)).setCell ⟨b, i * 5 + 3, none⟩ (.int .i64 0)).setCell ⟨b, i * 5 + 4, none⟩ (.int .i64 0)) hb sb vc T' (stepH H R (i + 1)) u h ∧ (∀ x, T' x → T x ∨ W.heap.size + 5 ≤ x) ∧ Boxed (((((w2.setCell ⟨b, i * 5, none⟩ (.int .i64 0)).setCell ⟨b, i * 5 + 1, none⟩ (.bool false)).setCell ⟨b, i * 5 + 2, none⟩ (.int .u64 0)).setCell ⟨b, i * 5 + 3, none⟩ (.int .i64 0)).setCell ⟨b, i * 5 + 4, none⟩ (.int .i64 0)) W.heap.size 25 (.pointer (some ⟨hb, 0, none⟩)) ∧ Boxed (((((w2.setCell ⟨b, i * 5, none⟩ (.int .i64 0)).setCell ⟨b, i * 5 + 1, none⟩ (.bool false)).setCell ⟨b, i * 5 + 2, none⟩ (.int .u64 0)).setCell ⟨b, i * 5 + 3, none⟩ (.int .i64 0)).setCell ⟨b, i * 5 + 4, none⟩ (.int .i64 0)) (W.heap.size + 1) 140 (.slice (some ⟨gR, 0, none⟩) H.length capv) ∧ Boxed (((((w2.setCell ⟨b, i * 5, none⟩ (.int .i64 0)).setCell ⟨b, i * 5 + 1, none⟩ (.bool false)).setCell ⟨b, i * 5 + 2, none⟩ (.int .u64 0)).setCell ⟨b, i * 5 + 3, none⟩ (.int .i64 0)).setCell ⟨b, i * 5 + 4, none⟩ (.int .i64 0)) (W.heap.size + 1 + 1) 25 (.pointer (some ⟨hb, 0, none⟩)) ∧ (((((w2.setCell ⟨b, i * 5, none⟩ (.int .i64 0)).setCell ⟨b, i * 5 + 1, none⟩ (.bool false)).setCell ⟨b, i * 5 + 2, none⟩ (.int .u64 0)).setCell ⟨b, i * 5 + 3, none⟩ (.int .i64 0)).setCell ⟨b, i * 5 + 4, none⟩ (.int .i64 0)).ownsRow B0 4 1 (.slice (some ⟨gR, 0, none⟩) H.length capv) H.length (R.map .bool) ∧ Upd (fun x => T x ∨ x = hb ∨ vc.ownBlock = some x) W (((((w2.setCell ⟨b, i * 5, none⟩ (.int .i64 0)).setCell ⟨b, i * 5 + 1, none⟩ (.bool false)).setCell ⟨b, i * 5 + 2, none⟩ (.int .u64 0)).setCell ⟨b, i * 5 + 3, none⟩ (.int .i64 0)).setCell ⟨b, i * 5 + 4, none⟩ (.int .i64 0))) := by
        intro w2 hU2 hS2
        have e0 : w2.heap[W.heap.size]? = W'.heap[W.heap.size]? := hU2.block _ g3.lt (nT _ (by omega) (by omega))
        have e1 : w2.heap[hb]? = W'.heap[hb]? := hU2.block _ g1.hlt g1.thb
        have e2 : w2.heap[b]? = W'.heap[b]? := hU2.block _ (g1.clt b hbo) hbT
        have cc : ∀ j, j < 5 → w2.cell? ⟨b, i * 5 + j, none⟩ = (clO (some c)).cells[j]? := fun j hj => by rw [World.cell?_of_block e2]; exact hcell j _ hci hj
        have ff : ∀ j, w2.frozen? ⟨b, j, none⟩ = false := fun j => by rw [World.frozen?_of_block e2]; exact hth j
        refine ⟨by rw [World.cell?_of_block e0]; exact ch, by rw [World.cell?_of_block e1]; exact c1, ⟨_, _, _, _, _, cc 0 (by omega), cc 1 (by omega), cc 2 (by omega), cc 3 (by omega), cc 4 (by omega)⟩, ⟨ff _, ff _, ff _, ff _, ff _⟩, ?_⟩
        obtain ⟨q1, q2⟩ := g1.gave i hil hU2 hS2 (b := b) (cap := cap) (by rw [stepH_len]; exact hvc)
        have hk : ∀ x, W.heap.size ≤ x → x < W.heap.size + 5 → x < W'.heap.size → (((((w2.setCell ⟨b, i * 5, none⟩ (.int .i64 0)).setCell ⟨b, i * 5 + 1, none⟩ (.bool false)).setCell ⟨b, i * 5 + 2, none⟩ (.int .u64 0)).setCell ⟨b, i * 5 + 3, none⟩ (.int .i64 0)).setCell ⟨b, i * 5 + 4, none⟩ (.int .i64 0)).heap[x]? = W'.heap[x]? := by
          intro x h1 h2 h3
          refine q2.block x h3 ?_
          rintro (e | e)
          · exact nT x h1 h2 e
          · omega
        show _ ∧ _
        refine ⟨⟨hk L (by omega) (by omega) (by omega), hk _ (by omega) (by omega) (by omega)⟩, Nx T' W' w2, by rw [hst1]; exact q1, ?_, box_of (hk _ (by omega) (by omega) g3.lt) g3, box_of (hk _ (by omega) (by omega) g4.lt) g4, box_of (hk _ (by omega) (by omega) g5.lt) g5, owns_on g6 (fun k e => q2.block k (g6.lt k e).2 ?_), ?_⟩
        · rintro x (e | e)
          · exact g2 x e
          · right; omega
        · cases e
          rintro (e | e)
          · exact nR e
          · have h1 := (hvlt gR rfl).1
            have h2 : gR = b := e
            omega
        · refine g7.trans (q2.mono ?_)
          rintro x (e | rfl)
          · rcases g2 x e with e | e
            · exact .inl (.inl e)
            · have := g1.tlt x (by assumption)
              exact .inr ⟨by omega, this⟩
          · exact .inl (.inr (.inr hbo))
      clear g1 g2 g3 g4 g5 g6 g7 hr hst1 b1 b2 b3 ho3 hvlt hcell hth nT nR hci hc
      gi_wp2_with (first | (simp only [Oper.semAt]; go_simp) | ((refine ⟨trivial, ?_⟩); gi_at_call 164; (refine (CallsIn.inRound L (callsIn_wide.2 cg)).mono ?_); rintro e w2 ⟨rfl, hU2, hS2⟩; (obtain ⟨f1, f2, ⟨v0, v1, v2, v3, v4, f30, f31, f32, f33, f34⟩, ⟨f40, f41, f42, f43, f44⟩, f5⟩ := F w2 hU2 hS2); clear F cg hU2 hS2))
      exact f5.out
  case done =>
    rintro W' ⟨T', g1, g2, g3, g4, g5, g6, g7⟩ hD
    have ch := g3.cell
    have c3 := g1.cell 3
    simp only [List.getElem?_cons_succ, List.getElem?_cons_zero] at c3
    have th := g1.thaw 3
    obtain ⟨q1, q2⟩ := g1.held need hn
    have hsz : W.heap.size ≤ W'.heap.size := g7.size
    have hD2 : (W'.setCell ⟨hb, 3, none⟩ (.int .i64 need)).heap[W3.heap.size]? = some (.deferred (some [])) := by rw [Below.heap_setCell _ _ _ _ (by show W3.heap.size ≠ hb; omega)]; exact hD
    have Q1 := hid q1
    have U7 := hid (g7.trans' (q2.mono (fun x e => .inr (.inl e))))
    have G2 := hid g2
    clear q1 q2 g1 g2 g3 g4 g5 g6 g7
    go_wp2
    refine ⟨by simp, .inl ⟨_, _, rfl, run_takeDeferred hD2, ?_⟩⟩
    refine ⟨_, results_none rfl _ _ _, rfl, U7.out.putObj (.inr ⟨by omega, (Array.getElem?_eq_some_iff.1 hD2).1⟩) _, T', ?_, ?_⟩
    · refine Q1.out.upd (upd_put (S := fun k => k = W3.heap.size) rfl _) (by omega) (fun k e => by have := hcv k e; omega) ?_
      intro k e
      rcases G2.out k e with e | e
      · have := hst k e; omega
      · omega
    · intro k e
      rcases G2.out k e with e | e
      · exact .inl e
      · right; omega
  case stop => intro c W' hF; exact hF.elim
end
end Go.Proofs.YtgkakflnmpoadaaGreatDoor.W
/- Package heap: Collect. -/
namespace Go.Proofs.YtgkakflnmpoadaaGreatDoor.W
open Go.ChangeShapes Go.WideShapes Go.RowKit Go.Shelf
set_option linter.unusedVariables false
/-- the cells of R -/
def zipK : List (Option Hc) → List Bool → List (Option Hc)
  | c :: H, b :: R => (if b = true then c else none) :: zipK H R
  | _, _ => []
theorem zipK_sum (H : List (Option Hc)) (R : List Bool) : sumH (zipK H R) = needR H R := by
  induction H generalizing R with
  | nil => cases R <;> rfl
  | cons c H ih =>
    cases R with
    | nil => rfl
    | cons b R =>
      simp only [zipK, needR, sumH_cons, ih]
      cases b
      · simp [needO]
      · simp
theorem zipK_get (H : List (Option Hc)) (R : List Bool) (hl : R.length = H.length) (i : Nat) (hi : i < H.length) : (zipK H R)[i]? = if R.getD i false = true then H[i]? else some none := by
  induction H generalizing R i with
  | nil => simp at hi
  | cons c H ih =>
    cases R with
    | nil => simp at hl
    | cons b R =>
      cases i with
      | zero => cases b <;> simp [zipK]
      | succ i =>
        have := ih R (by simpa using hl) i (by simpa using hi)
        simpa [zipK] using this
theorem zipK_len (H : List (Option Hc)) (R : List Bool) (hl : R.length = H.length) : (zipK H R).length = H.length := by
  induction H generalizing R with
  | nil => cases R <;> rfl
  | cons c H ih =>
    cases R with
    | nil => simp at hl
    | cons b R => simp [zipK, ih R (by simpa using hl)]
theorem stepH_below (H : List (Option Hc)) (R : List Bool) (k i : Nat) (h : i < k) (hi : i < H.length) : (stepH H R k)[i]? = if R.getD i false = true then H[i]? else some none := by
  induction k with
  | zero => omega
  | succ k ih =>
    show (if R.getD k false = true then stepH H R k else (stepH H R k).set k none)[i]? = _
    by_cases e : i = k
    · subst e
      by_cases hr : R.getD i false = true
      · rw [if_pos hr, if_pos hr]; exact stepH_above H R i i (Nat.le_refl _)
      · rw [if_neg hr, if_neg hr, List.getElem?_set_self (by rw [stepH_len]; exact hi)]
    · have := ih (by omega)
      split
      · exact this
      · rw [List.getElem?_set_ne (by omega)]; exact this
theorem stepH_zip (H : List (Option Hc)) (R : List Bool) (hl : R.length = H.length) : stepH H R H.length = zipK H R := by
  apply List.ext_getElem?
  intro i
  by_cases hi : i < H.length
  · rw [stepH_below H R _ i hi hi, zipK_get H R hl i hi]
  · rw [List.getElem?_eq_none (by rw [stepH_len]; omega), List.getElem?_eq_none (by rw [zipK_len H R hl]; omega)]
section
variable {W : World} {S : Nat → Prop} {hb : Nat} {H : List (Option Hc)} {u : Nat}
end
end Go.Proofs.YtgkakflnmpoadaaGreatDoor.W
/- Package heap: Put: what it leads to, in pieces. -/
namespace Go.Proofs.YtgkakflnmpoadaaGreatDoor.W
open Go.ChangeShapes Go.WideShapes Go.RowKit Go.Shelf
set_option linter.unusedVariables false
/-- the words of a row that is put -/
def Hc.ws : Hc → List Nat
  | .row ws => ws
  | _ => []
/-- what is reached from a cell that is put -/
def Hc.seeds (c : Hc) : List Nat := c.ws ++ [c.cl.base]
/-- the cells that are left when room is made for c -/
noncomputable def roomH (H : List (Option Hc)) (u : Nat) (c : Hc) (rs : List Nat) : List (Option Hc) := if sumH H + c.need ≤ u then H else zipK H (rchB H (rs ++ c.seeds))
section
variable {W W' : World} {hb sb : Nat} {vc : Value} {T S : Nat → Prop} {H : List (Option Hc)} {u h : Nat}
theorem SaveOk.next {c : Hc} {v : Value} (h1 : SaveOk W hb sb S c v u h) (hU : Upd S W W') : SaveOk W' hb sb (Nx S W W') c v u h := by
  intro w T' vc' H' id hl hi hT hU2
  have hz := hU.size
  refine h1 w T' vc' H' id hl hi (fun k e => ?_) (hU.trans hU2)
  rcases hT k e with (e | e) | e
  · exact .inl e
  · exact .inr e.1
  · right; omega
theorem put_tail {w : World} (g : HLay w hb sb vc T H u (sumH H)) (hU : Upd S W w) (hS1 : Nx S W w hb) (hS2 : ∀ k, vc.ownBlock = some k → Nx S W w k) (hS3 : ∀ k, T k → Nx S W w k) (c : Hc) (hok : c.ok) (i : Int) (t : ByteArray) (ob ow : Option Addr) (bl bc wl wc : Nat) (hwl : wl ≤ 1048576) (hsz : sizeV c.cl.kind c.cl.view t.size bl wl = c.bytes.length) (hfit : sumH H + c.need ≤ u) (hsv : ∀ sb h, SaveOk W hb sb S c (.agg #[.int .i64 c.cl.kind, .bool c.cl.view, .int .i64 i, .string t, .slice ob bl bc, .slice ow wl wc, .int .u64 c.cl.base, .int .i64 c.cl.frm, .int .i64 c.cl.len]) u h) :
    w.cell? ⟨hb, 3, none⟩ = some (.int .i64 (sumH H : Nat)) ∧ w.cell? ⟨hb, 2, none⟩ = some (.int .i64 u) ∧ w.frozen? ⟨hb, 3, none⟩ = false ∧ lid H < 281474976710656 ∧
    Calls Tryz.prog 99 #[.pointer (some ⟨hb, 0, none⟩), .agg #[.int .i64 c.cl.kind, .bool c.cl.view, .int .i64 i, .string t, .slice ob bl bc, .slice ow wl wc, .int .u64 c.cl.base, .int .i64 c.cl.frm, .int .i64 c.cl.len]] (w.setCell ⟨hb, 3, none⟩ (.int .i64 ((sumH H : Int) + (c.need : Int)))) fun e w' => e = .returned (.int .i64 (lid H : Nat)) ∧ Hid (Upd S W w' ∧ HSt w' (Nx S W w') hb (putH H (lid H) (some c)) u) := by
  have hu := g.u1
  obtain ⟨q1, q2⟩ := g.held (sumH H + c.need) (by omega)
  have h5 := lid_le H
  have h6 := g.len
  refine ⟨g.cell 3, g.cell 2, g.thaw 3, by omega, ?_⟩
  have e1 : (((sumH H + c.need : Nat) : Int)) = (sumH H : Int) + (c.need : Int) := by omega
  rw [e1] at q1 q2
  generalize w.setCell ⟨hb, 3, none⟩ (.int .i64 ((sumH H : Int) + (c.need : Int))) = w7 at *
  have hU7 : Upd S W w7 := hU.trans (q2.mono (fun x e => by rw [e]; exact hS1))
  have hz7 := q2.size
  have nx : ∀ k, Nx S W w k → Nx S W w7 k := by
    rintro k (e | e)
    · exact .inl e
    · exact .inr ⟨e.1, by omega⟩
  refine (add_c q1 (Nx S W w7) ?_ c hok i t ob ow bl bc wl wc hwl hsz (by omega) ((hsv sb _).next hU7)).mono ?_
  · rintro k (e | e | e)
    · exact nx k (hS3 k e)
    · rw [e]; exact nx _ hS1
    · exact nx k (hS2 k e)
  · rintro e w' ⟨rfl, hU', vc', T', hL', hT', hv'⟩
    have hz' := hU'.size
    have hzW := hU7.size
    have nx' : ∀ k, k < w'.heap.size → (Nx S W w k ∨ w7.heap.size ≤ k) → Nx S W w' k := by
      rintro k hk ((e | e) | e)
      · exact .inl e
      · exact .inr ⟨e.1, hk⟩
      · exact .inr ⟨by omega, hk⟩
    refine ⟨rfl, ?_⟩
    show _ ∧ _
    refine ⟨hU7.trans hU', sb, vc', T', ?_, nx' hb hL'.hlt (.inl hS1), fun k e => nx' k (hL'.clt k e) ((hv' k e).imp (hS2 k) id), fun k e => nx' k (hL'.tlt k e) ((hT' k e).imp (hS3 k) id), ?_⟩
    · rw [putH_sum]; exact hL'
    · rw [putH_sum]; exact hfit
theorem put_sweep {w : World} (g : HLay w hb sb vc T H u (sumH H)) (hfit : sumH H ≤ u) (hU : Upd S W w) (hS1 : Nx S W w hb) (hS2 : ∀ k, vc.ownBlock = some k → Nx S W w k) (hS3 : ∀ k, T k → Nx S W w k) (vr vw : Value) (rs ws : List Nat) (base : Nat) (hr : WordsAt w vr rs) (hw : WordsAt w vw ws) (hbase : base < 18446744073709551616) :
    (Calls Tryz.prog 97 #[.pointer (some ⟨hb, 0, none⟩), .slice (some ⟨w.heap.size + 1, 0, none⟩) 3 3] ((w.alloc (.cells #[.int .u64 base] 22)).alloc (.cells #[vr, vw, .slice (some ⟨w.heap.size, 0, none⟩) 1 1] 31)) fun e w2 => ∃ vb, e = .returned (.tuple #[vb, .int .i64 (reachN H (rs ++ (ws ++ [base])) : Nat)]) ∧ ((∀ k < w.heap.size, w2.heap[k]? = w.heap[k]?) ∧ Calls Tryz.prog 96 #[.pointer (some ⟨hb, 0, none⟩), vb, .int .i64 (reachN H (rs ++ (ws ++ [base])) : Nat)] w2 fun e w' => e = .returned (.tuple #[]) ∧ (Hid (∃ T', HLay w' hb sb vc T' (zipK H (rchB H (rs ++ (ws ++ [base])))) u (sumH (zipK H (rchB H (rs ++ (ws ++ [base]))))) ∧ Upd S W w' ∧ Nx S W w' hb ∧ (∀ k, vc.ownBlock = some k → Nx S W w' k) ∧ (∀ k, T' k → Nx S W w' k) ∧ sumH (zipK H (rchB H (rs ++ (ws ++ [base])))) ≤ u) ∧ ∀ k < w.heap.size, ¬ (T k ∨ k = hb ∨ vc.ownBlock = some k) → w'.heap[k]? = w.heap[k]?))) := by
  have hu := g.u1
  have hB1 : Below w.heap.size w (w.alloc (.cells #[.int .u64 base] 22)) := (Below.refl _ w).alloc (Nat.le_refl _) _
  have hs1 : (w.alloc (.cells #[.int .u64 base] 22)).heap.size = w.heap.size + 1 := World.size_alloc ..
  have hB2 : Below (w.heap.size + 1) (w.alloc (.cells #[.int .u64 base] 22)) ((w.alloc (.cells #[.int .u64 base] 22)).alloc (.cells #[vr, vw, .slice (some ⟨w.heap.size, 0, none⟩) 1 1] 31)) := by rw [← hs1]; exact (Below.refl _ _).alloc (Nat.le_refl _) _
  have hBl : Below w.heap.size w ((w.alloc (.cells #[.int .u64 base] 22)).alloc (.cells #[vr, vw, .slice (some ⟨w.heap.size, 0, none⟩) 1 1] 31)) := hB1.trans (hB2.mono (by omega))
  have hsl : (((w.alloc (.cells #[.int .u64 base] 22)).alloc (.cells #[vr, vw, .slice (some ⟨w.heap.size, 0, none⟩) 1 1] 31))).heap.size = w.heap.size + 2 := by rw [World.size_alloc, hs1]
  have hbw : WordsAt ((w.alloc (.cells #[.int .u64 base] 22)).alloc (.cells #[vr, vw, .slice (some ⟨w.heap.size, 0, none⟩) 1 1] 31)) (.slice (some ⟨w.heap.size, 0, none⟩) 1 1) [base] := by
    refine ⟨_, _, rfl, by simp, by simpa using hbase, fun i hi => ?_⟩
    simp at hi
    subst hi
    refine ⟨_, rfl, ?_⟩
    have e1 : ((⟨w.heap.size, 0, none⟩ : Addr).add 0) = ⟨w.heap.size, 0, none⟩ := by simp [Addr.add]
    rw [e1]
    refine below_cell (W := w.alloc (.cells #[.int .u64 base] 22)) (by rw [hs1]; exact hB2) ?_
    rw [World.cell?_alloc_new]; rfl
  have hla : ListsAt ((w.alloc (.cells #[.int .u64 base] 22)).alloc (.cells #[vr, vw, .slice (some ⟨w.heap.size, 0, none⟩) 1 1] 31)) (.slice (some ⟨w.heap.size + 1, 0, none⟩) 3 3) [rs, ws, [base]] := by
    refine ⟨_, _, rfl, by simp, fun i hi => ?_⟩
    have hn : ∀ j, (((w.alloc (.cells #[.int .u64 base] 22)).alloc (.cells #[vr, vw, .slice (some ⟨w.heap.size, 0, none⟩) 1 1] 31))).cell? ⟨w.heap.size + 1, j, none⟩ = #[vr, vw, .slice (some ⟨w.heap.size, 0, none⟩) 1 1][j]? := by
      intro j
      have := World.cell?_alloc_new (w.alloc (.cells #[.int .u64 base] 22)) #[vr, vw, .slice (some ⟨w.heap.size, 0, none⟩) 1 1] 31 j
      rw [hs1] at this
      exact this
    have ha : ∀ j, ((⟨w.heap.size + 1, 0, none⟩ : Addr).add j) = ⟨w.heap.size + 1, j, none⟩ := by intro j; unfold Addr.add; split <;> simp_all
    simp at hi
    rcases (by omega : i = 0 ∨ i = 1 ∨ i = 2) with rfl | rfl | rfl
    · exact ⟨_, vr, rfl, by rw [ha, hn]; rfl, words_below hr hBl⟩
    · exact ⟨_, vw, rfl, by rw [ha, hn]; rfl, words_below hw hBl⟩
    · exact ⟨_, _, rfl, by rw [ha, hn]; rfl, hbw⟩
  have cr := reach_b (g.below hBl) _ _ hla (by omega)
  simp only [List.flatten_cons, List.flatten_nil, List.append_nil] at cr
  have hle : reachN H (rs ++ (ws ++ [base])) ≤ 1048576 := by have := needR_le H (rchB H (rs ++ (ws ++ [base]))); unfold reachN; omega
  refine cr.mono ?_
  rintro e w2 ⟨vb, rfl, hBr, ho⟩
  have hB : Below w.heap.size w w2 := hBl.trans (hBr.mono hBl.size)
  have hsz := hBr.size
  refine ⟨vb, rfl, fun k hk => hB.block k hk, ?_⟩
  have g2 := g.below hB
  refine (keep_c g2 vb (rchB H (rs ++ (ws ++ [base]))) (rchB_len H _) (w.heap.size + 2) (by rw [rchB_len, ← hsl]; exact ho) ⟨by have := g.hlt; omega, fun k e => by have := g.clt k e; omega, fun k e => by have := g.tlt k e; omega⟩ (by omega) _ hle).mono ?_
  rintro e w' ⟨rfl, hU', T', gl, hT'⟩
  have hz := hB.size
  have hz' := hU'.size
  have hzW := hU.size
  have hUw : Upd (fun x => T x ∨ x = hb ∨ vc.ownBlock = some x) w w' := (Upd.of_below hB).trans' hU'
  have hin : ∀ x, T x ∨ x = hb ∨ vc.ownBlock = some x → Nx S W w x := by
    rintro x (e | e | e)
    · exact hS3 x e
    · rw [e]; exact hS1
    · exact hS2 x e
  have nx' : ∀ k, k < w'.heap.size → Nx S W w k → Nx S W w' k := by
    rintro k hk (e | e)
    · exact .inl e
    · exact .inr ⟨e.1, hk⟩
  rw [stepH_zip H _ (rchB_len H _)] at gl
  refine ⟨rfl, ?_, fun k hk hn => hUw.block k hk hn⟩
  show ∃ T', _
  refine ⟨T', ?_, hU.trans (hUw.mono hin), nx' hb gl.hlt hS1, fun k e => nx' k (gl.clt k e) (hS2 k e), fun k e => ?_, ?_⟩
  · have e : sumH (zipK H (rchB H (rs ++ (ws ++ [base])))) = reachN H (rs ++ (ws ++ [base])) := zipK_sum H _
    rw [e]; exact gl
  · rcases hT' k e with e2 | e2
    · exact nx' k (gl.tlt k e) (hS3 k e2)
    · exact .inr ⟨by omega, gl.tlt k e⟩
  · rw [zipK_sum]
    have := needR_le H (rchB H (rs ++ (ws ++ [base])))
    omega
end
end Go.Proofs.YtgkakflnmpoadaaGreatDoor.W
