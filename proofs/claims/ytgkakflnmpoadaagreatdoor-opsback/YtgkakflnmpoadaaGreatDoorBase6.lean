import Derived.Test.YtgkakflnmpoadaaGreatDoorBase5
import Derived.Laws.EntriesVeiled
import Derived.Test.YtgkakflnmpoadaaGreatDoorBase2
/- StoreFills: the row of lengths, written; the store beside it. -/
namespace Go.Proofs.YtgkakflnmpoadaaGreatDoor.W
open Go.ChangeShapes Go.WideShapes Go.RowKit Go.Shelf
set_option linter.unusedVariables false
section
variable {W : World} {sb : Nat} {A : List (Option (List Nat))} {B : Nat} {v : Value} {n : Nat} {xs : List Value}
end
end Go.Proofs.YtgkakflnmpoadaaGreatDoor.W
/- Package heap: the table of cells alone: it grows, a cell is written; what is put. -/
namespace Go.Proofs.YtgkakflnmpoadaaGreatDoor.W
open Go.ChangeShapes Go.WideShapes Go.RowKit Go.Shelf
set_option linter.unusedVariables false
/-- the table: a heap but for its store -/
structure HTab (W : World) (hb sb : Nat) (vc : Value) (C : List (Option Hc)) (u h : Nat) : Prop where
  obj : W.heap[hb]? = some (.cells [.pointer (some ⟨sb, 0, none⟩), vc, .int .i64 u, .int .i64 h].toArray 44 (0, 0))
  own : W.ownsRow 0 146 5 vc C.length (flatC C)
/-- a cell is put -/
def putH (H : List (Option Hc)) (id : Nat) (x : Option Hc) : List (Option Hc) := if id < H.length then H.set id x else H ++ [x]
theorem hA_put (H : List (Option Hc)) (id : Nat) (c : Hc) : hA (putH H id (some c)) = putA (hA H) id (some c.bytes) := by
  unfold putH putA
  rw [hA_len]
  split
  · rw [← hA_set]; rfl
  · rw [hA_snoc]; rfl
theorem infoC : (Tryz.prog.info? 146).map (fun i => (i.zero, i.size, i.bytes)) = some (some (.agg #[.int .i64 0, .bool false, .int .u64 0, .int .i64 0, .int .i64 0]), 5, 40) := by kernel_rfl
theorem underC : Tryz.prog.underlying 42 = some (.slice 146) := by kernel_rfl
theorem flatC_snoc (H : List (Option Hc)) (c : Option Hc) : flatC (H ++ [c]) = flatC H ++ (clO c).cells := by simp [flatC]
section
variable {W W' : World} {hb sb : Nat} {vc : Value} {T : Nat → Prop} {H : List (Option Hc)} {u h : Nat}
theorem HLay.tab (g : HLay W hb sb vc T H u h) : HTab W hb sb vc H u h := ⟨g.obj, g.own⟩
theorem HTab.kept (g : HTab W hb sb vc H u h) (h0 : W'.heap[hb]? = W.heap[hb]?) (h1 : ∀ k, vc.ownBlock = some k → W'.heap[k]? = W.heap[k]?) : HTab W' hb sb vc H u h := ⟨h0.trans g.obj, owns_on g.own h1⟩
theorem HTab.hlt (g : HTab W hb sb vc H u h) : hb < W.heap.size := (Array.getElem?_eq_some_iff.1 g.obj).1
theorem HTab.cell (g : HTab W hb sb vc H u h) (j : Nat) : W.cell? ⟨hb, j, none⟩ = [Value.pointer (some ⟨sb, 0, none⟩), vc, .int .i64 u, .int .i64 h][j]? := by
  rw [cell_of_row W hb j _ _ (0, 0) g.obj]; simp
theorem HTab.ne (g : HTab W hb sb vc H u h) : vc.ownBlock ≠ some hb := (own_ne g.own g.obj (by decide)).symm
/-- one cell more -/
theorem HTab.grow (g : HTab W hb sb vc H u h) (hl : H.length ≤ 1048576) (ty : TypeId) :
    ∃ v' w', (Builtin.append_ #[42, 42] ty #[vc, .slice (some ⟨W.heap.size, 0, none⟩) 1 1]).run Tryz.prog (W.alloc (.cells #[.int .i64 0, .bool false, .int .u64 0, .int .i64 0, .int .i64 0] 146)) = .ok v' w' ∧ w'.cell? ⟨hb, 1, none⟩ = some vc ∧ w'.frozen? ⟨hb, 1, none⟩ = false ∧ HTab (w'.setCell ⟨hb, 1, none⟩ v') hb sb v' (H ++ [none]) u h ∧ Upd (fun k => k = hb ∨ vc.ownBlock = some k) W (w'.setCell ⟨hb, 1, none⟩ v') ∧ ∀ k, v'.ownBlock = some k → vc.ownBlock = some k ∨ W.heap.size ≤ k := by
  obtain ⟨i0, hi, hz0, hz1, hz2⟩ := info_parts infoC
  have hBa : Below W.heap.size W (W.alloc (.cells #[.int .i64 0, .bool false, .int .u64 0, .int .i64 0, .int .i64 0] 146)) := (Below.refl _ W).alloc (Nat.le_refl _) _
  have ga : HTab (W.alloc (.cells #[.int .i64 0, .bool false, .int .u64 0, .int .i64 0, .int .i64 0] 146)) hb sb vc H u h := g.kept (hBa.block _ g.hlt) (fun k e => hBa.block k (g.own.lt k e).2)
  have hnews : ∀ j v, (clO none).cells[j]? = some v → (W.alloc (.cells #[.int .i64 0, .bool false, .int .u64 0, .int .i64 0, .int .i64 0] 146)).cell? ((⟨W.heap.size, 0, none⟩ : Addr).add j) = some v := by
    intro j v hj
    have e : (⟨W.heap.size, 0, none⟩ : Addr).add j = ⟨W.heap.size, j, none⟩ := by unfold Addr.add; split <;> simp_all
    rw [e, World.cell?_alloc_new]
    simpa [clO, Cl.cells] using hj
  have ho1 : ∀ v ∈ (clO none).cells, v.oneCell' = true := by
    intro v hv
    simp [clO, Cl.cells] at hv
    rcases hv with rfl | rfl | rfl | rfl <;> rfl
  obtain ⟨v', w', hrun, hown, hgr, hnew⟩ := append_at (P := Tryz.prog) (W.alloc (.cells #[.int .i64 0, .bool false, .int .u64 0, .int .i64 0, .int .i64 0] 146)) 42 ty 146 i0 _ 5 40 underC hi hz0 hz1 hz2 rfl (by decide) vc H.length (flatC H) ga.own ⟨W.heap.size, 0, none⟩ 1 1 (clO none).cells rfl hnews ho1 (by decide) (by decide) (by omega)
  have hU : Upd (fun k => k = hb ∨ vc.ownBlock = some k) W w' := ((Upd.refl _ W).alloc _).trans' (((Upd.refl (fun k => k = hb ∨ vc.ownBlock = some k) _)).grown hgr (fun k e => .inl (.inr e)))
  have hob : w'.heap[hb]? = W.heap[hb]? := (hgr.block hb ga.hlt (fun e => ga.ne e.symm)).trans (hBa.block _ g.hlt)
  have hob' : w'.heap[hb]? = some (.cells [.pointer (some ⟨sb, 0, none⟩), vc, .int .i64 u, .int .i64 h].toArray 44 (0, 0)) := hob.trans g.obj
  have hv' : v'.ownBlock ≠ some hb := (own_ne hown hob' (by decide)).symm
  refine ⟨v', w', hrun, ?_, ?_, ⟨?_, ?_⟩, hU.setCell (p := ⟨hb, 1, none⟩) (.inl (.inl rfl)) _, ?_⟩
  · rw [World.cell?_of_block hob, g.cell 1]; rfl
  · rw [World.frozen?_of_block hob]; simp [World.frozen?, g.obj]
  · exact heap_set (b := hb) hob' 1 v'
  · rw [flatC_snoc, List.length_append]
    refine owns_on hown (fun k e => Below.heap_setCell _ _ _ _ ?_)
    rintro rfl
    exact hv' e
  · intro k e
    rcases hnew k e with e | e
    · exact .inl e
    · right; have := e.1; rw [World.size_alloc] at this; omega
/-- a cell is written -/
theorem HTab.write {b cap : Nat} (g : HTab W hb sb (.slice (some ⟨b, 0, none⟩) H.length cap) H u h) (k : Nat) (hk : k < H.length) (c : Option Hc) :
    HTab (((((W.setCell ⟨b, k * 5, none⟩ (.int .i64 (clO c).kind)).setCell ⟨b, k * 5 + 1, none⟩ (.bool (clO c).view)).setCell ⟨b, k * 5 + 2, none⟩ (.int .u64 (clO c).base)).setCell ⟨b, k * 5 + 3, none⟩ (.int .i64 (clO c).frm)).setCell ⟨b, k * 5 + 4, none⟩ (.int .i64 (clO c).len)) hb sb (.slice (some ⟨b, 0, none⟩) H.length cap) (H.set k c) u h ∧
    Upd (fun x => x = b) W (((((W.setCell ⟨b, k * 5, none⟩ (.int .i64 (clO c).kind)).setCell ⟨b, k * 5 + 1, none⟩ (.bool (clO c).view)).setCell ⟨b, k * 5 + 2, none⟩ (.int .u64 (clO c).base)).setCell ⟨b, k * 5 + 3, none⟩ (.int .i64 (clO c).frm)).setCell ⟨b, k * 5 + 4, none⟩ (.int .i64 (clO c).len)) := by
  have hne : hb ≠ b := by rintro rfl; exact g.ne rfl
  have o1 := (g.own.stored (k * 5) (.int .i64 (clO c).kind)).1
  have o2 := (o1.stored (k * 5 + 1) (.bool (clO c).view)).1
  have o3 := (o2.stored (k * 5 + 2) (.int .u64 (clO c).base)).1
  have o4 := (o3.stored (k * 5 + 3) (.int .i64 (clO c).frm)).1
  have o5 := (o4.stored (k * 5 + 4) (.int .i64 (clO c).len)).1
  rw [flatC_five H k c hk] at o5
  refine ⟨⟨?_, by rw [List.length_set]; exact o5⟩, ?_⟩
  · rw [Below.heap_setCell _ _ _ _ hne, Below.heap_setCell _ _ _ _ hne, Below.heap_setCell _ _ _ _ hne, Below.heap_setCell _ _ _ _ hne, Below.heap_setCell _ _ _ _ hne]
    exact g.obj
  · exact ((((((Upd.refl (fun x => x = b) W)).setCell (p := ⟨b, k * 5, none⟩) (.inl rfl) _).setCell (p := ⟨b, k * 5 + 1, none⟩) (.inl rfl) _).setCell (p := ⟨b, k * 5 + 2, none⟩) (.inl rfl) _).setCell (p := ⟨b, k * 5 + 3, none⟩) (.inl rfl) _).setCell (p := ⟨b, k * 5 + 4, none⟩) (.inl rfl) _
/-- a table and a store make a heap -/
theorem HTab.lay (g : HTab W hb sb vc H u h) (hs : St W T sb (hA H) 8388608 1048577) (h1 : ∀ k, T k → k < W.heap.size) (h2 : ¬ T hb) (h3 : ∀ k, vc.ownBlock = some k → ¬ T k) (h4 : ∀ (i : Nat) (c : Hc), H[i]? = some (some c) → c.ok) (h5 : H.length ≤ 1048576) (h6 : u ≤ 1048576) (h7 : h ≤ 1048576) : HLay W hb sb vc T H u h := ⟨g.obj, g.own, hs, h1, h2, h3, h4, h5, h6, h7⟩
end
end Go.Proofs.YtgkakflnmpoadaaGreatDoor.W
/- Package heap: size, Need; cells as values. -/
namespace Go.Proofs.YtgkakflnmpoadaaGreatDoor.W
open Go.ChangeShapes Go.WideShapes Go.RowKit Go.Shelf
set_option linter.unusedVariables false
/-- a cell as it is handed over -/
def cellV (k : Int) (v : Bool) (i : Int) (t : ByteArray) (b w : Value) (base : Int) (p n : Int) : Value := .agg #[.int .i64 k, .bool v, .int .i64 i, .string t, b, w, .int .u64 base, .int .i64 p, .int .i64 n]
/-- how many bytes of its own a cell has, whatever cell -/
def sizeV (k : Int) (v : Bool) (tl bl wl : Nat) : Nat := if shp k v = 1 then 8 else if shp k v = 2 then tl else if shp k v = 3 then bl else if shp k v = 5 then wl * 8 else 0
theorem size_c (k : Int) (v : Bool) (i : Int) (t : ByteArray) (ob ow : Option Addr) (bl bc wl wc : Nat) (base p n : Int) (hw : wl ≤ 1000000000) (W : World) :
    Calls Tryz.prog 162 #[cellV k v i t (.slice ob bl bc) (.slice ow wl wc) base p n] W fun e w' => e = .returned (.int .i64 (sizeV k v t.size bl wl : Nat)) ∧ Below W.heap.size W w' := by
  have cs : ∀ w, Calls Tryz.prog 157 #[.int .i64 k, .bool v] w fun e w' => e = .returned (.int .i64 (shp k v)) ∧ w' = w := fun w => shape_c k v w
  unfold cellV sizeV
  generalize shp k v = s at *
  have hB := (show Below W.heap.size W (W.alloc (.cells #[.int .i64 k, .bool v, .int .i64 i, .string t, .slice ob bl bc, .slice ow wl wc, .int .u64 base, .int .i64 p, .int .i64 n] 97)) from (Below.refl _ W).alloc (Nat.le_refl _) _)
  have hw8 : IntKind.i64.wrap ((wl : Int) * 8) = (wl : Int) * 8 := by rw [IntKind.wrap_i64]; omega
  by_cases h1 : s = 1
  · subst h1
    rw [if_pos rfl]
    go_enter Tryz.func162, Tryz.ntmps162
    go_wp2_with (go_at_call 157; (with_reducible refine (cs _).mono ?_); rintro e w' ⟨rfl, hw⟩; (have hw' := hw.symm); subst hw'; clear hw)
    go_ret
    exact ⟨rfl, hB⟩
  rw [if_neg h1]
  by_cases h2 : s = 2
  · subst h2
    rw [if_pos rfl]
    go_enter Tryz.func162, Tryz.ntmps162
    go_wp2_with (go_at_call 157; (with_reducible refine (cs _).mono ?_); rintro e w' ⟨rfl, hw⟩; (have hw' := hw.symm); subst hw'; clear hw)
    go_ret
    exact ⟨rfl, hB⟩
  rw [if_neg h2]
  by_cases h3 : s = 3
  · subst h3
    rw [if_pos rfl]
    go_enter Tryz.func162, Tryz.ntmps162
    go_wp2_with (go_at_call 157; (with_reducible refine (cs _).mono ?_); rintro e w' ⟨rfl, hw⟩; (have hw' := hw.symm); subst hw'; clear hw)
    go_ret
    exact ⟨rfl, hB⟩
  rw [if_neg h3]
  by_cases h5 : s = 5
  · subst h5
    rw [if_pos rfl]
    go_enter Tryz.func162, Tryz.ntmps162
    go_wp2_with (go_at_call 157; (with_reducible refine (cs _).mono ?_); rintro e w' ⟨rfl, hw⟩; (have hw' := hw.symm); subst hw'; clear hw)
    go_ret
    exact ⟨rfl, hB⟩
  rw [if_neg h5]
  go_enter Tryz.func162, Tryz.ntmps162
  go_wp2_with (go_at_call 157; (with_reducible refine (cs _).mono ?_); rintro e w' ⟨rfl, hw⟩; (have hw' := hw.symm); subst hw'; clear hw)
  go_ret
  exact ⟨rfl, hB⟩
theorem sizeV_le (k : Int) (v : Bool) (tl bl wl : Nat) (h1 : tl ≤ 80000000) (h2 : bl ≤ 80000000) (h3 : wl ≤ 10000000) : sizeV k v tl bl wl ≤ 80000000 := by
  unfold sizeV
  repeat' split
  all_goals omega
theorem need_c (k : Int) (v : Bool) (i : Int) (t : ByteArray) (ob ow : Option Addr) (bl bc wl wc : Nat) (base p n : Int) (ht : t.size ≤ 80000000) (hbl : bl ≤ 80000000) (hw : wl ≤ 10000000) (W : World) :
    Calls Tryz.prog 95 #[cellV k v i t (.slice ob bl bc) (.slice ow wl wc) base p n] W fun e w' => e = .returned (.int .i64 (1 + (sizeV k v t.size bl wl + 7) / 8 : Nat)) ∧ Below W.heap.size W w' := by
  have cs : ∀ w, Calls Tryz.prog 162 #[cellV k v i t (.slice ob bl bc) (.slice ow wl wc) base p n] w fun e w' => e = .returned (.int .i64 (sizeV k v t.size bl wl : Nat)) ∧ Below w.heap.size w w' := fun w => size_c k v i t ob ow bl bc wl wc base p n (by omega) w
  have hs := sizeV_le k v t.size bl wl ht hbl hw
  generalize sizeV k v t.size bl wl = z at *
  have cu : ∀ w, Calls Tryz.prog 161 #[.int .i64 z] w fun e w' => e = .returned (.int .i64 (1 + (z + 7) / 8 : Nat)) ∧ w' = w := fun w => unitsOf_c z (by omega) w
  unfold cellV at *
  have hB := (show Below W.heap.size W (W.alloc (.cells #[.int .i64 k, .bool v, .int .i64 i, .string t, .slice ob bl bc, .slice ow wl wc, .int .u64 base, .int .i64 p, .int .i64 n] 97)) from (Below.refl _ W).alloc (Nat.le_refl _) _)
  go_enter Tryz.func95, Tryz.ntmps95
  go_wp2_with (first | (go_at_call 162; (with_reducible refine (cs _).mono ?_); rintro e w2 ⟨rfl, hB2⟩) | (go_at_call 161; (with_reducible refine (cu _).mono ?_); rintro e w' ⟨rfl, hw⟩; (have hw' := hw.symm); subst hw'; clear hw))
  go_ret
  exact ⟨rfl, hB.trans (hB2.mono hB.size)⟩
end Go.Proofs.YtgkakflnmpoadaaGreatDoor.W
/- Package heap: bytes of a cell are written: save, of a number. -/
namespace Go.Proofs.YtgkakflnmpoadaaGreatDoor.W
open Go.ChangeShapes Go.WideShapes Go.RowKit Go.Shelf
set_option linter.unusedVariables false
theorem le8_get (x j : Nat) (h : j < 8) : (le8 x)[j]? = some (x / 256 ^ j % 256) := by
  unfold le8; rw [List.getElem?_map, List.getElem?_range h]; rfl
theorem saved_le8 (y : List Nat) (x : Nat) (h : y.length = 8) : saved y 0 x 8 = le8 x := by
  apply List.ext_getElem?
  intro j
  rw [saved_get _ _ _ _ _ (by omega)]
  by_cases hj : j < 8
  · rw [if_pos (by omega), le8_get x j hj, Nat.sub_zero]
  · rw [if_neg (by omega), List.getElem?_eq_none (by omega), List.getElem?_eq_none (by rw [le8_len]; omega)]
theorem flatC_same (H : List (Option Hc)) (i : Nat) (c d : Option Hc) (hc : H[i]? = some c) (he : clO d = clO c) : flatC (H.set i d) = flatC H := by
  induction H generalizing i with
  | nil => simp at hc
  | cons a H ih =>
    cases i with
    | zero =>
      simp at hc; subst hc
      rw [List.set_cons_zero, flatC_cons, flatC_cons, he]
    | succ i =>
      simp at hc
      rw [List.set_cons_succ, flatC_cons, flatC_cons, ih i hc]
section
variable {W W' : World} {hb sb : Nat} {vc : Value} {T : Nat → Prop} {H : List (Option Hc)} {u h : Nat}
/-- a cell's bytes are others -/
theorem HLay.saved (g : HLay W hb sb vc T H u h) (i : Nat) (c d : Hc) (hc : H[i]? = some (some c)) (he : d.cl = c.cl) (hd : d.ok) (hU : Upd T W W') (hS : St W' T sb ((hA H).set i (some d.bytes)) 8388608 1048577) : HLay W' hb sb vc T (H.set i (some d)) u h := by
  have hil := (List.getElem?_eq_some_iff.1 hc).1
  refine ⟨(hU.block hb g.hlt g.thb).trans g.obj, ?_, ?_, fun k e => Nat.lt_of_lt_of_le (g.tlt k e) hU.size, g.thb, g.tvc, ?_, by rw [List.length_set]; exact g.len, g.u1, g.h1⟩
  · rw [List.length_set, flatC_same H i (some c) (some d) hc he]
    exact owns_on g.own (fun k e => hU.block k (g.clt k e) (g.tvc k e))
  · rw [← hA_set]; exact hS
  · intro j e hj
    by_cases hij : j = i
    · subst hij
      rw [List.getElem?_set_self hil] at hj
      cases hj; exact hd
    · rw [List.getElem?_set_ne (Ne.symm hij)] at hj
      exact g.ok j e hj
theorem save_num (g : HLay W hb sb vc T H u h) (id : Nat) (i j : Int) (hc : H[id]? = some (some (.num j))) (h0 : -9223372036854775808 ≤ i) (h1 : i < 9223372036854775808) (ob ow : Option Addr) (bc wc : Nat) :
    Calls Tryz.prog 169 #[.pointer (some ⟨hb, 0, none⟩), .int .i64 id, .agg #[.int .i64 2, .bool false, .int .i64 i, .string ByteArray.empty, .slice ob 0 bc, .slice ow 0 wc, .int .u64 0, .int .i64 0, .int .i64 0]] W fun e w' => e = .returned (.tuple #[]) ∧ Upd T W w' ∧ HLay w' hb sb vc T (H.set id (some (.num i))) u h := by
  have hBa : Below W.heap.size W (W.alloc (.cells #[.int .i64 2, .bool false, .int .i64 i, .string ByteArray.empty, .slice ob 0 bc, .slice ow 0 wc, .int .u64 0, .int .i64 0, .int .i64 0] 97)) := (Below.refl _ W).alloc (Nat.le_refl _) _
  have ga := g.below hBa
  have hn : (i % 18446744073709551616).toNat < 18446744073709551616 := by omega
  have cv := save_st (ga.same (W' := (W.alloc (.cells #[.int .i64 2, .bool false, .int .i64 i, .string ByteArray.empty, .slice ob 0 bc, .slice ow 0 wc, .int .u64 0, .int .i64 0, .int .i64 0] 97)).drew) rfl).st id _ (hA_some hc) 0 8 (i % 18446744073709551616).toNat hn (.inr (.inr (.inr rfl))) (by omega) (by show 0 + 8 ≤ (le8 _).length; rw [le8_len]; omega)
  have e8 : saved (Hc.num j).bytes 0 (i % 18446744073709551616).toNat 8 = (Hc.num i).bytes := saved_le8 _ _ (le8_len _)
  rw [e8] at cv
  have ew : (((i % 18446744073709551616).toNat : Nat) : Int) = IntKind.u64.wrap i := by rw [IntKind.wrap_u64]; omega
  rw [ew, show ((0 : Nat) : Int) = 0 from rfl, show ((8 : Nat) : Int) = 8 from rfl] at cv
  have cs : ∀ w, Calls Tryz.prog 157 #[.int .i64 2, .bool false] w fun e w' => e = .returned (.int .i64 1) ∧ w' = w := fun w => shape_c 2 false w
  have fin : Hid (∀ w2, Upd T (W.alloc (.cells #[.int .i64 2, .bool false, .int .i64 i, .string ByteArray.empty, .slice ob 0 bc, .slice ow 0 wc, .int .u64 0, .int .i64 0, .int .i64 0] 97)) w2 → St w2 T sb ((hA H).set id (some (Hc.num i).bytes)) 8388608 1048577 → Upd T W w2 ∧ HLay w2 hb sb vc T (H.set id (some (.num i))) u h) := by
    show ∀ w2, _
    intro w2 hU2 hS2
    exact ⟨(Upd.of_below hBa).trans' hU2, ga.saved id _ (.num i) hc rfl ⟨h0, h1⟩ hU2 hS2⟩
  have c0 := ga.cell 0
  simp only [List.getElem?_cons_zero] at c0
  have c2 := World.cell?_alloc_new W #[.int .i64 2, .bool false, .int .i64 i, .string ByteArray.empty, .slice ob 0 bc, .slice ow 0 wc, .int .u64 0, .int .i64 0, .int .i64 0] 97 2
  simp only [List.getElem?_toArray, List.getElem?_cons_succ, List.getElem?_cons_zero] at c2
  have keep : Hid (∀ w2, Upd T (W.alloc (.cells #[.int .i64 2, .bool false, .int .i64 i, .string ByteArray.empty, .slice ob 0 bc, .slice ow 0 wc, .int .u64 0, .int .i64 0, .int .i64 0] 97)).drew w2 → w2.cell? ⟨hb, 0, none⟩ = some (.pointer (some ⟨sb, 0, none⟩)) ∧ w2.cell? ⟨W.heap.size, 2, none⟩ = some (.int .i64 i)) := by
    show ∀ w2, _
    intro w2 hU2
    have e1 := hU2.block hb ga.hlt g.thb
    have e2 := hU2.block W.heap.size (by show _ < (W.alloc _).heap.size; rw [World.size_alloc]; omega) (fun e => by have := g.tlt _ e; omega)
    exact ⟨(World.cell?_of_block e1).trans c0, (World.cell?_of_block e2).trans c2⟩
  clear ga e8 ew hn
  go_enter Tryz.func169, Tryz.ntmps169
  go_wp2_with (go_at_call 157; (with_reducible refine (cs _).mono ?_); rintro e w' ⟨rfl, hw⟩; (have hw' := hw.symm); subst hw'; clear hw)
  go_region_held3 (fun w' => w'.cell? ⟨hb, 0, none⟩ = some (.pointer (some ⟨sb, 0, none⟩)) ∧ w'.cell? ⟨W.heap.size, 2, none⟩ = some (.int .i64 i)) (first | exact ⟨c0, c2⟩ | exact k2) (first | (go_at_call 216; (with_reducible refine cv.mono ?_); rintro e w2 ⟨rfl, hU2, hS2⟩; (have k2 := keep.out w2 hU2); clear cv keep c0 c2))
  have hf := fin.out w2 ⟨hU2.os, hU2.tape, hU2.output, hU2.size, hU2.block⟩ hS2
  go_wp2
  go_end0
  exact ⟨rfl, hf.1, hf.2⟩
end
end Go.Proofs.YtgkakflnmpoadaaGreatDoor.W
/- The heap in plain words: marking what is reached. -/
namespace Go.Proofs.YtgkakflnmpoadaaGreatDoor.W
set_option linter.unusedVariables false
/-- what is marked needs -/
def needR : List (Option Hc) → List Bool → Nat
  | c :: H, b :: R => (if b = true then needO c else 0) + needR H R
  | _, _ => 0
theorem needR_set (H : List (Option Hc)) (R : List Bool) (i : Nat) (c : Option Hc) (hl : R.length = H.length) (hc : H[i]? = some c) (hr : R[i]? = some false) : needR H (R.set i true) = needR H R + needO c := by
  induction H generalizing R i with
  | nil => simp at hc
  | cons a H ih =>
    cases R with
    | nil => simp at hr
    | cons b R =>
      cases i with
      | zero =>
        simp at hc hr; subst hc; subst hr
        simp only [List.set_cons_zero, needR]
        simp
        omega
      | succ i =>
        simp at hc hr hl
        simp only [List.set_cons_succ, needR]
        rw [ih R i hl hc hr]; omega
theorem needR_le (H : List (Option Hc)) (R : List Bool) : needR H R ≤ sumH H := by
  induction H generalizing R with
  | nil => exact Nat.le_refl _
  | cons a H ih =>
    cases R with
    | nil => exact Nat.zero_le _
    | cons b R =>
      simp only [needR, sumH_cons]
      have := ih R
      split <;> omega
theorem needR_false (H : List (Option Hc)) (n : Nat) : needR H (List.replicate n false) = 0 := by
  induction H generalizing n with
  | nil => rfl
  | cons a H ih =>
    cases n with
    | zero => rfl
    | succ n => simp only [List.replicate_succ, needR, ih]; simp
/-- how many are not marked -/
def unmarked (R : List Bool) : Nat := (R.filter (fun b => !b)).length
theorem unmarked_set (R : List Bool) (i : Nat) (hr : R[i]? = some false) : unmarked (R.set i true) + 1 = unmarked R := by
  induction R generalizing i with
  | nil => simp at hr
  | cons b R ih =>
    cases i with
    | zero => simp at hr; subst hr; simp [unmarked]
    | succ i =>
      simp at hr
      have := ih i hr
      unfold unmarked at *
      rw [List.set_cons_succ, List.filter_cons, List.filter_cons]
      split
      · rw [List.length_cons, List.length_cons]; omega
      · exact this
/-- marking under way: R marked, O of them still open, cur under work -/
structure Rinv (H : List (Option Hc)) (ws : List Nat) (R : List Bool) (O : List Nat) (cur : Nat → Prop) : Prop where
  len : R.length = H.length
  sound : ∀ i : Nat, R[i]? = some true → Rch H ws i
  opn : ∀ i ∈ O, R[i]? = some true
  shut : ∀ (i : Nat) c, R[i]? = some true → i ∉ O → ¬ cur i → H[i]? = some (some c) → ∀ w ∈ c.succ, ∀ j, hit H w = some j → R[j]? = some true
section
variable {H : List (Option Hc)} {ws : List Nat} {R : List Bool} {O : List Nat} {cur : Nat → Prop}
theorem Rch.live {i : Nat} (h : Rch H ws i) : ∃ c, H[i]? = some (some c) := by
  have key : ∀ {w i : Nat}, hit H w = some i → ∃ c, H[i]? = some (some c) := by
    intro w i hh
    unfold hit at hh
    split at hh
    · rename_i hc
      cases hh
      have := hc.2
      cases e : H[w % 281474976710656]? with
      | none => rw [e] at this; simp at this
      | some x =>
        cases x with
        | none => rw [e] at this; simp at this
        | some c => exact ⟨c, rfl⟩
    · cases hh
  cases h with
  | root w i hw hh => exact key hh
  | step j i w c hj hc hw hh => exact key hh
theorem set_true {R : List Bool} {i j : Nat} (h : R[j]? = some true) : (R.set i true)[j]? = some true := by
  by_cases e : i = j
  · subst e; rw [List.getElem?_set_self (List.getElem?_eq_some_iff.1 h).1]
  · rw [List.getElem?_set_ne e]; exact h
theorem Rinv.mark (h : Rinv H ws R O cur) {i : Nat} (hi : Rch H ws i) (hr : R[i]? = some false) : Rinv H ws (R.set i true) (O ++ [i]) cur := by
  have hil := (List.getElem?_eq_some_iff.1 hr).1
  refine ⟨by rw [List.length_set]; exact h.len, ?_, ?_, ?_⟩
  · intro j hj
    by_cases e : i = j
    · subst e; exact hi
    · rw [List.getElem?_set_ne e] at hj; exact h.sound j hj
  · intro j hj
    rcases List.mem_append.1 hj with hj | hj
    · exact set_true (h.opn j hj)
    · simp at hj; subst hj; rw [List.getElem?_set_self hil]
  · intro j c hj hno hcur hc w hw k hk
    have e : i ≠ j := by rintro rfl; exact hno (by simp)
    rw [List.getElem?_set_ne e] at hj
    exact set_true (h.shut j c hj (fun hm => hno (List.mem_append_left _ hm)) hcur hc w hw k hk)
theorem Rinv.pop {i : Nat} (h : Rinv H ws R (O ++ [i]) (fun _ => False)) : Rinv H ws R O (fun j => j = i) := by
  refine ⟨h.len, h.sound, fun j hj => h.opn j (List.mem_append_left _ hj), ?_⟩
  intro j c hj hno hcur hc
  refine h.shut j c hj ?_ (fun f => f) hc
  intro hm
  rcases List.mem_append.1 hm with hm | hm
  · exact hno hm
  · simp at hm; exact hcur hm
theorem Rinv.close {i : Nat} {c : Hc} (h : Rinv H ws R O (fun j => j = i)) (hc : H[i]? = some (some c)) (hs : ∀ w ∈ c.succ, ∀ j, hit H w = some j → R[j]? = some true) : Rinv H ws R O (fun _ => False) := by
  refine ⟨h.len, h.sound, h.opn, ?_⟩
  intro j d hj hno _ hd
  by_cases e : j = i
  · subst e
    rw [hc] at hd; cases hd
    exact hs
  · exact h.shut j d hj hno e hd
theorem Rinv.done (h : Rinv H ws R [] (fun _ => False)) (hw : ∀ w ∈ ws, ∀ j, hit H w = some j → R[j]? = some true) (i : Nat) : R[i]? = some true ↔ Rch H ws i := by
  refine ⟨h.sound i, fun hr => ?_⟩
  induction hr with
  | root w i hm hh => exact hw w hm i hh
  | step j i w c hj hc hm hh ih => exact h.shut j c ih (by simp) (fun f => f) hc w hm i hh
end
/-- marking a word: marked, open, needed -/
def markP (H : List (Option Hc)) (s : List Bool × List Nat × Nat) (w : Nat) : List Bool × List Nat × Nat :=
  match hit H w with
  | none => s
  | some i => if s.1[i]? = some false then (s.1.set i true, s.2.1 ++ [i], s.2.2 + needO ((H[i]?).getD none)) else s
/-- one marking in all its ways -/
structure Mk (H : List (Option Hc)) (ws : List Nat) (s : List Bool × List Nat × Nat) (cur : Nat → Prop) : Prop where
  inv : Rinv H ws s.1 s.2.1 cur
  need : s.2.2 = needR H s.1
theorem Rinv.get {H : List (Option Hc)} {ws : List Nat} {R : List Bool} {O : List Nat} {cur : Nat → Prop} (h : Rinv H ws R O cur) {i : Nat} {c : Hc} (hc : H[i]? = some (some c)) : R[i]? = some true ∨ R[i]? = some false := by
  have hi : i < R.length := by rw [h.len]; exact (List.getElem?_eq_some_iff.1 hc).1
  rw [List.getElem?_eq_getElem hi]
  cases R[i] <;> simp
theorem hit_live {H : List (Option Hc)} {w i : Nat} (hh : hit H w = some i) : ∃ c, H[i]? = some (some c) := (Rch.root (ws := [w]) w i (by simp) hh).live
theorem Mk.mark {H : List (Option Hc)} {ws : List Nat} {s : List Bool × List Nat × Nat} {cur : Nat → Prop} (h : Mk H ws s cur) (w : Nat) (hw : ∀ i, hit H w = some i → Rch H ws i) : Mk H ws (markP H s w) cur ∧ (∀ j, hit H w = some j → (markP H s w).1[j]? = some true) ∧ (∀ j : Nat, s.1[j]? = some true → (markP H s w).1[j]? = some true) ∧ 2 * unmarked (markP H s w).1 + (markP H s w).2.1.length ≤ 2 * unmarked s.1 + s.2.1.length := by
  unfold markP
  cases hh : hit H w with
  | none =>
    refine ⟨h, ?_, fun j e => e, Nat.le_refl _⟩
    intro j e; cases e
  | some i =>
    obtain ⟨c, hc⟩ := hit_live hh
    simp only
    by_cases hr : s.1[i]? = some false
    · rw [if_pos hr]
      refine ⟨⟨h.inv.mark (hw i hh) hr, ?_⟩, ?_, fun j e => set_true e, ?_⟩
      · show s.2.2 + _ = _
        rw [hc, needR_set H s.1 i (some c) h.inv.len hc hr, h.need]; rfl
      · intro j e; cases e
        show (s.1.set i true)[i]? = _
        rw [List.getElem?_set_self (List.getElem?_eq_some_iff.1 hr).1]
      · have := unmarked_set s.1 i hr
        show 2 * unmarked (s.1.set i true) + (s.2.1 ++ [i]).length ≤ _
        rw [List.length_append]
        simp only [List.length_cons, List.length_nil]
        omega
    · rw [if_neg hr]
      refine ⟨h, ?_, fun j e => e, Nat.le_refl _⟩
      intro j e; cases e
      rcases h.inv.get hc with e | e
      · exact e
      · exact absurd e hr
theorem Mk.start (H : List (Option Hc)) (ws : List Nat) : Mk H ws (List.replicate H.length false, [], 0) (fun _ => False) := by
  refine ⟨⟨by simp, ?_, by simp, ?_⟩, (needR_false H _).symm⟩
  · intro i hi; simp [List.getElem?_replicate] at hi
  · intro i c hi; simp [List.getElem?_replicate] at hi
end Go.Proofs.YtgkakflnmpoadaaGreatDoor.W
/- Package heap: the closure that marks. -/
namespace Go.Proofs.YtgkakflnmpoadaaGreatDoor.W
open Go.ChangeShapes Go.WideShapes Go.RowKit Go.Shelf
set_option linter.unusedVariables false
/-- what reach works on: its boxes, its rows, all from B0 on -/
structure RSt (W : World) (B0 Bh Br Bn Bo hb : Nat) (vr vo : Value) (s : List Bool × List Nat × Nat) : Prop where
  bh : Boxed W Bh 25 (.pointer (some ⟨hb, 0, none⟩))
  br : Boxed W Br 140 vr
  bn : Boxed W Bn 3 (.int .i64 (s.2.2 : Nat))
  bo : Boxed W Bo 66 vo
  rrow : W.ownsRow B0 4 1 vr s.1.length (s.1.map .bool)
  orow : W.ownsRow B0 3 1 vo s.2.1.length (s.2.1.map (fun i => .int .i64 (i : Nat)))
  ne : vo.ownBlock ≠ some Bn
  l1 : B0 ≤ Bh
  l2 : B0 ≤ Br
  l3 : B0 ≤ Bn
  l4 : B0 ≤ Bo
/-- what marking may change -/
def RB (Bn Bo : Nat) (vr vo : Value) : Nat → Prop := fun k => k = Bn ∨ k = Bo ∨ vr.ownBlock = some k ∨ vo.ownBlock = some k
/-- a heap lies wholly below B0 -/
structure Low (B0 hb : Nat) (vc : Value) (T : Nat → Prop) : Prop where
  hb : hb < B0
  vc : ∀ k, vc.ownBlock = some k → k < B0
  st : ∀ k, T k → k < B0
section
variable {W W' : World} {hb sb B0 Bh Br Bn Bo : Nat} {vc vr vo : Value} {T : Nat → Prop} {H : List (Option Hc)} {u h : Nat} {s : List Bool × List Nat × Nat}
theorem HLay.low (g : HLay W hb sb vc T H u h) (l : Low B0 hb vc T) (hb' : Below B0 W W') : HLay W' hb sb vc T H u h :=
  g.kept hb'.size (hb'.block _ l.hb) (fun k e => hb'.block k (l.vc k e)) (fun k e => hb'.block k (l.st k e))
theorem RSt.below (r : RSt W B0 Bh Br Bn Bo hb vr vo s) (hb' : Below W.heap.size W W') : RSt W' B0 Bh Br Bn Bo hb vr vo s := by
  have k : ∀ {B t v}, Boxed W B t v → Boxed W' B t v := fun b => box_of (hb'.block _ b.lt) b
  exact ⟨k r.bh, k r.br, k r.bn, k r.bo, owns_on r.rrow (fun _ e => hb'.block _ (r.rrow.lt _ e).2), owns_on r.orow (fun _ e => hb'.block _ (r.orow.lt _ e).2), r.ne, r.l1, r.l2, r.l3, r.l4⟩
theorem RSt.need {R : List Bool} {O : List Nat} {m n : Nat} (r : RSt W B0 Bh Br Bn Bo hb vr vo (R, O, m)) (hw : IntKind.i64.wrap ((m : Int) + (n : Nat)) = ((m + n : Nat) : Int)) : RSt (W.setCell ⟨Bn, 0, none⟩ (.int .i64 ((m : Nat) + (n : Nat) : Int))).drew B0 Bh Br Bn Bo hb vr vo (R, O, m + n) := by
  have hne : ∀ {B t v}, Boxed W B t v → t ≠ 3 → Boxed (W.setCell ⟨Bn, 0, none⟩ (.int .i64 ((m : Nat) + (n : Nat) : Int))) B t v := by
    intro B t v hbx ht
    refine box_set hbx ?_
    rintro rfl
    have := r.bn
    unfold Boxed at this hbx
    rw [this] at hbx
    cases hbx
    exact ht rfl
  have hrow : ∀ {k}, vr.ownBlock = some k → k ≠ Bn := by
    rintro k e rfl
    rcases r.rrow.2 with ⟨h0, _⟩ | ⟨g', cap', cur, h0, _, hgg, _⟩
    · rw [h0] at e; cases e
    · rw [h0] at e
      cases e
      have := r.bn
      unfold Boxed at this
      rw [hgg] at this
      cases this
  refine ⟨hne r.bh (by decide), hne r.br (by decide), ?_, hne r.bo (by decide), owns_on r.rrow (fun k e => Below.heap_setCell _ _ _ _ (hrow e)), owns_on r.orow (fun k e => Below.heap_setCell _ _ _ _ (by rintro rfl; exact r.ne e)), r.ne, r.l1, r.l2, r.l3, r.l4⟩
  have e : (((m, n).1 + (m, n).2 : Nat) : Int) = (m : Int) + (n : Nat) := by simp
  have := r.bn.set (.int .i64 ((m : Nat) + (n : Nat) : Int))
  show Boxed _ Bn 3 (.int .i64 ((m + n : Nat) : Int))
  rw [Int.natCast_add]
  exact this
theorem RSt.push {R : List Bool} {O : List Nat} {m : Nat} (r : RSt W B0 Bh Br Bn Bo hb vr vo (R, O, m)) (hB : B0 ≤ W.heap.size) (hO : O.length ≤ 100000000) (i : Nat) (ty : TypeId) :
    ∃ v' w', (Builtin.append_ #[66, 66] ty #[vo, .slice (some ⟨W.heap.size, 0, none⟩) 1 1]).run Tryz.prog (W.alloc (.cells #[.int .i64 (i : Nat)] 3)) = .ok v' w' ∧ w'.cell? ⟨Bo, 0, none⟩ = some vo ∧ w'.frozen? ⟨Bo, 0, none⟩ = false ∧ RSt (w'.setCell ⟨Bo, 0, none⟩ v') B0 Bh Br Bn Bo hb vr v' (R, O ++ [i], m) ∧ Upd (RB Bn Bo vr vo) W (w'.setCell ⟨Bo, 0, none⟩ v') ∧ ∀ k, v'.ownBlock = some k → vo.ownBlock = some k ∨ W.heap.size ≤ k := by
  obtain ⟨i0, hi, hz0, hz1, hz2⟩ := info_parts info3
  have ra : RSt (W.alloc (.cells #[.int .i64 (i : Nat)] 3)) B0 Bh Br Bn Bo hb vr vo (R, O, m) := r.below ((Below.refl _ W).alloc (Nat.le_refl _) _)
  have hnew : (W.alloc (.cells #[.int .i64 (i : Nat)] 3)).cell? ((⟨W.heap.size, 0, none⟩ : Addr).add 0) = some (.int .i64 (i : Nat)) := by simp [Addr.add]
  obtain ⟨v', w', hr, ho, hg, hat⟩ := append_at (P := Tryz.prog) (W.alloc (.cells #[.int .i64 (i : Nat)] 3)) 66 ty 3 i0 (.int .i64 0) 1 8 under34 hi hz0 hz1 hz2 rfl (by decide) vo O.length _ (owns_base ra.orow (b' := 0) (fun _ _ => Nat.zero_le _)) ⟨W.heap.size, 0, none⟩ 1 1 [.int .i64 (i : Nat)] rfl (by
    intro j x hj
    match j, hj with
    | 0, hj => simp at hj; subst hj; exact hnew) (by intro x hx; simp at hx; subst hx; rfl) (by decide) (by decide) (by omega)
  have hU : Upd (fun k => vo.ownBlock = some k) (W.alloc (.cells #[.int .i64 (i : Nat)] 3)) w' := (Upd.refl _ _).grown hg (fun k e => .inl e)
  have hbk : ∀ {B t v}, Boxed (W.alloc (.cells #[.int .i64 (i : Nat)] 3)) B t v → vo.ownBlock ≠ some B → Boxed w' B t v := fun b hn => box_of (hU.block _ b.lt (fun e => hn e)) b
  have nh := own_ne (owns_base ra.orow (b' := 0) (fun _ _ => Nat.zero_le _)) ra.bh (by decide)
  have nr := own_ne (owns_base ra.orow (b' := 0) (fun _ _ => Nat.zero_le _)) ra.br (by decide)
  have no := own_ne (owns_base ra.orow (b' := 0) (fun _ _ => Nat.zero_le _)) ra.bo (by decide)
  have b1 := hbk ra.bh nh.symm
  have b2 := hbk ra.br nr.symm
  have b3 := hbk ra.bn ra.ne
  have b4 := hbk ra.bo no.symm
  have rr : w'.ownsRow B0 4 1 vr R.length (R.map .bool) := by
    refine owns_on ra.rrow (fun k e => hU.block k (ra.rrow.lt k e).2 ?_)
    intro e2
    rcases ra.rrow.2 with ⟨h0, _⟩ | ⟨g', cap', cur, h0, _, hgg, _⟩
    · rw [h0] at e; cases e
    · rw [h0] at e
      cases e
      exact own_ne (owns_base ra.orow (b' := 0) (fun _ _ => Nat.zero_le _)) hgg (by decide) e2.symm
  have hUw : Upd (RB Bn Bo vr vo) W w' := ((Upd.refl _ W).alloc _).trans' (hU.mono (fun k e => .inr (.inr (.inr e))))
  have hbs : ∀ {B t v}, Boxed w' B t v → t ≠ 66 → Boxed (w'.setCell ⟨Bo, 0, none⟩ v') B t v := by
    intro B t v hbx ht
    refine box_set hbx ?_
    rintro rfl
    unfold Boxed at b4 hbx
    rw [b4] at hbx
    cases hbx
    exact ht rfl
  have hv' : v'.ownBlock ≠ some Bo := (own_ne ho b4 (by decide)).symm
  have lo : ∀ k, v'.ownBlock = some k → B0 ≤ k := by
    intro k e
    rcases hat k e with e | e
    · exact (ra.orow.lt k e).1
    · have := e.1; rw [World.size_alloc] at this; omega
  refine ⟨v', w', hr, b4.cell, b4.frozen, ⟨hbs b1 (by decide), hbs b2 (by decide), hbs b3 (by decide), b4.set _, ?_, ?_, ?_, r.l1, r.l2, r.l3, r.l4⟩, ?_, ?_⟩
  · refine owns_on rr (fun k e => Below.heap_setCell _ _ _ _ ?_)
    rintro rfl
    exact own_ne (owns_base rr (b' := 0) (fun _ _ => Nat.zero_le _)) b4 (by decide) e.symm
  · show World.ownsRow _ B0 _ 1 v' (O ++ [i]).length ((O ++ [i]).map (fun i => .int .i64 (i : Nat)))
    rw [List.length_append, List.map_append]
    refine owns_on (owns_base ho lo) (fun k e => Below.heap_setCell _ _ _ _ ?_)
    rintro rfl
    exact hv' e
  · intro e
    rcases hat Bn e with e | e
    · exact r.ne e
    · have h2 := r.bn.lt
      have := e.1; rw [World.size_alloc] at this; omega
  · exact hUw.setCell (p := ⟨Bo, 0, none⟩) (.inl (.inr (.inl rfl))) v'
  · intro k e
    rcases hat k e with e | e
    · exact .inl e
    · right; have := e.1; rw [World.size_alloc] at this; omega
set_option maxRecDepth 20000 in
set_option maxHeartbeats 1000000 in
theorem mark_c (g : HLay W hb sb vc T H u h) (l : Low B0 hb vc T) (r : RSt W B0 Bh Br Bn Bo hb vr vo s) (hB0 : B0 ≤ W.heap.size) (hRl : s.1.length = H.length) (hn : s.2.2 ≤ 100000000) (hO : s.2.1.length ≤ 100000000) (w : Nat) (hw : w < 18446744073709551616) :
    Calls Tryz.prog 165 #[.int .u64 w, .pointer (some ⟨Bh, 0, none⟩), .pointer (some ⟨Br, 0, none⟩), .pointer (some ⟨Bn, 0, none⟩), .pointer (some ⟨Bo, 0, none⟩)] W fun e w' => e = .returned (.tuple #[]) ∧ Upd (RB Bn Bo vr vo) W w' ∧ ∃ vo', RSt w' B0 Bh Br Bn Bo hb vr vo' (markP H s w) ∧ ∀ k, vo'.ownBlock = some k → vo.ownBlock = some k ∨ W.heap.size ≤ k := by
  have cf := find_c g w hw
  have ch := r.bh.cell
  have cr := r.br.cell
  unfold markP
  cases hh : hit H w with
  | none =>
    rw [hh] at cf
    simp only [Option.getD_none, Option.isSome_none] at cf ⊢
    have HR := hid r
    clear r g hh
    go_enter Tryz.func165, Tryz.ntmps165
    go_wp2_with (go_at_call 100; (with_reducible refine cf.mono ?_); rintro e w' ⟨rfl, rfl⟩)
    refine bodyPost_ret (results_none rfl _ _ _) rfl ?_
    exact ⟨rfl, Upd.refl _ _, _, HR.out, fun k e => .inl e⟩
  | some i =>
    rw [hh] at cf
    obtain ⟨c, hc⟩ := hit_live hh
    simp only [Option.getD_some, Option.isSome_some] at cf ⊢
    have hi : i < H.length := (List.getElem?_eq_some_iff.1 hc).1
    have hlen := g.len
    obtain ⟨gR, cap, hvr, hcap⟩ := own_slice (owns_base r.rrow (b' := 0) (fun _ _ => Nat.zero_le _)) (by omega)
    subst hvr
    have hcell := r.rrow.cellAt i (by omega)
    have hfr := r.rrow.frozenAt i
    have i0 : (0 : Int) ≤ i := by omega
    have i1 : (i : Int) < s.1.length := by omega
    rw [List.getElem?_map] at hcell
    have hsi : i < s.1.length := by omega
    cases hb1 : s.1[i] with
    | true =>
      have e1 : s.1[i]? = some true := by rw [List.getElem?_eq_getElem hsi, hb1]
      rw [e1] at hcell ⊢
      simp only [Option.map_some] at hcell
      rw [if_neg (by decide)]
      have HR := hid r
      clear r g hh e1
      go_enter Tryz.func165, Tryz.ntmps165
      go_wp2_with (go_at_call 100; (with_reducible refine cf.mono ?_); rintro e w' ⟨rfl, rfl⟩)
      refine bodyPost_ret (results_none rfl _ _ _) rfl ?_
      exact ⟨rfl, Upd.refl _ _, _, HR.out, fun k e => .inl e⟩
    | false =>
      have e1 : s.1[i]? = some false := by rw [List.getElem?_eq_getElem hsi, hb1]
      rw [e1] at hcell ⊢
      simp only [Option.map_some] at hcell
      rw [if_pos rfl, hc]
      have hg1 := g.upd ((Upd.refl (fun k => k = gR) W).setCell (p := ⟨gR, i, none⟩) (.inl rfl) (.bool true)) (by have := l.hb; have := (r.rrow.lt gR rfl).1; omega) (fun k e => by have := l.vc k e; have := (r.rrow.lt gR rfl).1; omega) (fun k e => by have := l.st k e; have := (r.rrow.lt gR rfl).1; omega)
      have hBW : Upd (RB Bn Bo (.slice (some ⟨gR, 0, none⟩) s.1.length cap) vo) W (W.setCell ⟨gR, i, none⟩ (.bool true)) := (Upd.refl _ W).setCell (p := ⟨gR, i, none⟩) (.inl (.inr (.inr (.inl rfl)))) (.bool true)
      have hr1 : RSt (W.setCell ⟨gR, i, none⟩ (.bool true)) B0 Bh Br Bn Bo hb (.slice (some ⟨gR, 0, none⟩) s.1.length cap) vo (s.1.set i true, s.2.1, s.2.2) := by
        have hne : ∀ {B t v}, Boxed W B t v → t ≠ 4 → Boxed (W.setCell ⟨gR, i, none⟩ (.bool true)) B t v := by
          intro B t v hbx ht
          refine box_set hbx ?_
          rintro rfl
          rcases r.rrow.2 with ⟨h0, _⟩ | ⟨g', cap', cur, h0, _, hgg, _⟩
          · cases h0
          · cases h0
            unfold Boxed at hbx
            rw [hgg] at hbx
            cases hbx
            exact ht rfl
        have hst := (r.rrow.stored i (.bool true)).1
        refine ⟨hne r.bh (by decide), hne r.br (by decide), hne r.bn (by decide), hne r.bo (by decide), ?_, ?_, r.ne, r.l1, r.l2, r.l3, r.l4⟩
        · show World.ownsRow _ B0 _ 1 _ (s.1.set i true).length ((s.1.set i true).map .bool)
          rw [List.length_set, List.map_set]
          exact hst
        · refine owns_on r.orow (fun k e => Below.heap_setCell _ _ _ _ ?_)
          rintro rfl
          rcases r.rrow.2 with ⟨h0, _⟩ | ⟨g', cap', cur, h0, _, hgg, _⟩
          · cases h0
          · cases h0
            rcases r.orow.2 with ⟨h1, _⟩ | ⟨g'', cap'', cur'', h1, _, hgg', _⟩
            · rw [h1] at e; cases e
            · rw [h1] at e
              cases e
              rw [hgg] at hgg'
              cases hgg'
      go_enter Tryz.func165, Tryz.ntmps165
      go_upto_region 3 with (go_at_call 100; (with_reducible refine cf.mono ?_); rintro e w' ⟨rfl, hw⟩; (have hw' := hw.symm); subst hw'; clear hw)
      clear cf ch cr hcell hfr r g
      generalize World.setCell _ _ _ = W1 at *
      have ch := hr1.bh.cell
      have cn := hr1.bn.cell
      have fn := hr1.bn.frozen
      have cb := bytes_c (hg1.same (W' := W1.drew) rfl) i c hc
      have cu := unitsOf_c c.bytes.length (by have := Hc.bytes_len (hg1.ok i c hc); omega) W1.drew
      have hnd : 1 + (c.bytes.length + 7) / 8 = c.need := rfl
      rw [hnd] at cu
      have hnle : c.need ≤ 100000000 := by have := Hc.bytes_len (hg1.ok i c hc); unfold Hc.need; omega
      have hws : IntKind.i64.wrap (((s.2.2 : Nat) : Int) + (c.need : Nat)) = ((s.2.2 + c.need : Nat) : Int) := by rw [IntKind.wrap_i64]; omega
      have k8 : ∀ v : Value, (W1.drew.setCell ⟨Bn, 0, none⟩ v).cell? ⟨Bn, 0, none⟩ = some v := fun v => World.cell?_setCell_same' _ _ _ (by show (W1.cell? _).isSome = true; rw [cn]; rfl)
      go_region_with (first | (go_at_call 102; (with_reducible refine cb.mono ?_); rintro e w' ⟨rfl, hw⟩; (have hw' := hw.symm); subst hw'; clear hw) | (go_at_call 161; (with_reducible refine cu.mono ?_); rintro e w' ⟨rfl, hw⟩; (have hw' := hw.symm); subst hw'; clear hw))
      all_goals (
        have hr2 : RSt (W1.setCell ⟨Bn, 0, none⟩ (.int .i64 ((s.2.2 : Nat) + (c.need : Nat) : Int))).drew B0 Bh Br Bn Bo hb (.slice (some ⟨gR, 0, none⟩) s.1.length cap) vo (s.1.set i true, s.2.1, s.2.2 + c.need) := hr1.need hws
        have hBW2 : Upd (RB Bn Bo (.slice (some ⟨gR, 0, none⟩) s.1.length cap) vo) W (W1.setCell ⟨Bn, 0, none⟩ (.int .i64 ((s.2.2 : Nat) + (c.need : Nat) : Int))).drew := (hBW.setCell (p := ⟨Bn, 0, none⟩) (.inl (.inl rfl)) _).drew
        clear k8 cn fn ch cb cu hr1 hg1 hBW
        generalize World.drew (World.setCell W1 _ _) = W2 at *
        have co := hr2.bo.cell
        have fo := hr2.bo.frozen
        obtain ⟨v', W4, hrun, c4, f4, hr4, hB4, hnw⟩ := hr2.push (by have := hBW2.size; omega) hO i 66
        obtain ⟨oo, co', hvo⟩ := slice_of (owns_base hr2.orow (b' := 0) (fun _ _ => Nat.zero_le _))
        rw [hvo] at hrun c4 co
        obtain ⟨g4, cap4, hv4, _⟩ := own_slice (owns_base hr4.orow (b' := 0) (fun _ _ => Nat.zero_le _)) (by simp)
        subst hv4
        have hl1 : (s.2.1 ++ [i]).length = s.2.1.length + 1 := by simp
        rw [hl1, hRl] at hr4
        rw [hl1] at hrun hB4 hnw
        rw [hRl] at hB4 hBW2
        have HR := hid hr4
        have HB := hid (hBW2.trans' hB4)
        have HN := hid (show ∀ k, _ = some k → vo.ownBlock = some k ∨ W.heap.size ≤ k from fun k e => (hnw k e).imp_right (fun e => by have := hBW2.size; omega))
        clear hr2 hBW2 hB4 hr4 hnw
        go_wp2_with (at_builtin; refine Lib.wpList_append_run _ rfl (.tmp 31) (.tmp 33) 66 66 rfl _ _ (by simp [Act.eval]) (by simp [Act.eval]) _ _ hrun ?_)
        refine bodyPost_end (results_none rfl _ _ _) rfl ?_
        exact ⟨rfl, by rw [← hvo]; exact HB.out, _, HR.out, by rw [← hvo]; exact HN.out⟩)
end
end Go.Proofs.YtgkakflnmpoadaaGreatDoor.W
/- Package heap: reach. -/
namespace Go.Proofs.YtgkakflnmpoadaaGreatDoor.W
open Go.ChangeShapes Go.WideShapes Go.RowKit Go.Shelf
set_option linter.unusedVariables false
/-- a slice of words that can be read -/
def WordsAt (W : World) (v : Value) (ws : List Nat) : Prop := ∃ o cap, v = .slice o ws.length cap ∧ ws.length ≤ 1000000000000 ∧ (∀ w ∈ ws, w < 18446744073709551616) ∧ ∀ i (hi : i < ws.length), ∃ x, o = some x ∧ W.cell? (x.add i) = some (.int .u64 (ws[i] : Nat))
/-- a slice of such slices -/
def ListsAt (W : World) (v : Value) (ls : List (List Nat)) : Prop := ∃ o cap, v = .slice o ls.length cap ∧ ls.length ≤ 1000000000000 ∧ ∀ i (hi : i < ls.length), ∃ x u, o = some x ∧ W.cell? (x.add i) = some u ∧ WordsAt W u ls[i]
theorem made_one (v : Value) (n : Nat) : (madeCells #[v] n).toList = List.replicate n v := by
  apply List.ext_getElem?
  intro i
  by_cases hi : i < n
  · rw [List.getElem?_replicate, if_pos hi]
    simp [madeCells, hi, Nat.mod_one]
  · rw [List.getElem?_replicate, if_neg hi]
    simp [madeCells, hi]
theorem infoB : (Tryz.prog.info? 4).map (fun i => (i.zero, i.size, i.bytes)) = some (some (.bool false), 1, 1) := by kernel_rfl
theorem underB : Tryz.prog.underlying 140 = some (.slice 4) := by kernel_rfl
theorem make_bools (w : World) (n : Nat) (hn : n ≤ 1048576) : ∃ w', (Instr.makeSlice 140 (.int .i64 (n : Int)) (.int .i64 (n : Int))).run Tryz.prog w = .ok (.slice (some ⟨w.heap.size, 0, none⟩) n n) w' ∧ w'.ownsRow w.heap.size 4 1 (.slice (some ⟨w.heap.size, 0, none⟩) n n) n ((List.replicate n false).map .bool) ∧ w.grownBy w' none := by
  obtain ⟨i0, hi, hz0, hz1, hz2⟩ := info_parts infoB
  obtain ⟨w', h1, h2, h3⟩ := run_makeSlice_full (P := Tryz.prog) w w.heap.size 140 4 i0 (.bool false) 1 underB hi hz0 hz1 .i64 .i64 n (by omega) (by rw [hz2]; omega) (by simp [maxLen]; omega) (Nat.le_refl _)
  refine ⟨w', h1, ?_, h3⟩
  have e : (madeCells (Value.bool false).cells (n * 1)).toList = (List.replicate n false).map .bool := by
    rw [Nat.mul_one, List.map_replicate]
    exact made_one _ n
  rw [← e]
  exact h2
/-- the closure, as a value -/
def markF (Bh Br Bn Bo : Nat) : Value := .func (.func 165) #[] #[.pointer (some ⟨Bh, 0, none⟩), .pointer (some ⟨Br, 0, none⟩), .pointer (some ⟨Bn, 0, none⟩), .pointer (some ⟨Bo, 0, none⟩)]
theorem RSt.box {W W' : World} {B0 Bh Br Bn Bo hb B t : Nat} {vr vo v : Value} {s : List Bool × List Nat × Nat} (r : RSt W B0 Bh Br Bn Bo hb vr vo s) (hu : Upd (RB Bn Bo vr vo) W W') (b : Boxed W B t v) (h1 : t ≠ 3) (h2 : t ≠ 66) (h3 : t ≠ 4) : Boxed W' B t v := by
  refine box_of (hu.block _ b.lt ?_) b
  rintro (rfl | rfl | e | e)
  · have := r.bn
    unfold Boxed at this b
    rw [this] at b; cases b; exact h1 rfl
  · have := r.bo
    unfold Boxed at this b
    rw [this] at b; cases b; exact h2 rfl
  · exact own_ne (owns_base r.rrow (b' := 0) (fun _ _ => Nat.zero_le _)) b (Ne.symm h3) e.symm
  · exact own_ne (owns_base r.orow (b' := 0) (fun _ _ => Nat.zero_le _)) b (Ne.symm h1) e.symm
theorem RSt.bel {W W' : World} {B0 Bh Br Bn Bo hb : Nat} {vr vo : Value} {s : List Bool × List Nat × Nat} (r : RSt W B0 Bh Br Bn Bo hb vr vo s) (hu : Upd (RB Bn Bo vr vo) W W') (hB : B0 ≤ W.heap.size) : Below B0 W W' := by
  refine hu.below hB ?_
  rintro k (rfl | rfl | e | e)
  · exact r.l3
  · exact r.l4
  · exact (r.rrow.lt k e).1
  · exact (r.orow.lt k e).1
/-- marking under way, the closure in its box, beside the heap -/
structure Rw (W0 : World) (hb sb : Nat) (vc : Value) (T : Nat → Prop) (H : List (Option Hc)) (u h Br Bn Bo Bm : Nat) (vr : Value) (ws : List Nat) (cur : Nat → Prop) (W : World) (vo : Value) (s : List Bool × List Nat × Nat) : Prop where
  lay : HLay W hb sb vc T H u h
  low : Low W0.heap.size hb vc T
  r : RSt W W0.heap.size W0.heap.size Br Bn Bo hb vr vo s
  m : Boxed W Bm 194 (markF W0.heap.size Br Bn Bo)
  bel : Below W0.heap.size W0 W
  mm : Mk H ws s cur
  sum : sumH H ≤ 100000000
section
variable {W0 W : World} {hb sb Br Bn Bo Bm : Nat} {vc vr vo : Value} {T : Nat → Prop} {H : List (Option Hc)} {u h : Nat} {ws : List Nat} {cur : Nat → Prop} {s : List Bool × List Nat × Nat}
theorem Rw.len (q : Rw W0 hb sb vc T H u h Br Bn Bo Bm vr ws cur W vo s) (hO : s.2.1.length ≤ 2 * H.length) : s.1.length = H.length ∧ s.2.2 ≤ 100000000 ∧ s.2.1.length ≤ 100000000 := by
  have h1 := q.mm.inv.len
  have h2 := q.mm.need
  have h3 := needR_le H s.1
  have h4 := q.sum
  have h5 := q.lay.len
  omega
theorem Rw.mark (q : Rw W0 hb sb vc T H u h Br Bn Bo Bm vr ws cur W vo s) (hO : 2 * unmarked s.1 + s.2.1.length ≤ 2 * H.length) (w : Nat) (hw : w < 18446744073709551616) (hr : ∀ i, hit H w = some i → Rch H ws i) :
    Calls Tryz.prog 165 #[.int .u64 w, .pointer (some ⟨W0.heap.size, 0, none⟩), .pointer (some ⟨Br, 0, none⟩), .pointer (some ⟨Bn, 0, none⟩), .pointer (some ⟨Bo, 0, none⟩)] W fun e w' => e = .returned (.tuple #[]) ∧ ∃ vo', Rw W0 hb sb vc T H u h Br Bn Bo Bm vr ws cur w' vo' (markP H s w) ∧ Upd (RB Bn Bo vr vo) W w' ∧ ∀ k, vo'.ownBlock = some k → vo.ownBlock = some k ∨ W.heap.size ≤ k := by
  obtain ⟨l1, l2, l3⟩ := q.len (by omega)
  refine (mark_c q.lay q.low q.r (by have := q.bel.size; omega) l1 l2 l3 w hw).mono ?_
  rintro e w' ⟨rfl, hU, vo', hr', hn⟩
  have hb' := q.r.bel hU (by have := q.bel.size; omega)
  exact ⟨rfl, vo', ⟨q.lay.low q.low hb', q.low, hr', q.r.box hU q.m (by decide) (by decide) (by decide), q.bel.trans hb', (q.mm.mark w hr).1, q.sum⟩, hU, hn⟩
end
end Go.Proofs.YtgkakflnmpoadaaGreatDoor.W
/- Package heap: plain, isValue, areValues, of right cells. -/
namespace Go.Proofs.YtgkakflnmpoadaaGreatDoor.W
open Go.ChangeShapes Go.WideShapes Go.RowKit Go.Shelf
set_option linter.unusedVariables false
theorem plain_num (i : Int) (ob ow : Option Addr) (bc wc : Nat) (W : World) :
    Calls Tryz.prog 156 #[cellV 2 false i ByteArray.empty (.slice ob 0 bc) (.slice ow 0 wc) 0 0 0] W fun e w' => e = .returned (.bool true) ∧ Below W.heap.size W w' := by
  have cs : ∀ w, Calls Tryz.prog 157 #[.int .i64 2, .bool false] w fun e w' => e = .returned (.int .i64 1) ∧ w' = w := fun w => shape_c 2 false w
  unfold cellV
  go_enter Tryz.func156, Tryz.ntmps156
  go_wp2_with (go_at_call 157; (with_reducible refine (cs _).mono ?_); rintro e w' ⟨rfl, hw⟩; (have hw' := hw.symm); subst hw'; clear hw)
  go_ret
  exact ⟨rfl, (Below.refl _ W).alloc (Nat.le_refl _) _⟩
theorem plain_text (t : ByteArray) (ob ow : Option Addr) (bc wc : Nat) (W : World) :
    Calls Tryz.prog 156 #[cellV 4 false 0 t (.slice ob 0 bc) (.slice ow 0 wc) 0 0 0] W fun e w' => e = .returned (.bool true) ∧ Below W.heap.size W w' := by
  have cs : ∀ w, Calls Tryz.prog 157 #[.int .i64 4, .bool false] w fun e w' => e = .returned (.int .i64 2) ∧ w' = w := fun w => shape_c 4 false w
  unfold cellV
  go_enter Tryz.func156, Tryz.ntmps156
  go_wp2_with (go_at_call 157; (with_reducible refine (cs _).mono ?_); rintro e w' ⟨rfl, hw⟩; (have hw' := hw.symm); subst hw'; clear hw)
  go_ret
  exact ⟨rfl, (Below.refl _ W).alloc (Nat.le_refl _) _⟩
theorem words_below {W W' : World} {v : Value} {ws : List Nat} (h : WordsAt W v ws) (hb' : Below W.heap.size W W') : WordsAt W' v ws := by
  obtain ⟨o, cap, rfl, h1, h2, h3⟩ := h
  refine ⟨o, cap, rfl, h1, h2, fun i hi => ?_⟩
  obtain ⟨x, hx, hc⟩ := h3 i hi
  exact ⟨x, hx, below_cell hb' hc⟩
section
variable {W : World} {hb sb : Nat} {vc : Value} {T : Nat → Prop} {H : List (Option Hc)} {u h : Nat}
theorem right_num (g : HLay W hb sb vc T H u h) (i : Int) (ob ow : Option Addr) (bc wc : Nat)  : Calls Tryz.prog 93 #[.agg #[.int .i64 2, .bool false, .int .i64 i, .string ByteArray.empty, .slice ob 0 bc, .slice ow 0 wc, .int .u64 0, .int .i64 0, .int .i64 0], (.func (.func 94) #[.pointer (some ⟨hb, 0, none⟩)] #[])] W fun e w' => e = .returned (.bool true) ∧ Below W.heap.size W w' := by
  have cp := plain_num i ob ow bc wc
  have cs : ∀ w, Calls Tryz.prog 157 #[.int .i64 2, .bool false] w fun e w' => e = .returned (.int .i64 1) ∧ w' = w := fun w => shape_c 2 false w
  unfold cellV at cp
  have hB := (show Below W.heap.size W (W.alloc (.cells #[.int .i64 2, .bool false, .int .i64 i, .string ByteArray.empty, .slice ob 0 bc, .slice ow 0 wc, .int .u64 0, .int .i64 0, .int .i64 0] 97)) from (Below.refl _ W).alloc (Nat.le_refl _) _)
  have n0 := World.cell?_alloc_new W #[.int .i64 2, .bool false, .int .i64 i, .string ByteArray.empty, .slice ob 0 bc, .slice ow 0 wc, .int .u64 0, .int .i64 0, .int .i64 0] 97 0
  have n1 := World.cell?_alloc_new W #[.int .i64 2, .bool false, .int .i64 i, .string ByteArray.empty, .slice ob 0 bc, .slice ow 0 wc, .int .u64 0, .int .i64 0, .int .i64 0] 97 1
  simp only [List.getElem?_toArray, List.getElem?_cons_succ, List.getElem?_cons_zero] at n0 n1
  have HB := hid hB
  go_enter Tryz.func93, Tryz.ntmps93
  go_wp2_with (first | (go_at_call 156; (with_reducible refine (cp _).mono ?_); rintro e w2 ⟨rfl, hB2⟩; (have z0 := below_cell hB2 n0); (have z1 := below_cell hB2 n1); (have HB2 := hid hB2); clear hB2) | (go_at_call 157; (with_reducible refine (cs _).mono ?_); rintro e w' ⟨rfl, hw⟩; (have hw' := hw.symm); subst hw'; clear hw))
  go_ret
  exact ⟨rfl, HB.out.trans (HB2.out.mono HB.out.size)⟩
end
end Go.Proofs.YtgkakflnmpoadaaGreatDoor.W
/- Package heap: cells that are handed over; a cell of noughts; rows whose words are written. -/
namespace Go.Proofs.YtgkakflnmpoadaaGreatDoor.W
open Go.ChangeShapes Go.WideShapes Go.RowKit Go.Shelf
set_option linter.unusedVariables false
/-- a row of which i words are written -/
def upTo (ws : List Nat) (i : Nat) : List Nat := ws.take i ++ List.replicate (ws.length - i) 0
theorem upTo_len (ws : List Nat) (i : Nat) (h : i ≤ ws.length) : (upTo ws i).length = ws.length := by
  unfold upTo; rw [List.length_append, List.length_take, List.length_replicate]; omega
theorem upTo_zero (ws : List Nat) : upTo ws 0 = List.replicate ws.length 0 := by unfold upTo; simp
theorem upTo_all (ws : List Nat) : upTo ws ws.length = ws := by unfold upTo; simp
theorem upTo_set (ws : List Nat) (i : Nat) (h : i < ws.length) : (upTo ws i).set i ws[i] = upTo ws (i + 1) := by
  apply List.ext_getElem?
  intro j
  unfold upTo
  by_cases e : j = i
  · subst e
    rw [List.getElem?_set_self (by rw [List.length_append, List.length_take, List.length_replicate]; omega), List.getElem?_append_left (by rw [List.length_take]; omega), List.getElem?_take_of_lt (by omega), List.getElem?_eq_getElem h]
  · rw [List.getElem?_set_ne (Ne.symm e)]
    by_cases c : j < i
    · rw [List.getElem?_append_left (by rw [List.length_take]; omega), List.getElem?_append_left (by rw [List.length_take]; omega), List.getElem?_take_of_lt (by omega), List.getElem?_take_of_lt (by omega)]
    · rw [List.getElem?_append_right (by rw [List.length_take]; omega), List.getElem?_append_right (by rw [List.length_take]; omega), List.length_take, List.length_take, List.getElem?_replicate, List.getElem?_replicate]
      by_cases d : j < ws.length
      · rw [if_pos (by omega), if_pos (by omega)]
      · rw [if_neg (by omega), if_neg (by omega)]
theorem upTo_lt (ws : List Nat) (i n : Nat) (h : ∀ w ∈ ws, w < n) (hn : 0 < n) : ∀ w ∈ upTo ws i, w < n := by
  intro w hw
  unfold upTo at hw
  rcases List.mem_append.1 hw with e | e
  · exact h w (List.mem_of_mem_take e)
  · rw [(List.mem_replicate.1 e).2]; exact hn
/-- a cell of noughts -/
def Hc.zero : Hc → Hc
  | .num _ => .num 0
  | .text b => .text (List.replicate b.length 0)
  | .buf k b => .buf k (List.replicate b.length 0)
  | .view k b p n => .view k b p n
  | .row ws => .row (List.replicate ws.length 0)
theorem le8_zero : le8 0 = List.replicate 8 0 := by decide
theorem zero_bytes (c : Hc) : c.zero.bytes = List.replicate c.bytes.length 0 := by
  cases c with
  | num i => show le8 _ = List.replicate (le8 _).length 0; rw [le8_len]; exact le8_zero
  | text b => rfl
  | buf k b => rfl
  | view k b p n => rfl
  | row ws =>
    show (List.replicate ws.length 0).flatMap le8 = List.replicate (ws.flatMap le8).length 0
    rw [row_len]
    generalize ws.length = n
    induction n with
    | zero => rfl
    | succ n ih => rw [List.replicate_succ, List.flatMap_cons, ih, le8_zero, List.replicate_append_replicate, show 8 + 8 * n = 8 * (n + 1) by omega]
theorem zero_cl (c : Hc) : c.zero.cl = c.cl := by cases c <;> rfl
theorem zero_ok {c : Hc} (h : c.ok) : c.zero.ok := by
  cases c with
  | num i => exact ⟨by omega, by omega⟩
  | text b => exact ⟨fun x hx => by rw [(List.mem_replicate.1 hx).2]; omega, by rw [List.length_replicate]; exact h.2⟩
  | buf k b => exact ⟨h.1, fun x hx => by rw [(List.mem_replicate.1 hx).2]; omega, by rw [List.length_replicate]; exact h.2.2⟩
  | view k b p n => exact h
  | row ws => exact ⟨fun x hx => by rw [(List.mem_replicate.1 hx).2]; omega, by rw [List.length_replicate]; exact h.2⟩
theorem upd_cell {S : Nat → Prop} {W W' : World} {p : Addr} {v : Value} (hu : Upd S W W') (h : W.cell? p = some v) (hs : ¬ S p.block) : W'.cell? p = some v := by
  rcases Nat.lt_or_ge p.block W.heap.size with c | c
  · rw [World.cell?_of_block (hu.block _ c hs)]; exact h
  · unfold World.cell? at h
    rw [Array.getElem?_eq_none c] at h
    cases h
/-- a slice does not lie in S -/
def OutOf (S : Nat → Prop) (v : Value) : Prop := ∀ o n cap, v = .slice (some o) n cap → ¬ S o.block
theorem words_upd {S : Nat → Prop} {W W' : World} {v : Value} {ws : List Nat} (h : WordsAt W v ws) (hu : Upd S W W') (ho : OutOf S v) : WordsAt W' v ws := by
  obtain ⟨o, cap, rfl, h1, h2, h3⟩ := h
  refine ⟨o, cap, rfl, h1, h2, fun i hi => ?_⟩
  obtain ⟨x, rfl, hc⟩ := h3 i hi
  exact ⟨x, rfl, upd_cell hu hc (by have := ho x _ _ rfl; unfold Addr.add; split <;> exact this)⟩
/-- a slice of bytes that can be read -/
def BytesAt (W : World) (v : Value) (bs : List Nat) : Prop := ∃ o cap, v = .slice o bs.length cap ∧ (∀ b ∈ bs, b < 256) ∧ ∀ i (hi : i < bs.length), ∃ x, o = some x ∧ W.cell? (x.add i) = some (.int .u8 (bs[i] : Nat))
theorem bytes_upd {S : Nat → Prop} {W W' : World} {v : Value} {bs : List Nat} (h : BytesAt W v bs) (hu : Upd S W W') (ho : OutOf S v) : BytesAt W' v bs := by
  obtain ⟨o, cap, rfl, h1, h3⟩ := h
  refine ⟨o, cap, rfl, h1, fun i hi => ?_⟩
  obtain ⟨x, rfl, hc⟩ := h3 i hi
  exact ⟨x, rfl, upd_cell hu hc (by have := ho x _ _ rfl; unfold Addr.add; split <;> exact this)⟩
/-- a cell as it is handed over: v, outside S -/
def CellAt (W : World) (S : Nat → Prop) (v : Value) : Hc → Prop
  | .num i => ∃ ob bc ow wc, v = cellV 2 false i ByteArray.empty (.slice ob 0 bc) (.slice ow 0 wc) 0 0 0
  | .text b => ∃ t ob bc ow wc, v = cellV 4 false 0 t (.slice ob 0 bc) (.slice ow 0 wc) 0 0 0 ∧ b = t.data.toList.map UInt8.toNat
  | .buf k b => ∃ ob bc ow wc, v = cellV k false 0 ByteArray.empty (.slice ob b.length bc) (.slice ow 0 wc) 0 0 0 ∧ BytesAt W (.slice ob b.length bc) b ∧ OutOf S (.slice ob b.length bc)
  | .view k base p n => ∃ ob bc ow wc, v = cellV k true 0 ByteArray.empty (.slice ob 0 bc) (.slice ow 0 wc) base p n
  | .row ws => ∃ ob bc ow wc, v = cellV 9 false 0 ByteArray.empty (.slice ob 0 bc) (.slice ow ws.length wc) 0 0 0 ∧ WordsAt W (.slice ow ws.length wc) ws ∧ OutOf S (.slice ow ws.length wc)
theorem OutOf.mono {S S' : Nat → Prop} {v : Value} (h : OutOf S v) (hs : ∀ k, S' k → S k) : OutOf S' v := fun o n cap e k => h o n cap e (hs _ k)
theorem CellAt.mono {S S' : Nat → Prop} {W : World} {v : Value} {c : Hc} (h : CellAt W S v c) (hs : ∀ k, S' k → S k) : CellAt W S' v c := by
  cases c with
  | num i => exact h
  | text b => exact h
  | view k b p n => exact h
  | buf k b => obtain ⟨ob, bc, ow, wc, h1, h2, h3⟩ := h; exact ⟨ob, bc, ow, wc, h1, h2, h3.mono hs⟩
  | row ws => obtain ⟨ob, bc, ow, wc, h1, h2, h3⟩ := h; exact ⟨ob, bc, ow, wc, h1, h2, h3.mono hs⟩
theorem CellAt.upd {S S' : Nat → Prop} {W W' : World} {v : Value} {c : Hc} (h : CellAt W S v c) (hu : Upd S' W W') (hs : ∀ k, S' k → S k) : CellAt W' S v c := by
  cases c with
  | num i => exact h
  | text b => exact h
  | view k b p n => exact h
  | buf k b => obtain ⟨ob, bc, ow, wc, h1, h2, h3⟩ := h; exact ⟨ob, bc, ow, wc, h1, bytes_upd h2 hu (h3.mono hs), h3⟩
  | row ws => obtain ⟨ob, bc, ow, wc, h1, h2, h3⟩ := h; exact ⟨ob, bc, ow, wc, h1, words_upd h2 hu (h3.mono hs), h3⟩
theorem OutOf.next {S : Nat → Prop} {W W' : World} {v : Value} {n : Nat} (h : OutOf S v) (hlt : ∀ o n cap, v = .slice (some o) n cap → o.block < W.heap.size) : OutOf (Nx S W W') v := by
  rintro o n cap e (k | k)
  · exact h o n cap e k
  · have := hlt o n cap e; omega
/-- its parts, whatever cell -/
theorem CellAt.parts {S : Nat → Prop} {W : World} {v : Value} {c : Hc} (h : CellAt W S v c) (hc : c.ok) : ∃ i t ob bl bc ow wl wc, v = cellV c.cl.kind c.cl.view i t (.slice ob bl bc) (.slice ow wl wc) c.cl.base c.cl.frm c.cl.len ∧ t.size ≤ 8388608 ∧ bl ≤ 8388608 ∧ wl ≤ 1048576 ∧ sizeV c.cl.kind c.cl.view t.size bl wl = c.bytes.length := by
  have hs := shp_eq hc
  cases c with
  | num i =>
    obtain ⟨ob, bc, ow, wc, rfl⟩ := h
    refine ⟨i, ByteArray.empty, ob, 0, bc, ow, 0, wc, rfl, Nat.zero_le _, Nat.zero_le _, Nat.zero_le _, ?_⟩
    show sizeV 2 false 0 0 0 = (le8 _).length
    rw [le8_len]; decide
  | text b =>
    obtain ⟨t, ob, bc, ow, wc, rfl, hb⟩ := h
    have hl : b.length = t.size := by rw [hb, List.length_map]; rfl
    refine ⟨0, t, ob, 0, bc, ow, 0, wc, rfl, by have := hc.2; omega, Nat.zero_le _, Nat.zero_le _, ?_⟩
    show sizeV 4 false t.size 0 0 = b.length
    rw [hl]; rfl
  | buf k b =>
    obtain ⟨ob, bc, ow, wc, rfl, hb, ho⟩ := h
    refine ⟨0, ByteArray.empty, ob, b.length, bc, ow, 0, wc, rfl, Nat.zero_le _, hc.2.2, Nat.zero_le _, ?_⟩
    have e : shp k false = 3 := hs
    show sizeV k false 0 b.length 0 = b.length
    unfold sizeV
    rw [e, if_neg (by decide), if_neg (by decide), if_pos rfl]
  | view k base p n =>
    obtain ⟨ob, bc, ow, wc, rfl⟩ := h
    refine ⟨0, ByteArray.empty, ob, 0, bc, ow, 0, wc, rfl, Nat.zero_le _, Nat.zero_le _, Nat.zero_le _, ?_⟩
    have e : shp k true = 4 := hs
    show sizeV k true 0 0 0 = 0
    unfold sizeV
    rw [e, if_neg (by decide), if_neg (by decide), if_neg (by decide), if_neg (by decide)]
  | row ws =>
    obtain ⟨ob, bc, ow, wc, rfl, hb, ho⟩ := h
    refine ⟨0, ByteArray.empty, ob, 0, bc, ow, ws.length, wc, rfl, Nat.zero_le _, Nat.zero_le _, hc.2, ?_⟩
    show sizeV 9 false 0 0 ws.length = (ws.flatMap le8).length
    rw [row_len, Nat.mul_comm]; rfl
end Go.Proofs.YtgkakflnmpoadaaGreatDoor.W
/- Package heap: a range over pieces; bytes of a cell, piece by piece. -/
namespace Go.Proofs.YtgkakflnmpoadaaGreatDoor.W
open Go.ChangeShapes Go.WideShapes Go.RowKit Go.Shelf
set_option linter.unusedVariables false
theorem eg_pieces : ∀ args w, (callFunc 277 args).run Tryz.prog w = .ok (.enter 277 args) w := enters_of Tryz.func277 (by kernel_rfl) rfl
/-- the frame in which a round's body begins -/
def pAct (p1 p2 q1 q2 : Nat) (a : Act) (x y : Nat) : Act := { tmps := (((a.tmps.setIfInBounds p1 (.int .i64 (x : Int))).setIfInBounds p2 (.int .i64 (y : Int))).setIfInBounds q1 (.int .i64 (x : Int))).setIfInBounds q2 (.int .i64 (y : Int)), defers := [] }
theorem zip_two (t : Array Value) (p1 p2 : Nat) (v1 v2 : Value) : ((#[p1, p2] : Array Tmp).zip #[v1, v2]).foldl (fun t (p, v) => t.setIfInBounds p v) t = (t.setIfInBounds p1 v1).setIfInBounds p2 v2 := by
  simp
theorem pieces_law {g : Operand} {p1 p2 : Nat} {assign body : Code} {Q : Exit → Act → World → Prop} {a : Act} {W0 : World} {Bn : Nat} (nn : Nat) (hnn : nn ≤ 8388608) (hg : a.eval g = .func (.func 277) #[] #[.pointer (some ⟨Bn, 0, none⟩)])
    (I : Nat → World → Prop) (hL : ∀ i W, I i W → W.cell? ⟨Bn, 0, none⟩ = some (.int .i64 nn))
    (hI : ∀ i W W', I i W → Upd (fun k => k = W0.heap.size + 1) W W' → I i W') (h0 : I 0 W0) (q1 q2 : Nat)
    (hassign : ∀ (L x y : Nat) (W : World) (K : Act → World → Prop), K (pAct p1 p2 q1 q2 a x y) W → assign.wpIn (Fence.wide.inRound L) 7 Tryz.prog (Exit.then K (fun _ _ _ => False)) { tmps := (a.tmps.setIfInBounds p1 (.int .i64 (x : Int))).setIfInBounds p2 (.int .i64 (y : Int)), defers := [] } W)
    (hbody : ∀ (L : Nat) i (hi : i < pieceN nn) W, L = W0.heap.size + 1 → I i W → W0.heap.size + 2 ≤ W.heap.size → (∃ r, W.heap[L]? = some (.loop r)) → body.wpIn (Fence.wide.inRound L) 7 Tryz.prog (rndWay L W0.heap.size W (I (i + 1)) (fun _ _ => False)) (pAct p1 p2 q1 q2 a (pieceO nn i) (pieceW nn i)) W)
    (hdone : ∀ W, I (pieceN nn) W → W.heap[W0.heap.size]? = some (.deferred (some [])) → Q .normal { a with defers := { target := .collected W0.heap.size, args := #[] } :: a.defers } W) :
    (Code.rangeFunc g #[p1, p2] assign body).wp Tryz.prog Q a W0 := by
  have hlen : (piecesV nn).length = pieceN nn := by unfold piecesV; rw [List.length_map, List.length_range]
  have hget : ∀ i (hi : i < (piecesV nn).length), (piecesV nn)[i] = #[.int .i64 (pieceO nn i : Nat), .int .i64 (pieceW nn i : Nat)] := by
    intro i hi
    simp [piecesV]
  refine iter_law (pieces_iter Bn nn hnn) eg_pieces hg I (fun _ _ => False) hL hI (fun c W W' h _ => h) h0 (fun i => pAct p1 p2 q1 q2 a (pieceO nn i) (pieceW nn i)) ?_ ?_ ?_ ?_ (fun c W h => h.elim)
  · intro i hi; rw [hget i hi]; rfl
  · intro L i hi W K hK
    rw [hget i hi, zip_two]
    exact hassign L _ _ W K hK
  · intro L i hi W hLe hIi hs hr
    exact hbody L i (by rw [← hlen]; exact hi) W hLe hIi hs hr
  · intro W hW hD
    rw [hlen] at hW
    exact hdone W hW hD
theorem byte_leN (l : List Nat) (h : ∀ x ∈ l, x < 256) (j : Nat) (hj : j < l.length) : leN l / 256 ^ j % 256 = l[j] := by
  induction l generalizing j with
  | nil => simp at hj
  | cons a l ih =>
    have ha := h a (by simp)
    cases j with
    | zero => simp [leN]; omega
    | succ j =>
      have := ih (fun x hx => h x (List.mem_cons_of_mem _ hx)) j (by simpa using hj)
      have e : leN (a :: l) / 256 ^ (j + 1) = leN l / 256 ^ j := by
        rw [show 256 ^ (j + 1) = 256 * 256 ^ j by rw [Nat.pow_succ, Nat.mul_comm], ← Nat.div_div_eq_div_mul]
        congr 1
        simp [leN]; omega
      rw [e, this]; rfl
theorem saved_upTo (bs : List Nat) (h : ∀ x ∈ bs, x < 256) (o w : Nat) (ho : o + w ≤ bs.length) : saved (upTo bs o) o (leN (seg bs o w)) w = upTo bs (o + w) := by
  have hl := upTo_len bs o (by omega)
  have hs := seg_len bs o w ho
  apply List.ext_getElem?
  intro j
  rw [saved_get _ _ _ _ _ (by omega)]
  by_cases c : o ≤ j ∧ j < o + w
  · rw [if_pos c]
    have hj : j - o < (seg bs o w).length := by omega
    rw [byte_leN (seg bs o w) (fun x hx => h x (List.mem_of_mem_drop (List.mem_of_mem_take hx))) (j - o) hj]
    have e : (seg bs o w)[j - o]? = bs[j]? := by rw [seg_get _ _ _ _ (by omega), show o + (j - o) = j by omega]
    rw [List.getElem?_eq_getElem hj] at e
    rw [e]
    unfold upTo
    rw [List.getElem?_append_left (by rw [List.length_take]; omega), List.getElem?_take_of_lt (by omega)]
  · rw [if_neg c]
    unfold upTo
    by_cases d : j < o
    · rw [List.getElem?_append_left (by rw [List.length_take]; omega), List.getElem?_append_left (by rw [List.length_take]; omega), List.getElem?_take_of_lt (by omega), List.getElem?_take_of_lt (by omega)]
    · rw [List.getElem?_append_right (by rw [List.length_take]; omega), List.getElem?_append_right (by rw [List.length_take]; omega), List.length_take, List.length_take, List.getElem?_replicate, List.getElem?_replicate]
      by_cases f : j < bs.length
      · rw [if_pos (by omega), if_pos (by omega)]
      · rw [if_neg (by omega), if_neg (by omega)]
/-- bytes that can be read -/
def ByteRow (W : World) (o : Option Addr) (bs : List Nat) : Prop := bs = [] ∨ ∃ g p, o = some ⟨g, p, none⟩ ∧ ∀ i (hi : i < bs.length), W.cell? ⟨g, p + i, none⟩ = some (.int .u8 (bs[i] : Nat))
theorem byteRow_upd {S : Nat → Prop} {W W' : World} {o : Option Addr} {bs : List Nat} (h : ByteRow W o bs) (hu : Upd S W W') (ho : ∀ x, o = some x → ¬ S x.block) : ByteRow W' o bs := by
  rcases h with h | ⟨g, p, rfl, hc⟩
  · exact .inl h
  · exact .inr ⟨g, p, rfl, fun i hi => upd_cell hu (hc i hi) (show ¬ S g from ho ⟨g, p, none⟩ rfl)⟩
end Go.Proofs.YtgkakflnmpoadaaGreatDoor.W
/- Package heap: saveBytes. -/
namespace Go.Proofs.YtgkakflnmpoadaaGreatDoor.W
open Go.ChangeShapes Go.WideShapes Go.RowKit Go.Shelf
set_option linter.unusedVariables false
section
variable {W W' : World} {hb sb : Nat} {vc : Value} {T : Nat → Prop} {H : List (Option Hc)} {u h : Nat}
/-- what makes a cell of bytes -/
structure Mkc (f : List Nat → Hc) (n : Nat) : Prop where
  bytes : ∀ b, (f b).bytes = b
  cl : ∀ b b', (f b).cl = (f b').cl
  ok : ∀ b, (∀ x ∈ b, x < 256) → b.length = n → (f b).ok
theorem bytes_step (g : HLay W hb sb vc T H u h) (f : List Nat → Hc) (bs : List Nat) (hf : Mkc f bs.length) (hb256 : ∀ x ∈ bs, x < 256) (id : Nat) (i : Nat) (hc : H[id]? = some (some (f (upTo bs (pieceO bs.length i))))) (hi : i < pieceN bs.length) :
    Calls Tryz.prog 216 #[.pointer (some ⟨sb, 0, none⟩), .int .i64 id, .int .i64 (pieceO bs.length i : Nat), .int .i64 (pieceW bs.length i : Nat), .int .u64 (leN (seg bs (pieceO bs.length i) (pieceW bs.length i)) : Nat)] W fun e w' => e = .returned (.int .i64 0) ∧ Upd T W w' ∧ HLay w' hb sb vc T (H.set id (some (f (upTo bs (pieceO bs.length (i + 1)))))) u h := by
  have hp := piece_lt bs.length i hi
  have hw : pieceW bs.length i = 1 ∨ pieceW bs.length i = 2 ∨ pieceW bs.length i = 4 ∨ pieceW bs.length i = 8 := by unfold pieceW; split <;> simp
  have hl := upTo_len bs (pieceO bs.length i) (by omega)
  have hs := seg_len bs (pieceO bs.length i) (pieceW bs.length i) hp.1
  have h64 : leN (seg bs (pieceO bs.length i) (pieceW bs.length i)) < 18446744073709551616 := by
    have h1 := leN_lt (seg bs (pieceO bs.length i) (pieceW bs.length i)) (fun x hx => hb256 x (List.mem_of_mem_drop (List.mem_of_mem_take hx)))
    rw [hs] at h1
    exact Nat.lt_of_lt_of_le h1 (pow_le8 _ (by omega))
  have cv := save_st g.st id _ (hA_some hc) (pieceO bs.length i) (pieceW bs.length i) _ h64 hw hp.2 (by rw [hf.bytes, hl]; exact hp.1)
  rw [hf.bytes, saved_upTo bs hb256 _ _ hp.1, ← piece_next] at cv
  refine cv.mono ?_
  rintro e w' ⟨rfl, hU, hS⟩
  have hn := piece_next bs.length i
  have hl2 := upTo_len bs (pieceO bs.length (i + 1)) (by omega)
  exact ⟨rfl, hU, g.saved id _ (f (upTo bs (pieceO bs.length (i + 1)))) hc (hf.cl _ _) (hf.ok _ (upTo_lt bs _ 256 hb256 (by omega)) hl2) hU (by rw [hf.bytes]; exact hS)⟩
theorem saveBytes_c (g : HLay W hb sb vc T H u h) (f : List Nat → Hc) (bs : List Nat) (hf : Mkc f bs.length) (hb256 : ∀ x ∈ bs, x < 256) (hn : bs.length ≤ 8388608) (id : Nat) (hc : H[id]? = some (some (f (List.replicate bs.length 0)))) (o : Option Addr) (cap : Nat) (hcap : bs.length ≤ cap) (hv : ByteRow W o bs) (ho : ∀ x, o = some x → ¬ T x.block ∧ x.block < W.heap.size) :
    Calls Tryz.prog 217 #[.pointer (some ⟨hb, 0, none⟩), .int .i64 id, .slice o bs.length cap] W fun e w' => e = .returned (.tuple #[]) ∧ Upd T W w' ∧ HLay w' hb sb vc T (H.set id (some (f bs))) u h := by
  have hil := (List.getElem?_eq_some_iff.1 hc).1
  have cpc := fun w => pieces_c w bs.length
  refine (callsIn_wide (n := 9)).1 ?_
  refine callsIn_of_wp_marks Tryz.func217 rfl trivial ?_ rfl
  refine wpIn_wide.2 ?_
  simp only [Tryz.ntmps217, List.size_toArray, List.length_cons, List.length_nil, Nat.reduceAdd, Nat.reduceSub, Array.replicate_succ, Array.replicate_zero, List.push_toArray, List.append_toArray, List.nil_append, List.cons_append]
  go_wp2_with (go_at_call 245; (with_reducible refine (cpc _).mono ?_); rintro e w8 ⟨rfl, hw8⟩; (have hw' := hw8.symm); subst hw'; clear hw8)
  have b1 : Below W.heap.size W ((((W.alloc (.cells #[.pointer (some ⟨hb, 0, none⟩)] 25)).alloc (.cells #[.int .i64 id] 3)).alloc (.cells #[.slice o bs.length cap] 62)).alloc (.cells #[.int .i64 (bs.length : Nat)] 3)) := ((((Below.refl _ W).alloc (Nat.le_refl _) _).alloc (by simp) _).alloc (by simp; omega) _).alloc (by simp; omega) _
  have z4 : (((((W.alloc (.cells #[.pointer (some ⟨hb, 0, none⟩)] 25)).alloc (.cells #[.int .i64 id] 3)).alloc (.cells #[.slice o bs.length cap] 62)).alloc (.cells #[.int .i64 (bs.length : Nat)] 3))).heap.size = W.heap.size + 4 := by simp
  have x0 : Boxed ((((W.alloc (.cells #[.pointer (some ⟨hb, 0, none⟩)] 25)).alloc (.cells #[.int .i64 id] 3)).alloc (.cells #[.slice o bs.length cap] 62)).alloc (.cells #[.int .i64 (bs.length : Nat)] 3)) W.heap.size 25 (.pointer (some ⟨hb, 0, none⟩)) := (((Boxed.new W _ _).alloc _).alloc _).alloc _
  have x1 : Boxed ((((W.alloc (.cells #[.pointer (some ⟨hb, 0, none⟩)] 25)).alloc (.cells #[.int .i64 id] 3)).alloc (.cells #[.slice o bs.length cap] 62)).alloc (.cells #[.int .i64 (bs.length : Nat)] 3)) (W.heap.size + 1) 3 (.int .i64 id) := by
    have := ((Boxed.new (W.alloc (.cells #[.pointer (some ⟨hb, 0, none⟩)] 25)) 3 (.int .i64 id)).alloc (.cells #[.slice o bs.length cap] 62)).alloc (.cells #[.int .i64 (bs.length : Nat)] 3)
    rwa [World.size_alloc] at this
  have x2 : Boxed ((((W.alloc (.cells #[.pointer (some ⟨hb, 0, none⟩)] 25)).alloc (.cells #[.int .i64 id] 3)).alloc (.cells #[.slice o bs.length cap] 62)).alloc (.cells #[.int .i64 (bs.length : Nat)] 3)) (W.heap.size + 1 + 1) 62 (.slice o bs.length cap) := by
    have := (Boxed.new ((W.alloc (.cells #[.pointer (some ⟨hb, 0, none⟩)] 25)).alloc (.cells #[.int .i64 id] 3)) 62 (.slice o bs.length cap)).alloc (.cells #[.int .i64 (bs.length : Nat)] 3)
    rwa [World.size_alloc, World.size_alloc] at this
  have x3 : Boxed ((((W.alloc (.cells #[.pointer (some ⟨hb, 0, none⟩)] 25)).alloc (.cells #[.int .i64 id] 3)).alloc (.cells #[.slice o bs.length cap] 62)).alloc (.cells #[.int .i64 (bs.length : Nat)] 3)) (W.heap.size + 1 + 1 + 1) 3 (.int .i64 (bs.length : Nat)) := by
    have := Boxed.new (((W.alloc (.cells #[.pointer (some ⟨hb, 0, none⟩)] 25)).alloc (.cells #[.int .i64 id] 3)).alloc (.cells #[.slice o bs.length cap] 62)) 3 (.int .i64 (bs.length : Nat))
    rwa [World.size_alloc, World.size_alloc, World.size_alloc] at this
  have g4 := g.below b1
  have v4 : ByteRow ((((W.alloc (.cells #[.pointer (some ⟨hb, 0, none⟩)] 25)).alloc (.cells #[.int .i64 id] 3)).alloc (.cells #[.slice o bs.length cap] 62)).alloc (.cells #[.int .i64 (bs.length : Nat)] 3)) o bs := byteRow_upd hv (Upd.of_below (S := fun _ => False) b1) (fun x e hF => hF)
  generalize World.alloc (World.alloc (World.alloc (World.alloc W _) _) _) _ = W4 at *
  have h0 : HLay W4 hb sb vc T (H.set id (some (f (upTo bs (pieceO bs.length 0))))) u h := by
    have e : H.set id (some (f (upTo bs (pieceO bs.length 0)))) = H := by
      apply List.ext_getElem?
      intro i
      by_cases c : i = id
      · subst c; rw [List.getElem?_set_self hil, piece_zero, upTo_zero, hc]
      · rw [List.getElem?_set_ne (Ne.symm c)]
    rw [e]; exact g4
  have hhb := g.hlt
  have hcv := g.clt
  have hst := g.tlt
  refine pieces_law (p1 := 14) (p2 := 15) (W0 := W4) (Bn := W.heap.size + 1 + 1 + 1) bs.length hn rfl
    (fun i W' => HLay W' hb sb vc T (H.set id (some (f (upTo bs (pieceO bs.length i))))) u h ∧ Boxed W' W.heap.size 25 (.pointer (some ⟨hb, 0, none⟩)) ∧ Boxed W' (W.heap.size + 1) 3 (.int .i64 id) ∧ Boxed W' (W.heap.size + 1 + 1) 62 (.slice o bs.length cap) ∧ Boxed W' (W.heap.size + 1 + 1 + 1) 3 (.int .i64 (bs.length : Nat)) ∧ ByteRow W' o bs ∧ Upd T W W')
    ?hL ?hI ⟨h0, x0, x1, x2, x3, v4, Upd.of_below b1⟩ 6 7 ?assign ?body ?done
  case hL =>
    rintro i W' ⟨_, _, _, _, q, _⟩
    exact q.cell
  case hI =>
    rintro i Wa Wb ⟨q1, q2, q3, q4, q5, q6, q7⟩ hu
    refine ⟨q1.upd hu (by omega) (fun k e => by have := hcv k e; omega) (fun k e => by have := hst k e; omega), box_of (hu.block _ q2.lt (by omega)) q2, box_of (hu.block _ q3.lt (by omega)) q3, box_of (hu.block _ q4.lt (by omega)) q4, box_of (hu.block _ q5.lt (by omega)) q5, byteRow_upd q6 hu (fun x e => by have := (ho x e).2; omega), ⟨hu.os.trans q7.os, hu.tape.trans q7.tape, hu.output.trans q7.output, Nat.le_trans q7.size hu.size, fun k hk hT => ?_⟩⟩
    rw [hu.block k (Nat.lt_of_lt_of_le hk q7.size) (by omega)]
    exact q7.block k hk hT
  case assign =>
    intro L x y W' K hK
    gi_wp2_with (simp only [Oper.semAt]; go_simp)
    exact hK
  case done =>
    rintro W' ⟨q1, q2, q3, q4, q5, q6, q7⟩ hD
    rw [piece_end, upTo_all] at q1
    have Q1 := hid q1
    have U7 := hid q7
    have hz7 := q7.size
    clear q1 q2 q3 q4 q5 q6 q7
    go_wp2
    refine ⟨by simp, .inl ⟨_, _, rfl, run_takeDeferred hD, ?_⟩⟩
    refine ⟨_, results_none rfl _ _ _, rfl, U7.out.putObj (.inr ⟨by omega, (Array.getElem?_eq_some_iff.1 hD).1⟩) _, ?_⟩
    exact Q1.out.upd (upd_put (S := fun k => k = W4.heap.size) rfl _) (by omega) (fun k e => by have := hcv k e; omega) (fun k e => by have := hst k e; omega)
  case body =>
    rintro L i hi W' hLe ⟨q1, q2, q3, q4, q5, q6, q7⟩ hs ⟨r, hr⟩
    simp only [pAct, List.setIfInBounds_toArray, List.set_cons_succ, List.set_cons_zero]
    have hp := piece_lt bs.length i hi
    have hw1 : 1 ≤ pieceW bs.length i ∧ pieceW bs.length i ≤ 8 := by unfold pieceW; split <;> simp
    have hsl := seg_len bs (pieceO bs.length i) (pieceW bs.length i) hp.1
    obtain ⟨g0, p0, ho0, hcel⟩ : ∃ g p, o = some ⟨g, p, none⟩ ∧ ∀ i (hi : i < bs.length), W'.cell? ⟨g, p + i, none⟩ = some (.int .u8 (bs[i] : Nat)) := by
      rcases q6 with e | e
      · have : bs.length = 0 := by rw [e]; rfl
        omega
      · exact e
    have hTo := ho _ ho0
    subst ho0
    have cv := bytes_step (q1.same (W' := W'.drew) rfl) f bs hf hb256 id i (List.getElem?_set_self hil) hi
    rw [List.set_set] at cv
    have c0 := q1.cell 0
    simp only [List.getElem?_cons_zero] at c0
    have y0 := q2.cell
    have y1 := q3.cell
    have y2 := q4.cell
    have hcs : ∀ k (hk : k < (seg bs (pieceO bs.length i) (pieceW bs.length i)).length), W'.cell? ⟨g0, p0 + pieceO bs.length i + k, none⟩ = some (.int .u8 ((seg bs (pieceO bs.length i) (pieceW bs.length i))[k] : Nat)) := by
      intro k hk
      have e1 : bs[pieceO bs.length i + k]? = (seg bs (pieceO bs.length i) (pieceW bs.length i))[k]? := (seg_get _ _ _ _ (by omega)).symm
      have hlt : pieceO bs.length i + k < bs.length := by omega
      rw [List.getElem?_eq_getElem hk, List.getElem?_eq_getElem hlt] at e1
      have e2 := hcel (pieceO bs.length i + k) hlt
      rw [Option.some.inj e1, ← Nat.add_assoc] at e2
      exact e2
    have sb256 : ∀ x ∈ seg bs (pieceO bs.length i) (pieceW bs.length i), x < 256 := fun x hx => hb256 x (List.mem_of_mem_drop (List.mem_of_mem_take hx))
    have fin : Hid (∀ w2, Upd T W'.drew w2 → HLay w2 hb sb vc T (H.set id (some (f (upTo bs (pieceO bs.length (i + 1)))))) u h → ((w2.cell? ⟨W.heap.size, 0, none⟩ = some (.pointer (some ⟨hb, 0, none⟩)) ∧ w2.cell? ⟨W.heap.size + 1, 0, none⟩ = some (.int .i64 id) ∧ w2.cell? ⟨hb, 0, none⟩ = some (.pointer (some ⟨sb, 0, none⟩))) ∧ ((w2.heap[L]? = W'.heap[L]? ∧ w2.heap[W4.heap.size]? = W'.heap[W4.heap.size]?) ∧ HLay w2 hb sb vc T (H.set id (some (f (upTo bs (pieceO bs.length (i + 1)))))) u h ∧ Boxed w2 W.heap.size 25 (.pointer (some ⟨hb, 0, none⟩)) ∧ Boxed w2 (W.heap.size + 1) 3 (.int .i64 id) ∧ Boxed w2 (W.heap.size + 1 + 1) 62 (.slice (some ⟨g0, p0, none⟩) bs.length cap) ∧ Boxed w2 (W.heap.size + 1 + 1 + 1) 3 (.int .i64 (bs.length : Nat)) ∧ ByteRow w2 (some ⟨g0, p0, none⟩) bs ∧ Upd T W w2))) := by
      show ∀ w2, _
      intro w2 hU0 hL2
      have hU : Upd T W' w2 := ⟨hU0.os, hU0.tape, hU0.output, hU0.size, hU0.block⟩
      have nT : ∀ k, W.heap.size ≤ k → ¬ T k := fun k hk e => by have := hst k e; omega
      have r0 := box_of (hU.block _ q2.lt (nT _ (by omega))) q2
      have r1 := box_of (hU.block _ q3.lt (nT _ (by omega))) q3
      exact ⟨⟨r0.cell, r1.cell, hL2.cell 0⟩, ⟨hU.block L (by omega) (nT _ (by omega)), hU.block _ (by omega) (nT _ (by omega))⟩, hL2, r0, r1, box_of (hU.block _ q4.lt (nT _ (by omega))) q4, box_of (hU.block _ q5.lt (nT _ (by omega))) q5, byteRow_upd q6 hU (fun x e => by cases e; exact hTo.1), q7.trans' hU⟩
    clear q1 q2 q3 q4 q5 q6 q7 hcel h0 x0 x1 x2 x3 v4 g4 hr hv g
    generalize hsg : seg bs (pieceO bs.length i) (pieceW bs.length i) = sg at *
    generalize pieceO bs.length (i + 1) = oo1 at *
    generalize pieceO bs.length i = oo at *
    generalize pieceW bs.length i = ww at *
    have nw : IntKind.i64.wrap ((oo : Int) + (ww : Int)) = (oo : Int) + (ww : Int) := by rw [IntKind.wrap_i64]; omega
    have n1 : (0 : Int) ≤ oo := by omega
    have n5 : (oo : Int) + (ww : Int) ≤ cap := by omega
    have n6 : ¬ cap = oo := by omega
    have n7 : (0 : Int) ≤ (oo : Int) + (ww : Int) := by omega
    have n8 : (oo : Int) ≤ (oo : Int) + (ww : Int) := by omega
    have n9 : ((oo : Int) + (ww : Int)).toNat - oo = ww := by omega
    have HC := hid hcs
    have HB := hid sb256
    clear hcs sb256 hsg hp hLe z4
    gi_wp2_with (simp only [Oper.semAt]; go_simp)
    gi_loopw [8, 23] (fun x ii wr => ∃ k : Nat, k ≤ ww ∧ x = .int .u64 (leN (sg.take k) : Nat) ∧ ii = .int .i64 k ∧ wr = W') (fun _ ii _ => ww - (intOf ii).toNat)
    case atStart => exact ⟨0, Nat.zero_le _, by simp [leN], rfl, rfl⟩
    case round =>
      obtain ⟨k, hk, rfl, rfl, rfl⟩ := hrel
      have w1 : IntKind.i64.wrap ((k : Int) + 1) = (k : Int) + 1 := by rw [IntKind.wrap_i64]; omega
      have w8 : IntKind.i64.wrap (8 * (k : Int)) = 8 * (k : Int) := by rw [IntKind.wrap_i64]; omega
      by_cases hlt : k < ww
      · have hks : k < sg.length := by omega
        have hx := HC.out k hks
        have st : Hid (bits .or .u64 (leN (sg.take k) : Int) (IntKind.u64.wrap (IntKind.u64.wrap ((sg[k] : Nat) : Int) * 2 ^ (8 * k))) = (leN (sg.take (k + 1)) : Int)) := by
          have l1 : (sg.take k).length = k := by simp; omega
          rw [List.take_succ_eq_append_getElem hks, leN_snoc, l1]
          refine hid (or_byte8 k _ _ (by omega) ?_ (HB.out _ (List.getElem_mem _)))
          have := leN_lt (sg.take k) (fun x hx => HB.out x (List.mem_of_mem_take hx))
          rwa [l1] at this
        have k0 : (0 : Int) ≤ k := by omega
        have k1 : (k : Int) < ww := by omega
        clear HC HB cv fin
        generalize sg[k] = y at *
        gi_wp2_with (simp only [Oper.semAt]; go_simp)
        go_roundw
        case rel => exact ⟨k + 1, hlt, by rw [← st.out, show (8 * (k : Int)).toNat = 8 * k by omega], by go_num, trivial⟩
        case measure => show ww - (k + 1 : Int).toNat < ww - (k : Int).toNat; omega
      · have he : sg.take k = sg := List.take_of_length_le (by omega)
        have k1 : ¬ (k : Int) < ww := by omega
        rw [he]
        clear HC HB he
        gi_wp2_with (simp only [Oper.semAt]; go_simp)
        refine round_held (S := fun w' => w'.cell? ⟨W.heap.size, 0, none⟩ = some (.pointer (some ⟨hb, 0, none⟩)) ∧ w'.cell? ⟨W.heap.size + 1, 0, none⟩ = some (.int .i64 id) ∧ w'.cell? ⟨hb, 0, none⟩ = some (.pointer (some ⟨sb, 0, none⟩))) (by kernel_rfl) (by kernel_rfl) (by rintro ⟨a, w, hF⟩; exact hF) ?_
        have hS : wr.drew.cell? ⟨W.heap.size, 0, none⟩ = some (.pointer (some ⟨hb, 0, none⟩)) ∧ wr.drew.cell? ⟨W.heap.size + 1, 0, none⟩ = some (.int .i64 id) ∧ wr.drew.cell? ⟨hb, 0, none⟩ = some (.pointer (some ⟨sb, 0, none⟩)) := ⟨y0, y1, c0⟩
        (refine wpAnyH_take (i := 0) (v := ?_) rfl (by kernel_rfl) (by kernel_rfl) (by kernel_rfl) (fun _ _ _ h => h) (Or.inl ⟨by rfl, ?_⟩) hS ?_); rotate_left; focus (intro w' hSw; obtain ⟨s1, s2, s3⟩ := hSw; go_simp; (try with_reducible rfl)); (try simp only [Act.put, List.setIfInBounds_toArray, List.set_cons_zero, List.set_cons_succ])
        (refine wpAnyH_take (i := 1) (v := ?_) rfl (by kernel_rfl) (by kernel_rfl) (by kernel_rfl) (fun _ _ _ h => h) (Or.inl ⟨by rfl, ?_⟩) hS ?_); rotate_left; focus (intro w' hSw; obtain ⟨s1, s2, s3⟩ := hSw; go_simp; (try with_reducible rfl)); (try simp only [Act.put, List.setIfInBounds_toArray, List.set_cons_zero, List.set_cons_succ])
        (refine wpAnyH_take (i := 2) (v := ?_) rfl (by kernel_rfl) (by kernel_rfl) (by kernel_rfl) (fun _ _ _ h => h) (Or.inl ⟨by rfl, ?_⟩) hS ?_); rotate_left; focus (intro w' hSw; obtain ⟨s1, s2, s3⟩ := hSw; go_simp; (try with_reducible rfl)); (try simp only [Act.put, List.setIfInBounds_toArray, List.set_cons_zero, List.set_cons_succ])
        (refine wpAnyH_take (i := 3) (v := ?_) rfl (by kernel_rfl) (by kernel_rfl) (by kernel_rfl) (fun _ _ _ h => h) (Or.inl ⟨by rfl, ?_⟩) hS ?_); rotate_left; focus (intro w' hSw; obtain ⟨s1, s2, s3⟩ := hSw; go_simp; (try with_reducible rfl)); (try simp only [Act.put, List.setIfInBounds_toArray, List.set_cons_zero, List.set_cons_succ])
        (refine wpAnyH_take (i := 4) (v := ?_) rfl (by kernel_rfl) (by kernel_rfl) (by kernel_rfl) (fun _ _ _ h => h) (Or.inl ⟨by rfl, ?_⟩) hS ?_); rotate_left; focus (intro w' hSw; obtain ⟨s1, s2, s3⟩ := hSw; go_simp; (try with_reducible rfl)); (try simp only [Act.put, List.setIfInBounds_toArray, List.set_cons_zero, List.set_cons_succ])
        (refine wpAnyH_take (i := 5) (v := ?_) rfl (by kernel_rfl) (by kernel_rfl) (by kernel_rfl) (fun _ _ _ h => h) (Or.inl ⟨by rfl, ?_⟩) hS ?_); rotate_left; focus (intro w' hSw; obtain ⟨s1, s2, s3⟩ := hSw; go_simp; (try with_reducible rfl)); (try simp only [Act.put, List.setIfInBounds_toArray, List.set_cons_zero, List.set_cons_succ])
        (refine wpAnyH_take (i := 6) (v := ?_) rfl (by kernel_rfl) (by kernel_rfl) (by kernel_rfl) (fun _ _ _ h => h) (Or.inl ⟨by rfl, ?_⟩) hS ?_); rotate_left; focus (intro w' hSw; obtain ⟨s1, s2, s3⟩ := hSw; go_simp; (try with_reducible rfl)); (try simp only [Act.put, List.setIfInBounds_toArray, List.set_cons_zero, List.set_cons_succ])
        (refine wpAnyH_take (i := 7) (v := ?_) rfl (by kernel_rfl) (by kernel_rfl) (by kernel_rfl) (fun _ _ _ h => h) (Or.inl ⟨by rfl, ?_⟩) hS ?_); rotate_left; focus (intro w' hSw; obtain ⟨s1, s2, s3⟩ := hSw; go_simp; (try with_reducible rfl)); (try simp only [Act.put, List.setIfInBounds_toArray, List.set_cons_zero, List.set_cons_succ])
        refine wpAnyH_ready (rs := [8]) (by kernel_rfl) (by simp) ?_
        refine AllReadyH.cons rfl (fun K hK => ?_) AllReadyH.nil
        go_simp
        refine cv.mono ?_
        rintro e w2 ⟨rfl, hU2, hL2⟩
        have ff := fin.out w2 hU2 hL2
        refine hK.out _ _ ff.1 (fun hS2 => ?_)
        clear hK K
        refine wpAnyH_done (by kernel_rfl) ?_ _
        exact ff.2
end
end Go.Proofs.YtgkakflnmpoadaaGreatDoor.W
/- Package heap: right, of strings. -/
namespace Go.Proofs.YtgkakflnmpoadaaGreatDoor.W
open Go.ChangeShapes Go.WideShapes Go.RowKit Go.Shelf
set_option linter.unusedVariables false
theorem right_text (t : ByteArray) (ob ow : Option Addr) (bc wc : Nat) (hl : t.size ≤ 8388608) (hb : Nat) (W : World) : Calls Tryz.prog 93 #[.agg #[.int .i64 4, .bool false, .int .i64 0, .string t, .slice ob 0 bc, .slice ow 0 wc, .int .u64 0, .int .i64 0, .int .i64 0], (.func (.func 94) #[.pointer (some ⟨hb, 0, none⟩)] #[])] W fun e w' => e = .returned (.bool true) ∧ Below W.heap.size W w' := by
  have cp := plain_text t ob ow bc wc
  have cs : ∀ w, Calls Tryz.prog 157 #[.int .i64 4, .bool false] w fun e w' => e = .returned (.int .i64 2) ∧ w' = w := fun w => shape_c 4 false w
  unfold cellV at cp
  have hB := (show Below W.heap.size W (W.alloc (.cells #[.int .i64 4, .bool false, .int .i64 0, .string t, .slice ob 0 bc, .slice ow 0 wc, .int .u64 0, .int .i64 0, .int .i64 0] 97)) from (Below.refl _ W).alloc (Nat.le_refl _) _)
  have n0 := World.cell?_alloc_new W #[.int .i64 4, .bool false, .int .i64 0, .string t, .slice ob 0 bc, .slice ow 0 wc, .int .u64 0, .int .i64 0, .int .i64 0] 97 0
  have n1 := World.cell?_alloc_new W #[.int .i64 4, .bool false, .int .i64 0, .string t, .slice ob 0 bc, .slice ow 0 wc, .int .u64 0, .int .i64 0, .int .i64 0] 97 1
  have n3 := World.cell?_alloc_new W #[.int .i64 4, .bool false, .int .i64 0, .string t, .slice ob 0 bc, .slice ow 0 wc, .int .u64 0, .int .i64 0, .int .i64 0] 97 3
  simp only [List.getElem?_toArray, List.getElem?_cons_succ, List.getElem?_cons_zero] at n0 n1 n3
  have l1 : (t.size : Int) ≤ 8388608 := by omega
  have HB := hid hB
  go_enter Tryz.func93, Tryz.ntmps93
  go_wp2_with (first | (go_at_call 156; (with_reducible refine (cp _).mono ?_); rintro e w2 ⟨rfl, hB2⟩; (have z0 := below_cell hB2 n0); (have z1 := below_cell hB2 n1); (have z3 := below_cell hB2 n3); (have HB2 := hid hB2); clear hB2) | (go_at_call 157; (with_reducible refine (cs _).mono ?_); rintro e w' ⟨rfl, hw⟩; (have hw' := hw.symm); subst hw'; clear hw))
  go_ret
  exact ⟨rfl, HB.out.trans (HB2.out.mono HB.out.size)⟩
end Go.Proofs.YtgkakflnmpoadaaGreatDoor.W
/- Package heap: save, of a view and of a row. -/
namespace Go.Proofs.YtgkakflnmpoadaaGreatDoor.W
open Go.ChangeShapes Go.WideShapes Go.RowKit Go.Shelf
set_option linter.unusedVariables false
section
variable {W W' : World} {hb sb : Nat} {vc : Value} {T : Nat → Prop} {H : List (Option Hc)} {u h : Nat}
end
end Go.Proofs.YtgkakflnmpoadaaGreatDoor.W
