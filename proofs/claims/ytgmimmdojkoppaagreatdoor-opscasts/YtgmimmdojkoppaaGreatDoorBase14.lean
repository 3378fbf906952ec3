import Derived.Test.YtgmimmdojkoppaaGreatDoorBase12
import Derived.Test.YtgmimmdojkoppaaGreatDoorBase13
import Derived.Test.YtgmimmdojkoppaaGreatDoorBase11
import Derived.Laws.EntriesVeiled
/- Package heap: size, Need; cells as values. -/
namespace Go.Proofs.YtgmimmdojkoppaaGreatDoor.W
open Go.ChangeShapes Go.WideShapes Go.RowKit Go.Shelf
set_option linter.unusedVariables false
/-- a cell as it is handed over -/
def cellV (k : Int) (v : Bool) (i : Int) (t : ByteArray) (b w : Value) (base : Int) (p n : Int) : Value := .agg #[.int .i64 k, .bool v, .int .i64 i, .string t, b, w, .int .u64 base, .int .i64 p, .int .i64 n]
/-- how many bytes of its own a cell has, whatever cell -/
def sizeV (k : Int) (v : Bool) (tl bl wl : Nat) : Nat := if shp k v = 1 then 8 else if shp k v = 2 then tl else if shp k v = 3 then bl else if shp k v = 5 then wl * 8 else 0
theorem size_c (k : Int) (v : Bool) (i : Int) (t : ByteArray) (ob ow : Option Addr) (bl bc wl wc : Nat) (base p n : Int) (hw : wl ≤ 1000000000) (W : World) :
    Calls Tryz.prog 175 #[cellV k v i t (.slice ob bl bc) (.slice ow wl wc) base p n] W fun e w' => e = .returned (.int .i64 (sizeV k v t.size bl wl : Nat)) ∧ Below W.heap.size W w' := by
  have cs : ∀ w, Calls Tryz.prog 170 #[.int .i64 k, .bool v] w fun e w' => e = .returned (.int .i64 (shp k v)) ∧ w' = w := fun w => shape_c k v w
  unfold cellV sizeV
  generalize shp k v = s at *
  have hB := (show Below W.heap.size W (W.alloc (.cells #[.int .i64 k, .bool v, .int .i64 i, .string t, .slice ob bl bc, .slice ow wl wc, .int .u64 base, .int .i64 p, .int .i64 n] 99)) from (Below.refl _ W).alloc (Nat.le_refl _) _)
  have hw8 : IntKind.i64.wrap ((wl : Int) * 8) = (wl : Int) * 8 := by rw [IntKind.wrap_i64]; omega
  by_cases h1 : s = 1
  · subst h1
    rw [if_pos rfl]
    go_enter Tryz.func175, Tryz.ntmps175
    go_wp2_with (go_at_call 170; (with_reducible refine (cs _).mono ?_); rintro e w' ⟨rfl, hw⟩; (have hw' := hw.symm); subst hw'; clear hw)
    go_ret
    exact ⟨rfl, hB⟩
  rw [if_neg h1]
  by_cases h2 : s = 2
  · subst h2
    rw [if_pos rfl]
    go_enter Tryz.func175, Tryz.ntmps175
    go_wp2_with (go_at_call 170; (with_reducible refine (cs _).mono ?_); rintro e w' ⟨rfl, hw⟩; (have hw' := hw.symm); subst hw'; clear hw)
    go_ret
    exact ⟨rfl, hB⟩
  rw [if_neg h2]
  by_cases h3 : s = 3
  · subst h3
    rw [if_pos rfl]
    go_enter Tryz.func175, Tryz.ntmps175
    go_wp2_with (go_at_call 170; (with_reducible refine (cs _).mono ?_); rintro e w' ⟨rfl, hw⟩; (have hw' := hw.symm); subst hw'; clear hw)
    go_ret
    exact ⟨rfl, hB⟩
  rw [if_neg h3]
  by_cases h5 : s = 5
  · subst h5
    rw [if_pos rfl]
    go_enter Tryz.func175, Tryz.ntmps175
    go_wp2_with (go_at_call 170; (with_reducible refine (cs _).mono ?_); rintro e w' ⟨rfl, hw⟩; (have hw' := hw.symm); subst hw'; clear hw)
    go_ret
    exact ⟨rfl, hB⟩
  rw [if_neg h5]
  go_enter Tryz.func175, Tryz.ntmps175
  go_wp2_with (go_at_call 170; (with_reducible refine (cs _).mono ?_); rintro e w' ⟨rfl, hw⟩; (have hw' := hw.symm); subst hw'; clear hw)
  go_ret
  exact ⟨rfl, hB⟩
theorem sizeV_le (k : Int) (v : Bool) (tl bl wl : Nat) (h1 : tl ≤ 80000000) (h2 : bl ≤ 80000000) (h3 : wl ≤ 10000000) : sizeV k v tl bl wl ≤ 80000000 := by
  unfold sizeV
  repeat' split
  all_goals omega
theorem need_c (k : Int) (v : Bool) (i : Int) (t : ByteArray) (ob ow : Option Addr) (bl bc wl wc : Nat) (base p n : Int) (ht : t.size ≤ 80000000) (hbl : bl ≤ 80000000) (hw : wl ≤ 10000000) (W : World) :
    Calls Tryz.prog 129 #[cellV k v i t (.slice ob bl bc) (.slice ow wl wc) base p n] W fun e w' => e = .returned (.int .i64 (1 + (sizeV k v t.size bl wl + 7) / 8 : Nat)) ∧ Below W.heap.size W w' := by
  have cs : ∀ w, Calls Tryz.prog 175 #[cellV k v i t (.slice ob bl bc) (.slice ow wl wc) base p n] w fun e w' => e = .returned (.int .i64 (sizeV k v t.size bl wl : Nat)) ∧ Below w.heap.size w w' := fun w => size_c k v i t ob ow bl bc wl wc base p n (by omega) w
  have hs := sizeV_le k v t.size bl wl ht hbl hw
  generalize sizeV k v t.size bl wl = z at *
  have cu : ∀ w, Calls Tryz.prog 174 #[.int .i64 z] w fun e w' => e = .returned (.int .i64 (1 + (z + 7) / 8 : Nat)) ∧ w' = w := fun w => unitsOf_c z (by omega) w
  unfold cellV at *
  have hB := (show Below W.heap.size W (W.alloc (.cells #[.int .i64 k, .bool v, .int .i64 i, .string t, .slice ob bl bc, .slice ow wl wc, .int .u64 base, .int .i64 p, .int .i64 n] 99)) from (Below.refl _ W).alloc (Nat.le_refl _) _)
  go_enter Tryz.func129, Tryz.ntmps129
  go_wp2_with (first | (go_at_call 175; (with_reducible refine (cs _).mono ?_); rintro e w2 ⟨rfl, hB2⟩) | (go_at_call 174; (with_reducible refine (cu _).mono ?_); rintro e w' ⟨rfl, hw⟩; (have hw' := hw.symm); subst hw'; clear hw))
  go_ret
  exact ⟨rfl, hB.trans (hB2.mono hB.size)⟩
end Go.Proofs.YtgmimmdojkoppaaGreatDoor.W
/- Package heap: bytes of a cell are written: save, of a number. -/
namespace Go.Proofs.YtgmimmdojkoppaaGreatDoor.W
open Go.ChangeShapes Go.WideShapes Go.RowKit Go.Shelf
set_option linter.unusedVariables false
theorem le8_get (x j : Nat) (h : j < 8) : (le8 x)[j]? = some (x / 256 ^ j % 256) := by
  unfold le8; rw [List.getElem?_map, List.getElem?_range h]; rfl
theorem saved_le8 (y : List Nat) (x : Nat) (h : y.length = 8) : saved y 0 x 8 = le8 x := by
  apply List.ext_getElem?
  intro j
  rw [saved_get _ _ _ _ _ (by omega)]
  by_cases hj : j < 8
  · rw [if_pos (by omega), le8_get x j hj, Nat.sub_zero]
  · rw [if_neg (by omega), List.getElem?_eq_none (by omega), List.getElem?_eq_none (by rw [le8_len]; omega)]
theorem flatC_same (H : List (Option Hc)) (i : Nat) (c d : Option Hc) (hc : H[i]? = some c) (he : clO d = clO c) : flatC (H.set i d) = flatC H := by
  induction H generalizing i with
  | nil => simp at hc
  | cons a H ih =>
    cases i with
    | zero =>
      simp at hc; subst hc
      rw [List.set_cons_zero, flatC_cons, flatC_cons, he]
    | succ i =>
      simp at hc
      rw [List.set_cons_succ, flatC_cons, flatC_cons, ih i hc]
section
variable {W W' : World} {hb sb : Nat} {vc : Value} {T : Nat → Prop} {H : List (Option Hc)} {u h : Nat}
/-- a cell's bytes are others -/
theorem HLay.saved (g : HLay W hb sb vc T H u h) (i : Nat) (c d : Hc) (hc : H[i]? = some (some c)) (he : d.cl = c.cl) (hd : d.ok) (hU : Upd T W W') (hS : St W' T sb ((hA H).set i (some d.bytes)) 8388608 1048577) : HLay W' hb sb vc T (H.set i (some d)) u h := by
  have hil := (List.getElem?_eq_some_iff.1 hc).1
  refine ⟨(hU.block hb g.hlt g.thb).trans g.obj, ?_, ?_, fun k e => Nat.lt_of_lt_of_le (g.tlt k e) hU.size, g.thb, g.tvc, ?_, by rw [List.length_set]; exact g.len, g.u1, g.h1⟩
  · rw [List.length_set, flatC_same H i (some c) (some d) hc he]
    exact owns_on g.own (fun k e => hU.block k (g.clt k e) (g.tvc k e))
  · rw [← hA_set]; exact hS
  · intro j e hj
    by_cases hij : j = i
    · subst hij
      rw [List.getElem?_set_self hil] at hj
      cases hj; exact hd
    · rw [List.getElem?_set_ne (Ne.symm hij)] at hj
      exact g.ok j e hj
theorem save_num (g : HLay W hb sb vc T H u h) (id : Nat) (i j : Int) (hc : H[id]? = some (some (.num j))) (h0 : -9223372036854775808 ≤ i) (h1 : i < 9223372036854775808) (ob ow : Option Addr) (bc wc : Nat) :
    Calls Tryz.prog 182 #[.pointer (some ⟨hb, 0, none⟩), .int .i64 id, .agg #[.int .i64 2, .bool false, .int .i64 i, .string ByteArray.empty, .slice ob 0 bc, .slice ow 0 wc, .int .u64 0, .int .i64 0, .int .i64 0]] W fun e w' => e = .returned (.tuple #[]) ∧ Upd T W w' ∧ HLay w' hb sb vc T (H.set id (some (.num i))) u h := by
  have hBa : Below W.heap.size W (W.alloc (.cells #[.int .i64 2, .bool false, .int .i64 i, .string ByteArray.empty, .slice ob 0 bc, .slice ow 0 wc, .int .u64 0, .int .i64 0, .int .i64 0] 99)) := (Below.refl _ W).alloc (Nat.le_refl _) _
  have ga := g.below hBa
  have hn : (i % 18446744073709551616).toNat < 18446744073709551616 := by omega
  have cv := save_st (ga.same (W' := (W.alloc (.cells #[.int .i64 2, .bool false, .int .i64 i, .string ByteArray.empty, .slice ob 0 bc, .slice ow 0 wc, .int .u64 0, .int .i64 0, .int .i64 0] 99)).drew) rfl).st id _ (hA_some hc) 0 8 (i % 18446744073709551616).toNat hn (.inr (.inr (.inr rfl))) (by omega) (by show 0 + 8 ≤ (le8 _).length; rw [le8_len]; omega)
  have e8 : saved (Hc.num j).bytes 0 (i % 18446744073709551616).toNat 8 = (Hc.num i).bytes := saved_le8 _ _ (le8_len _)
  rw [e8] at cv
  have ew : (((i % 18446744073709551616).toNat : Nat) : Int) = IntKind.u64.wrap i := by rw [IntKind.wrap_u64]; omega
  rw [ew, show ((0 : Nat) : Int) = 0 from rfl, show ((8 : Nat) : Int) = 8 from rfl] at cv
  have cs : ∀ w, Calls Tryz.prog 170 #[.int .i64 2, .bool false] w fun e w' => e = .returned (.int .i64 1) ∧ w' = w := fun w => shape_c 2 false w
  have fin : Hid (∀ w2, Upd T (W.alloc (.cells #[.int .i64 2, .bool false, .int .i64 i, .string ByteArray.empty, .slice ob 0 bc, .slice ow 0 wc, .int .u64 0, .int .i64 0, .int .i64 0] 99)) w2 → St w2 T sb ((hA H).set id (some (Hc.num i).bytes)) 8388608 1048577 → Upd T W w2 ∧ HLay w2 hb sb vc T (H.set id (some (.num i))) u h) := by
    show ∀ w2, _
    intro w2 hU2 hS2
    exact ⟨(Upd.of_below hBa).trans' hU2, ga.saved id _ (.num i) hc rfl ⟨h0, h1⟩ hU2 hS2⟩
  have c0 := ga.cell 0
  simp only [List.getElem?_cons_zero] at c0
  have c2 := World.cell?_alloc_new W #[.int .i64 2, .bool false, .int .i64 i, .string ByteArray.empty, .slice ob 0 bc, .slice ow 0 wc, .int .u64 0, .int .i64 0, .int .i64 0] 99 2
  simp only [List.getElem?_toArray, List.getElem?_cons_succ, List.getElem?_cons_zero] at c2
  have keep : Hid (∀ w2, Upd T (W.alloc (.cells #[.int .i64 2, .bool false, .int .i64 i, .string ByteArray.empty, .slice ob 0 bc, .slice ow 0 wc, .int .u64 0, .int .i64 0, .int .i64 0] 99)).drew w2 → w2.cell? ⟨hb, 0, none⟩ = some (.pointer (some ⟨sb, 0, none⟩)) ∧ w2.cell? ⟨W.heap.size, 2, none⟩ = some (.int .i64 i)) := by
    show ∀ w2, _
    intro w2 hU2
    have e1 := hU2.block hb ga.hlt g.thb
    have e2 := hU2.block W.heap.size (by show _ < (W.alloc _).heap.size; rw [World.size_alloc]; omega) (fun e => by have := g.tlt _ e; omega)
    exact ⟨(World.cell?_of_block e1).trans c0, (World.cell?_of_block e2).trans c2⟩
  clear ga e8 ew hn
  go_enter Tryz.func182, Tryz.ntmps182
  go_wp2_with (go_at_call 170; (with_reducible refine (cs _).mono ?_); rintro e w' ⟨rfl, hw⟩; (have hw' := hw.symm); subst hw'; clear hw)
  go_region_held3 (fun w' => w'.cell? ⟨hb, 0, none⟩ = some (.pointer (some ⟨sb, 0, none⟩)) ∧ w'.cell? ⟨W.heap.size, 2, none⟩ = some (.int .i64 i)) (first | exact ⟨c0, c2⟩ | exact k2) (first | (go_at_call 223; (with_reducible refine cv.mono ?_); rintro e w2 ⟨rfl, hU2, hS2⟩; (have k2 := keep.out w2 hU2); clear cv keep c0 c2))
  have hf := fin.out w2 ⟨hU2.os, hU2.tape, hU2.output, hU2.size, hU2.block⟩ hS2
  go_wp2
  go_end0
  exact ⟨rfl, hf.1, hf.2⟩
end
end Go.Proofs.YtgmimmdojkoppaaGreatDoor.W
/- The heap in plain words: marking what is reached. -/
namespace Go.Proofs.YtgmimmdojkoppaaGreatDoor.W
set_option linter.unusedVariables false
/-- what is marked needs -/
def needR : List (Option Hc) → List Bool → Nat
  | c :: H, b :: R => (if b = true then needO c else 0) + needR H R
  | _, _ => 0
theorem needR_set (H : List (Option Hc)) (R : List Bool) (i : Nat) (c : Option Hc) (hl : R.length = H.length) (hc : H[i]? = some c) (hr : R[i]? = some false) : needR H (R.set i true) = needR H R + needO c := by
  induction H generalizing R i with
  | nil => simp at hc
  | cons a H ih =>
    cases R with
    | nil => simp at hr
    | cons b R =>
      cases i with
      | zero =>
        simp at hc hr; subst hc; subst hr
        simp only [List.set_cons_zero, needR]
        simp
        omega
      | succ i =>
        simp at hc hr hl
        simp only [List.set_cons_succ, needR]
        rw [ih R i hl hc hr]; omega
theorem needR_le (H : List (Option Hc)) (R : List Bool) : needR H R ≤ sumH H := by
  induction H generalizing R with
  | nil => exact Nat.le_refl _
  | cons a H ih =>
    cases R with
    | nil => exact Nat.zero_le _
    | cons b R =>
      simp only [needR, sumH_cons]
      have := ih R
      split <;> omega
theorem needR_false (H : List (Option Hc)) (n : Nat) : needR H (List.replicate n false) = 0 := by
  induction H generalizing n with
  | nil => rfl
  | cons a H ih =>
    cases n with
    | zero => rfl
    | succ n => simp only [List.replicate_succ, needR, ih]; simp
/-- how many are not marked -/
def unmarked (R : List Bool) : Nat := (R.filter (fun b => !b)).length
theorem unmarked_set (R : List Bool) (i : Nat) (hr : R[i]? = some false) : unmarked (R.set i true) + 1 = unmarked R := by
  induction R generalizing i with
  | nil => simp at hr
  | cons b R ih =>
    cases i with
    | zero => simp at hr; subst hr; simp [unmarked]
    | succ i =>
      simp at hr
      have := ih i hr
      unfold unmarked at *
      rw [List.set_cons_succ, List.filter_cons, List.filter_cons]
      split
      · rw [List.length_cons, List.length_cons]; omega
      · exact this
/-- marking under way: R marked, O of them still open, cur under work -/
structure Rinv (H : List (Option Hc)) (ws : List Nat) (R : List Bool) (O : List Nat) (cur : Nat → Prop) : Prop where
  len : R.length = H.length
  sound : ∀ i : Nat, R[i]? = some true → Rch H ws i
  opn : ∀ i ∈ O, R[i]? = some true
  shut : ∀ (i : Nat) c, R[i]? = some true → i ∉ O → ¬ cur i → H[i]? = some (some c) → ∀ w ∈ c.succ, ∀ j, hit H w = some j → R[j]? = some true
section
variable {H : List (Option Hc)} {ws : List Nat} {R : List Bool} {O : List Nat} {cur : Nat → Prop}
theorem Rch.live {i : Nat} (h : Rch H ws i) : ∃ c, H[i]? = some (some c) := by
  have key : ∀ {w i : Nat}, hit H w = some i → ∃ c, H[i]? = some (some c) := by
    intro w i hh
    unfold hit at hh
    split at hh
    · rename_i hc
      cases hh
      have := hc.2
      cases e : H[w % 281474976710656]? with
      | none => rw [e] at this; simp at this
      | some x =>
        cases x with
        | none => rw [e] at this; simp at this
        | some c => exact ⟨c, rfl⟩
    · cases hh
  cases h with
  | root w i hw hh => exact key hh
  | step j i w c hj hc hw hh => exact key hh
theorem set_true {R : List Bool} {i j : Nat} (h : R[j]? = some true) : (R.set i true)[j]? = some true := by
  by_cases e : i = j
  · subst e; rw [List.getElem?_set_self (List.getElem?_eq_some_iff.1 h).1]
  · rw [List.getElem?_set_ne e]; exact h
theorem Rinv.mark (h : Rinv H ws R O cur) {i : Nat} (hi : Rch H ws i) (hr : R[i]? = some false) : Rinv H ws (R.set i true) (O ++ [i]) cur := by
  have hil := (List.getElem?_eq_some_iff.1 hr).1
  refine ⟨by rw [List.length_set]; exact h.len, ?_, ?_, ?_⟩
  · intro j hj
    by_cases e : i = j
    · subst e; exact hi
    · rw [List.getElem?_set_ne e] at hj; exact h.sound j hj
  · intro j hj
    rcases List.mem_append.1 hj with hj | hj
    · exact set_true (h.opn j hj)
    · simp at hj; subst hj; rw [List.getElem?_set_self hil]
  · intro j c hj hno hcur hc w hw k hk
    have e : i ≠ j := by rintro rfl; exact hno (by simp)
    rw [List.getElem?_set_ne e] at hj
    exact set_true (h.shut j c hj (fun hm => hno (List.mem_append_left _ hm)) hcur hc w hw k hk)
theorem Rinv.pop {i : Nat} (h : Rinv H ws R (O ++ [i]) (fun _ => False)) : Rinv H ws R O (fun j => j = i) := by
  refine ⟨h.len, h.sound, fun j hj => h.opn j (List.mem_append_left _ hj), ?_⟩
  intro j c hj hno hcur hc
  refine h.shut j c hj ?_ (fun f => f) hc
  intro hm
  rcases List.mem_append.1 hm with hm | hm
  · exact hno hm
  · simp at hm; exact hcur hm
theorem Rinv.close {i : Nat} {c : Hc} (h : Rinv H ws R O (fun j => j = i)) (hc : H[i]? = some (some c)) (hs : ∀ w ∈ c.succ, ∀ j, hit H w = some j → R[j]? = some true) : Rinv H ws R O (fun _ => False) := by
  refine ⟨h.len, h.sound, h.opn, ?_⟩
  intro j d hj hno _ hd
  by_cases e : j = i
  · subst e
    rw [hc] at hd; cases hd
    exact hs
  · exact h.shut j d hj hno e hd
theorem Rinv.done (h : Rinv H ws R [] (fun _ => False)) (hw : ∀ w ∈ ws, ∀ j, hit H w = some j → R[j]? = some true) (i : Nat) : R[i]? = some true ↔ Rch H ws i := by
  refine ⟨h.sound i, fun hr => ?_⟩
  induction hr with
  | root w i hm hh => exact hw w hm i hh
  | step j i w c hj hc hm hh ih => exact h.shut j c ih (by simp) (fun f => f) hc w hm i hh
end
/-- marking a word: marked, open, needed -/
def markP (H : List (Option Hc)) (s : List Bool × List Nat × Nat) (w : Nat) : List Bool × List Nat × Nat :=
  match hit H w with
  | none => s
  | some i => if s.1[i]? = some false then (s.1.set i true, s.2.1 ++ [i], s.2.2 + needO ((H[i]?).getD none)) else s
/-- one marking in all its ways -/
structure Mk (H : List (Option Hc)) (ws : List Nat) (s : List Bool × List Nat × Nat) (cur : Nat → Prop) : Prop where
  inv : Rinv H ws s.1 s.2.1 cur
  need : s.2.2 = needR H s.1
theorem Rinv.get {H : List (Option Hc)} {ws : List Nat} {R : List Bool} {O : List Nat} {cur : Nat → Prop} (h : Rinv H ws R O cur) {i : Nat} {c : Hc} (hc : H[i]? = some (some c)) : R[i]? = some true ∨ R[i]? = some false := by
  have hi : i < R.length := by rw [h.len]; exact (List.getElem?_eq_some_iff.1 hc).1
  rw [List.getElem?_eq_getElem hi]
  cases R[i] <;> simp
theorem hit_live {H : List (Option Hc)} {w i : Nat} (hh : hit H w = some i) : ∃ c, H[i]? = some (some c) := (Rch.root (ws := [w]) w i (by simp) hh).live
theorem Mk.mark {H : List (Option Hc)} {ws : List Nat} {s : List Bool × List Nat × Nat} {cur : Nat → Prop} (h : Mk H ws s cur) (w : Nat) (hw : ∀ i, hit H w = some i → Rch H ws i) : Mk H ws (markP H s w) cur ∧ (∀ j, hit H w = some j → (markP H s w).1[j]? = some true) ∧ (∀ j : Nat, s.1[j]? = some true → (markP H s w).1[j]? = some true) ∧ 2 * unmarked (markP H s w).1 + (markP H s w).2.1.length ≤ 2 * unmarked s.1 + s.2.1.length := by
  unfold markP
  cases hh : hit H w with
  | none =>
    refine ⟨h, ?_, fun j e => e, Nat.le_refl _⟩
    intro j e; cases e
  | some i =>
    obtain ⟨c, hc⟩ := hit_live hh
    simp only
    by_cases hr : s.1[i]? = some false
    · rw [if_pos hr]
      refine ⟨⟨h.inv.mark (hw i hh) hr, ?_⟩, ?_, fun j e => set_true e, ?_⟩
      · show s.2.2 + _ = _
        rw [hc, needR_set H s.1 i (some c) h.inv.len hc hr, h.need]; rfl
      · intro j e; cases e
        show (s.1.set i true)[i]? = _
        rw [List.getElem?_set_self (List.getElem?_eq_some_iff.1 hr).1]
      · have := unmarked_set s.1 i hr
        show 2 * unmarked (s.1.set i true) + (s.2.1 ++ [i]).length ≤ _
        rw [List.length_append]
        simp only [List.length_cons, List.length_nil]
        omega
    · rw [if_neg hr]
      refine ⟨h, ?_, fun j e => e, Nat.le_refl _⟩
      intro j e; cases e
      rcases h.inv.get hc with e | e
      · exact e
      · exact absurd e hr
theorem Mk.start (H : List (Option Hc)) (ws : List Nat) : Mk H ws (List.replicate H.length false, [], 0) (fun _ => False) := by
  refine ⟨⟨by simp, ?_, by simp, ?_⟩, (needR_false H _).symm⟩
  · intro i hi; simp [List.getElem?_replicate] at hi
  · intro i c hi; simp [List.getElem?_replicate] at hi
end Go.Proofs.YtgmimmdojkoppaaGreatDoor.W
/- Package heap: the closure that marks. -/
namespace Go.Proofs.YtgmimmdojkoppaaGreatDoor.W
open Go.ChangeShapes Go.WideShapes Go.RowKit Go.Shelf
set_option linter.unusedVariables false
/-- what reach works on: its boxes, its rows, all from B0 on -/
structure RSt (W : World) (B0 Bh Br Bn Bo hb : Nat) (vr vo : Value) (s : List Bool × List Nat × Nat) : Prop where
  bh : Boxed W Bh 23 (.pointer (some ⟨hb, 0, none⟩))
  br : Boxed W Br 153 vr
  bn : Boxed W Bn 3 (.int .i64 (s.2.2 : Nat))
  bo : Boxed W Bo 70 vo
  rrow : W.ownsRow B0 4 1 vr s.1.length (s.1.map .bool)
  orow : W.ownsRow B0 3 1 vo s.2.1.length (s.2.1.map (fun i => .int .i64 (i : Nat)))
  ne : vo.ownBlock ≠ some Bn
  l1 : B0 ≤ Bh
  l2 : B0 ≤ Br
  l3 : B0 ≤ Bn
  l4 : B0 ≤ Bo
/-- what marking may change -/
def RB (Bn Bo : Nat) (vr vo : Value) : Nat → Prop := fun k => k = Bn ∨ k = Bo ∨ vr.ownBlock = some k ∨ vo.ownBlock = some k
/-- a heap lies wholly below B0 -/
structure Low (B0 hb : Nat) (vc : Value) (T : Nat → Prop) : Prop where
  hb : hb < B0
  vc : ∀ k, vc.ownBlock = some k → k < B0
  st : ∀ k, T k → k < B0
section
variable {W W' : World} {hb sb B0 Bh Br Bn Bo : Nat} {vc vr vo : Value} {T : Nat → Prop} {H : List (Option Hc)} {u h : Nat} {s : List Bool × List Nat × Nat}
theorem HLay.low (g : HLay W hb sb vc T H u h) (l : Low B0 hb vc T) (hb' : Below B0 W W') : HLay W' hb sb vc T H u h :=
  g.kept hb'.size (hb'.block _ l.hb) (fun k e => hb'.block k (l.vc k e)) (fun k e => hb'.block k (l.st k e))
theorem RSt.below (r : RSt W B0 Bh Br Bn Bo hb vr vo s) (hb' : Below W.heap.size W W') : RSt W' B0 Bh Br Bn Bo hb vr vo s := by
  have k : ∀ {B t v}, Boxed W B t v → Boxed W' B t v := fun b => box_of (hb'.block _ b.lt) b
  exact ⟨k r.bh, k r.br, k r.bn, k r.bo, owns_on r.rrow (fun _ e => hb'.block _ (r.rrow.lt _ e).2), owns_on r.orow (fun _ e => hb'.block _ (r.orow.lt _ e).2), r.ne, r.l1, r.l2, r.l3, r.l4⟩
theorem RSt.need {R : List Bool} {O : List Nat} {m n : Nat} (r : RSt W B0 Bh Br Bn Bo hb vr vo (R, O, m)) (hw : IntKind.i64.wrap ((m : Int) + (n : Nat)) = ((m + n : Nat) : Int)) : RSt (W.setCell ⟨Bn, 0, none⟩ (.int .i64 ((m : Nat) + (n : Nat) : Int))).drew B0 Bh Br Bn Bo hb vr vo (R, O, m + n) := by
  have hne : ∀ {B t v}, Boxed W B t v → t ≠ 3 → Boxed (W.setCell ⟨Bn, 0, none⟩ (.int .i64 ((m : Nat) + (n : Nat) : Int))) B t v := by
    intro B t v hbx ht
    refine box_set hbx ?_
    rintro rfl
    have := r.bn
    unfold Boxed at this hbx
    rw [this] at hbx
    cases hbx
    exact ht rfl
  have hrow : ∀ {k}, vr.ownBlock = some k → k ≠ Bn := by
    rintro k e rfl
    rcases r.rrow.2 with ⟨h0, _⟩ | ⟨g', cap', cur, h0, _, hgg, _⟩
    · rw [h0] at e; cases e
    · rw [h0] at e
      cases e
      have := r.bn
      unfold Boxed at this
      rw [hgg] at this
      cases this
  refine ⟨hne r.bh (by decide), hne r.br (by decide), ?_, hne r.bo (by decide), owns_on r.rrow (fun k e => Below.heap_setCell _ _ _ _ (hrow e)), owns_on r.orow (fun k e => Below.heap_setCell _ _ _ _ (by rintro rfl; exact r.ne e)), r.ne, r.l1, r.l2, r.l3, r.l4⟩
  have e : (((m, n).1 + (m, n).2 : Nat) : Int) = (m : Int) + (n : Nat) := by simp
  have := r.bn.set (.int .i64 ((m : Nat) + (n : Nat) : Int))
  show Boxed _ Bn 3 (.int .i64 ((m + n : Nat) : Int))
  rw [Int.natCast_add]
  exact this
theorem RSt.push {R : List Bool} {O : List Nat} {m : Nat} (r : RSt W B0 Bh Br Bn Bo hb vr vo (R, O, m)) (hB : B0 ≤ W.heap.size) (hO : O.length ≤ 100000000) (i : Nat) (ty : TypeId) :
    ∃ v' w', (Builtin.append_ #[70, 70] ty #[vo, .slice (some ⟨W.heap.size, 0, none⟩) 1 1]).run Tryz.prog (W.alloc (.cells #[.int .i64 (i : Nat)] 3)) = .ok v' w' ∧ w'.cell? ⟨Bo, 0, none⟩ = some vo ∧ w'.frozen? ⟨Bo, 0, none⟩ = false ∧ RSt (w'.setCell ⟨Bo, 0, none⟩ v') B0 Bh Br Bn Bo hb vr v' (R, O ++ [i], m) ∧ Upd (RB Bn Bo vr vo) W (w'.setCell ⟨Bo, 0, none⟩ v') ∧ ∀ k, v'.ownBlock = some k → vo.ownBlock = some k ∨ W.heap.size ≤ k := by
  obtain ⟨i0, hi, hz0, hz1, hz2⟩ := info_parts info3
  have ra : RSt (W.alloc (.cells #[.int .i64 (i : Nat)] 3)) B0 Bh Br Bn Bo hb vr vo (R, O, m) := r.below ((Below.refl _ W).alloc (Nat.le_refl _) _)
  have hnew : (W.alloc (.cells #[.int .i64 (i : Nat)] 3)).cell? ((⟨W.heap.size, 0, none⟩ : Addr).add 0) = some (.int .i64 (i : Nat)) := by simp [Addr.add]
  obtain ⟨v', w', hr, ho, hg, hat⟩ := append_at (P := Tryz.prog) (W.alloc (.cells #[.int .i64 (i : Nat)] 3)) 70 ty 3 i0 (.int .i64 0) 1 8 under34 hi hz0 hz1 hz2 rfl (by decide) vo O.length _ (owns_base ra.orow (b' := 0) (fun _ _ => Nat.zero_le _)) ⟨W.heap.size, 0, none⟩ 1 1 [.int .i64 (i : Nat)] rfl (by
    intro j x hj
    match j, hj with
    | 0, hj => simp at hj; subst hj; exact hnew) (by intro x hx; simp at hx; subst hx; rfl) (by decide) (by decide) (by omega)
  have hU : Upd (fun k => vo.ownBlock = some k) (W.alloc (.cells #[.int .i64 (i : Nat)] 3)) w' := (Upd.refl _ _).grown hg (fun k e => .inl e)
  have hbk : ∀ {B t v}, Boxed (W.alloc (.cells #[.int .i64 (i : Nat)] 3)) B t v → vo.ownBlock ≠ some B → Boxed w' B t v := fun b hn => box_of (hU.block _ b.lt (fun e => hn e)) b
  have nh := own_ne (owns_base ra.orow (b' := 0) (fun _ _ => Nat.zero_le _)) ra.bh (by decide)
  have nr := own_ne (owns_base ra.orow (b' := 0) (fun _ _ => Nat.zero_le _)) ra.br (by decide)
  have no := own_ne (owns_base ra.orow (b' := 0) (fun _ _ => Nat.zero_le _)) ra.bo (by decide)
  have b1 := hbk ra.bh nh.symm
  have b2 := hbk ra.br nr.symm
  have b3 := hbk ra.bn ra.ne
  have b4 := hbk ra.bo no.symm
  have rr : w'.ownsRow B0 4 1 vr R.length (R.map .bool) := by
    refine owns_on ra.rrow (fun k e => hU.block k (ra.rrow.lt k e).2 ?_)
    intro e2
    rcases ra.rrow.2 with ⟨h0, _⟩ | ⟨g', cap', cur, h0, _, hgg, _⟩
    · rw [h0] at e; cases e
    · rw [h0] at e
      cases e
      exact own_ne (owns_base ra.orow (b' := 0) (fun _ _ => Nat.zero_le _)) hgg (by decide) e2.symm
  have hUw : Upd (RB Bn Bo vr vo) W w' := ((Upd.refl _ W).alloc _).trans' (hU.mono (fun k e => .inr (.inr (.inr e))))
  have hbs : ∀ {B t v}, Boxed w' B t v → t ≠ 70 → Boxed (w'.setCell ⟨Bo, 0, none⟩ v') B t v := by
    intro B t v hbx ht
    refine box_set hbx ?_
    rintro rfl
    unfold Boxed at b4 hbx
    rw [b4] at hbx
    cases hbx
    exact ht rfl
  have hv' : v'.ownBlock ≠ some Bo := (own_ne ho b4 (by decide)).symm
  have lo : ∀ k, v'.ownBlock = some k → B0 ≤ k := by
    intro k e
    rcases hat k e with e | e
    · exact (ra.orow.lt k e).1
    · have := e.1; rw [World.size_alloc] at this; omega
  refine ⟨v', w', hr, b4.cell, b4.frozen, ⟨hbs b1 (by decide), hbs b2 (by decide), hbs b3 (by decide), b4.set _, ?_, ?_, ?_, r.l1, r.l2, r.l3, r.l4⟩, ?_, ?_⟩
  · refine owns_on rr (fun k e => Below.heap_setCell _ _ _ _ ?_)
    rintro rfl
    exact own_ne (owns_base rr (b' := 0) (fun _ _ => Nat.zero_le _)) b4 (by decide) e.symm
  · show World.ownsRow _ B0 _ 1 v' (O ++ [i]).length ((O ++ [i]).map (fun i => .int .i64 (i : Nat)))
    rw [List.length_append, List.map_append]
    refine owns_on (owns_base ho lo) (fun k e => Below.heap_setCell _ _ _ _ ?_)
    rintro rfl
    exact hv' e
  · intro e
    rcases hat Bn e with e | e
    · exact r.ne e
    · have h2 := r.bn.lt
      have := e.1; rw [World.size_alloc] at this; omega
  · exact hUw.setCell (p := ⟨Bo, 0, none⟩) (.inl (.inr (.inl rfl))) v'
  · intro k e
    rcases hat k e with e | e
    · exact .inl e
    · right; have := e.1; rw [World.size_alloc] at this; omega
set_option maxRecDepth 20000 in
set_option maxHeartbeats 1000000 in
theorem mark_c (g : HLay W hb sb vc T H u h) (l : Low B0 hb vc T) (r : RSt W B0 Bh Br Bn Bo hb vr vo s) (hB0 : B0 ≤ W.heap.size) (hRl : s.1.length = H.length) (hn : s.2.2 ≤ 100000000) (hO : s.2.1.length ≤ 100000000) (w : Nat) (hw : w < 18446744073709551616) :
    Calls Tryz.prog 178 #[.int .u64 w, .pointer (some ⟨Bh, 0, none⟩), .pointer (some ⟨Br, 0, none⟩), .pointer (some ⟨Bn, 0, none⟩), .pointer (some ⟨Bo, 0, none⟩)] W fun e w' => e = .returned (.tuple #[]) ∧ Upd (RB Bn Bo vr vo) W w' ∧ ∃ vo', RSt w' B0 Bh Br Bn Bo hb vr vo' (markP H s w) ∧ ∀ k, vo'.ownBlock = some k → vo.ownBlock = some k ∨ W.heap.size ≤ k := by
  have cf := find_c g w hw
  have ch := r.bh.cell
  have cr := r.br.cell
  unfold markP
  cases hh : hit H w with
  | none =>
    rw [hh] at cf
    simp only [Option.getD_none, Option.isSome_none] at cf ⊢
    have HR := hid r
    clear r g hh
    go_enter Tryz.func178, Tryz.ntmps178
    go_wp2_with (go_at_call 134; (with_reducible refine cf.mono ?_); rintro e w' ⟨rfl, rfl⟩)
    refine bodyPost_ret (results_none rfl _ _ _) rfl ?_
    exact ⟨rfl, Upd.refl _ _, _, HR.out, fun k e => .inl e⟩
  | some i =>
    rw [hh] at cf
    obtain ⟨c, hc⟩ := hit_live hh
    simp only [Option.getD_some, Option.isSome_some] at cf ⊢
    have hi : i < H.length := (List.getElem?_eq_some_iff.1 hc).1
    have hlen := g.len
    obtain ⟨gR, cap, hvr, hcap⟩ := own_slice (owns_base r.rrow (b' := 0) (fun _ _ => Nat.zero_le _)) (by omega)
    subst hvr
    have hcell := r.rrow.cellAt i (by omega)
    have hfr := r.rrow.frozenAt i
    have i0 : (0 : Int) ≤ i := by omega
    have i1 : (i : Int) < s.1.length := by omega
    rw [List.getElem?_map] at hcell
    have hsi : i < s.1.length := by omega
    cases hb1 : s.1[i] with
    | true =>
      have e1 : s.1[i]? = some true := by rw [List.getElem?_eq_getElem hsi, hb1]
      rw [e1] at hcell ⊢
      simp only [Option.map_some] at hcell
      rw [if_neg (by decide)]
      have HR := hid r
      clear r g hh e1
      go_enter Tryz.func178, Tryz.ntmps178
      go_wp2_with (go_at_call 134; (with_reducible refine cf.mono ?_); rintro e w' ⟨rfl, rfl⟩)
      refine bodyPost_ret (results_none rfl _ _ _) rfl ?_
      exact ⟨rfl, Upd.refl _ _, _, HR.out, fun k e => .inl e⟩
    | false =>
      have e1 : s.1[i]? = some false := by rw [List.getElem?_eq_getElem hsi, hb1]
      rw [e1] at hcell ⊢
      simp only [Option.map_some] at hcell
      rw [if_pos rfl, hc]
      have hg1 := g.upd ((Upd.refl (fun k => k = gR) W).setCell (p := ⟨gR, i, none⟩) (.inl rfl) (.bool true)) (by have := l.hb; have := (r.rrow.lt gR rfl).1; omega) (fun k e => by have := l.vc k e; have := (r.rrow.lt gR rfl).1; omega) (fun k e => by have := l.st k e; have := (r.rrow.lt gR rfl).1; omega)
      have hBW : Upd (RB Bn Bo (.slice (some ⟨gR, 0, none⟩) s.1.length cap) vo) W (W.setCell ⟨gR, i, none⟩ (.bool true)) := (Upd.refl _ W).setCell (p := ⟨gR, i, none⟩) (.inl (.inr (.inr (.inl rfl)))) (.bool true)
      have hr1 : RSt (W.setCell ⟨gR, i, none⟩ (.bool true)) B0 Bh Br Bn Bo hb (.slice (some ⟨gR, 0, none⟩) s.1.length cap) vo (s.1.set i true, s.2.1, s.2.2) := by
        have hne : ∀ {B t v}, Boxed W B t v → t ≠ 4 → Boxed (W.setCell ⟨gR, i, none⟩ (.bool true)) B t v := by
          intro B t v hbx ht
          refine box_set hbx ?_
          rintro rfl
          rcases r.rrow.2 with ⟨h0, _⟩ | ⟨g', cap', cur, h0, _, hgg, _⟩
          · cases h0
          · cases h0
            unfold Boxed at hbx
            rw [hgg] at hbx
            cases hbx
            exact ht rfl
        have hst := (r.rrow.stored i (.bool true)).1
        refine ⟨hne r.bh (by decide), hne r.br (by decide), hne r.bn (by decide), hne r.bo (by decide), ?_, ?_, r.ne, r.l1, r.l2, r.l3, r.l4⟩
        · show World.ownsRow _ B0 _ 1 _ (s.1.set i true).length ((s.1.set i true).map .bool)
          rw [List.length_set, List.map_set]
          exact hst
        · refine owns_on r.orow (fun k e => Below.heap_setCell _ _ _ _ ?_)
          rintro rfl
          rcases r.rrow.2 with ⟨h0, _⟩ | ⟨g', cap', cur, h0, _, hgg, _⟩
          · cases h0
          · cases h0
            rcases r.orow.2 with ⟨h1, _⟩ | ⟨g'', cap'', cur'', h1, _, hgg', _⟩
            · rw [h1] at e; cases e
            · rw [h1] at e
              cases e
              rw [hgg] at hgg'
              cases hgg'
      go_enter Tryz.func178, Tryz.ntmps178
      go_upto_region 3 with (go_at_call 134; (with_reducible refine cf.mono ?_); rintro e w' ⟨rfl, hw⟩; (have hw' := hw.symm); subst hw'; clear hw)
      clear cf ch cr hcell hfr r g
      generalize World.setCell _ _ _ = W1 at *
      have ch := hr1.bh.cell
      have cn := hr1.bn.cell
      have fn := hr1.bn.frozen
      have cb := bytes_c (hg1.same (W' := W1.drew) rfl) i c hc
      have cu := unitsOf_c c.bytes.length (by have := Hc.bytes_len (hg1.ok i c hc); omega) W1.drew
      have hnd : 1 + (c.bytes.length + 7) / 8 = c.need := rfl
      rw [hnd] at cu
      have hnle : c.need ≤ 100000000 := by have := Hc.bytes_len (hg1.ok i c hc); unfold Hc.need; omega
      have hws : IntKind.i64.wrap (((s.2.2 : Nat) : Int) + (c.need : Nat)) = ((s.2.2 + c.need : Nat) : Int) := by rw [IntKind.wrap_i64]; omega
      have k8 : ∀ v : Value, (W1.drew.setCell ⟨Bn, 0, none⟩ v).cell? ⟨Bn, 0, none⟩ = some v := fun v => World.cell?_setCell_same' _ _ _ (by show (W1.cell? _).isSome = true; rw [cn]; rfl)
      go_region_with (first | (go_at_call 136; (with_reducible refine cb.mono ?_); rintro e w' ⟨rfl, hw⟩; (have hw' := hw.symm); subst hw'; clear hw) | (go_at_call 174; (with_reducible refine cu.mono ?_); rintro e w' ⟨rfl, hw⟩; (have hw' := hw.symm); subst hw'; clear hw))
      all_goals (
        have hr2 : RSt (W1.setCell ⟨Bn, 0, none⟩ (.int .i64 ((s.2.2 : Nat) + (c.need : Nat) : Int))).drew B0 Bh Br Bn Bo hb (.slice (some ⟨gR, 0, none⟩) s.1.length cap) vo (s.1.set i true, s.2.1, s.2.2 + c.need) := hr1.need hws
        have hBW2 : Upd (RB Bn Bo (.slice (some ⟨gR, 0, none⟩) s.1.length cap) vo) W (W1.setCell ⟨Bn, 0, none⟩ (.int .i64 ((s.2.2 : Nat) + (c.need : Nat) : Int))).drew := (hBW.setCell (p := ⟨Bn, 0, none⟩) (.inl (.inl rfl)) _).drew
        clear k8 cn fn ch cb cu hr1 hg1 hBW
        generalize World.drew (World.setCell W1 _ _) = W2 at *
        have co := hr2.bo.cell
        have fo := hr2.bo.frozen
        obtain ⟨v', W4, hrun, c4, f4, hr4, hB4, hnw⟩ := hr2.push (by have := hBW2.size; omega) hO i 70
        obtain ⟨oo, co', hvo⟩ := slice_of (owns_base hr2.orow (b' := 0) (fun _ _ => Nat.zero_le _))
        rw [hvo] at hrun c4 co
        obtain ⟨g4, cap4, hv4, _⟩ := own_slice (owns_base hr4.orow (b' := 0) (fun _ _ => Nat.zero_le _)) (by simp)
        subst hv4
        have hl1 : (s.2.1 ++ [i]).length = s.2.1.length + 1 := by simp
        rw [hl1, hRl] at hr4
        rw [hl1] at hrun hB4 hnw
        rw [hRl] at hB4 hBW2
        have HR := hid hr4
        have HB := hid (hBW2.trans' hB4)
        have HN := hid (show ∀ k, _ = some k → vo.ownBlock = some k ∨ W.heap.size ≤ k from fun k e => (hnw k e).imp_right (fun e => by have := hBW2.size; omega))
        clear hr2 hBW2 hB4 hr4 hnw
        go_wp2_with (at_builtin; refine Lib.wpList_append_run _ rfl (.tmp 31) (.tmp 33) 70 70 rfl _ _ (by simp [Act.eval]) (by simp [Act.eval]) _ _ hrun ?_)
        refine bodyPost_end (results_none rfl _ _ _) rfl ?_
        exact ⟨rfl, by rw [← hvo]; exact HB.out, _, HR.out, by rw [← hvo]; exact HN.out⟩)
end
end Go.Proofs.YtgmimmdojkoppaaGreatDoor.W
/- Package heap: reach. -/
namespace Go.Proofs.YtgmimmdojkoppaaGreatDoor.W
open Go.ChangeShapes Go.WideShapes Go.RowKit Go.Shelf
set_option linter.unusedVariables false
/-- a slice of words that can be read -/
def WordsAt (W : World) (v : Value) (ws : List Nat) : Prop := ∃ o cap, v = .slice o ws.length cap ∧ ws.length ≤ 1000000000000 ∧ (∀ w ∈ ws, w < 18446744073709551616) ∧ ∀ i (hi : i < ws.length), ∃ x, o = some x ∧ W.cell? (x.add i) = some (.int .u64 (ws[i] : Nat))
/-- a slice of such slices -/
def ListsAt (W : World) (v : Value) (ls : List (List Nat)) : Prop := ∃ o cap, v = .slice o ls.length cap ∧ ls.length ≤ 1000000000000 ∧ ∀ i (hi : i < ls.length), ∃ x u, o = some x ∧ W.cell? (x.add i) = some u ∧ WordsAt W u ls[i]
theorem made_one (v : Value) (n : Nat) : (madeCells #[v] n).toList = List.replicate n v := by
  apply List.ext_getElem?
  intro i
  by_cases hi : i < n
  · rw [List.getElem?_replicate, if_pos hi]
    simp [madeCells, hi, Nat.mod_one]
  · rw [List.getElem?_replicate, if_neg hi]
    simp [madeCells, hi]
theorem infoB : (Tryz.prog.info? 4).map (fun i => (i.zero, i.size, i.bytes)) = some (some (.bool false), 1, 1) := by kernel_rfl
theorem underB : Tryz.prog.underlying 153 = some (.slice 4) := by kernel_rfl
theorem make_bools (w : World) (n : Nat) (hn : n ≤ 1048576) : ∃ w', (Instr.makeSlice 153 (.int .i64 (n : Int)) (.int .i64 (n : Int))).run Tryz.prog w = .ok (.slice (some ⟨w.heap.size, 0, none⟩) n n) w' ∧ w'.ownsRow w.heap.size 4 1 (.slice (some ⟨w.heap.size, 0, none⟩) n n) n ((List.replicate n false).map .bool) ∧ w.grownBy w' none := by
  obtain ⟨i0, hi, hz0, hz1, hz2⟩ := info_parts infoB
  obtain ⟨w', h1, h2, h3⟩ := run_makeSlice_full (P := Tryz.prog) w w.heap.size 153 4 i0 (.bool false) 1 underB hi hz0 hz1 .i64 .i64 n (by omega) (by rw [hz2]; omega) (by simp [maxLen]; omega) (Nat.le_refl _)
  refine ⟨w', h1, ?_, h3⟩
  have e : (madeCells (Value.bool false).cells (n * 1)).toList = (List.replicate n false).map .bool := by
    rw [Nat.mul_one, List.map_replicate]
    exact made_one _ n
  rw [← e]
  exact h2
/-- the closure, as a value -/
def markF (Bh Br Bn Bo : Nat) : Value := .func (.func 178) #[] #[.pointer (some ⟨Bh, 0, none⟩), .pointer (some ⟨Br, 0, none⟩), .pointer (some ⟨Bn, 0, none⟩), .pointer (some ⟨Bo, 0, none⟩)]
theorem RSt.box {W W' : World} {B0 Bh Br Bn Bo hb B t : Nat} {vr vo v : Value} {s : List Bool × List Nat × Nat} (r : RSt W B0 Bh Br Bn Bo hb vr vo s) (hu : Upd (RB Bn Bo vr vo) W W') (b : Boxed W B t v) (h1 : t ≠ 3) (h2 : t ≠ 70) (h3 : t ≠ 4) : Boxed W' B t v := by
  refine box_of (hu.block _ b.lt ?_) b
  rintro (rfl | rfl | e | e)
  · have := r.bn
    unfold Boxed at this b
    rw [this] at b; cases b; exact h1 rfl
  · have := r.bo
    unfold Boxed at this b
    rw [this] at b; cases b; exact h2 rfl
  · exact own_ne (owns_base r.rrow (b' := 0) (fun _ _ => Nat.zero_le _)) b (Ne.symm h3) e.symm
  · exact own_ne (owns_base r.orow (b' := 0) (fun _ _ => Nat.zero_le _)) b (Ne.symm h1) e.symm
theorem RSt.bel {W W' : World} {B0 Bh Br Bn Bo hb : Nat} {vr vo : Value} {s : List Bool × List Nat × Nat} (r : RSt W B0 Bh Br Bn Bo hb vr vo s) (hu : Upd (RB Bn Bo vr vo) W W') (hB : B0 ≤ W.heap.size) : Below B0 W W' := by
  refine hu.below hB ?_
  rintro k (rfl | rfl | e | e)
  · exact r.l3
  · exact r.l4
  · exact (r.rrow.lt k e).1
  · exact (r.orow.lt k e).1
/-- marking under way, the closure in its box, beside the heap -/
structure Rw (W0 : World) (hb sb : Nat) (vc : Value) (T : Nat → Prop) (H : List (Option Hc)) (u h Br Bn Bo Bm : Nat) (vr : Value) (ws : List Nat) (cur : Nat → Prop) (W : World) (vo : Value) (s : List Bool × List Nat × Nat) : Prop where
  lay : HLay W hb sb vc T H u h
  low : Low W0.heap.size hb vc T
  r : RSt W W0.heap.size W0.heap.size Br Bn Bo hb vr vo s
  m : Boxed W Bm 196 (markF W0.heap.size Br Bn Bo)
  bel : Below W0.heap.size W0 W
  mm : Mk H ws s cur
  sum : sumH H ≤ 100000000
section
variable {W0 W : World} {hb sb Br Bn Bo Bm : Nat} {vc vr vo : Value} {T : Nat → Prop} {H : List (Option Hc)} {u h : Nat} {ws : List Nat} {cur : Nat → Prop} {s : List Bool × List Nat × Nat}
theorem Rw.len (q : Rw W0 hb sb vc T H u h Br Bn Bo Bm vr ws cur W vo s) (hO : s.2.1.length ≤ 2 * H.length) : s.1.length = H.length ∧ s.2.2 ≤ 100000000 ∧ s.2.1.length ≤ 100000000 := by
  have h1 := q.mm.inv.len
  have h2 := q.mm.need
  have h3 := needR_le H s.1
  have h4 := q.sum
  have h5 := q.lay.len
  omega
theorem Rw.mark (q : Rw W0 hb sb vc T H u h Br Bn Bo Bm vr ws cur W vo s) (hO : 2 * unmarked s.1 + s.2.1.length ≤ 2 * H.length) (w : Nat) (hw : w < 18446744073709551616) (hr : ∀ i, hit H w = some i → Rch H ws i) :
    Calls Tryz.prog 178 #[.int .u64 w, .pointer (some ⟨W0.heap.size, 0, none⟩), .pointer (some ⟨Br, 0, none⟩), .pointer (some ⟨Bn, 0, none⟩), .pointer (some ⟨Bo, 0, none⟩)] W fun e w' => e = .returned (.tuple #[]) ∧ ∃ vo', Rw W0 hb sb vc T H u h Br Bn Bo Bm vr ws cur w' vo' (markP H s w) ∧ Upd (RB Bn Bo vr vo) W w' ∧ ∀ k, vo'.ownBlock = some k → vo.ownBlock = some k ∨ W.heap.size ≤ k := by
  obtain ⟨l1, l2, l3⟩ := q.len (by omega)
  refine (mark_c q.lay q.low q.r (by have := q.bel.size; omega) l1 l2 l3 w hw).mono ?_
  rintro e w' ⟨rfl, hU, vo', hr', hn⟩
  have hb' := q.r.bel hU (by have := q.bel.size; omega)
  exact ⟨rfl, vo', ⟨q.lay.low q.low hb', q.low, hr', q.r.box hU q.m (by decide) (by decide) (by decide), q.bel.trans hb', (q.mm.mark w hr).1, q.sum⟩, hU, hn⟩
end
end Go.Proofs.YtgmimmdojkoppaaGreatDoor.W
