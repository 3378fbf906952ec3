import Derived.Test.YthgcdohndchdkaaGreatDoorBase15
import Derived.Test.YthgcdohndchdkaaGreatDoorBase5
import Derived.Deep.RegionHeld3
/- Contracts of the faces of package word (all but strings): what each returns, at every argument of its kind, with the world as it was. -/
namespace Go.Proofs.YthgcdohndchdkaaGreatDoor.W
open Go.ChangeShapes Go.WideShapes Go.RowKit

set_option maxHeartbeats 400000 in
theorem fromFloat_c (n : Int) (h0 : 0 ≤ n) (h1 : n < 18446744073709551616) (w : World) :
    Calls Tryz.prog 24 #[.int .u64 n] w fun e w' => e = .returned (.int .u64 (fltW n)) ∧ w' = w := by
  cases c : nanB n
  · have H := hid (show fltW n = n by simp [fltW, c])
    go_enter Tryz.func24, Tryz.ntmps24
    go_wp2_with (go_at_call 42; refine (isNaN_c _ (by omega) (by omega) _).mono ?_; rintro e w' ⟨rfl, rfl⟩)
    go_ret
    exact ⟨ret_int H.out.symm, rfl⟩
  · have H := hid (show fltW n = 9221120237041090560 by simp [fltW, c])
    go_enter Tryz.func24, Tryz.ntmps24
    go_wp2_with (go_at_call 42; refine (isNaN_c _ (by omega) (by omega) _).mono ?_; rintro e w' ⟨rfl, rfl⟩)
    go_ret
    exact ⟨ret_int H.out.symm, rfl⟩
set_option maxHeartbeats 400000 in
theorem fromBool_c (b : Bool) (w : World) : Calls Tryz.prog 22 #[.bool b] w fun e w' => e = .returned (.int .u64 (boolW b)) ∧ w' = w := by
  cases b
  · go_enter Tryz.func22, Tryz.ntmps22
    go_wp2_with (go_at_call 39; refine (join_c _ _ (by omega) (by omega) (by omega) (by omega) _).mono ?_; rintro e w' ⟨rfl, rfl⟩)
    go_ret
    exact ⟨rfl, rfl⟩
  · go_enter Tryz.func22, Tryz.ntmps22
    go_wp2_with (go_at_call 39; refine (join_c _ _ (by omega) (by omega) (by omega) (by omega) _).mono ?_; rintro e w' ⟨rfl, rfl⟩)
    go_ret
    exact ⟨rfl, rfl⟩
set_option maxHeartbeats 400000 in
theorem fromHandle_c (h : Int) (h0 : 0 ≤ h) (w : World) :
    Calls Tryz.prog 158 #[.int .u64 h] w fun e w' => e = .returned (.tuple #[.int .u64 (hdlW h), .bool (decide (h < 281474976710656))]) ∧ w' = w := by
  by_cases c : h < 281474976710656
  · have H := hid (show hdlW h = 18445336698825998336 + h by simp [hdlW, c])
    go_enter Tryz.func158, Tryz.ntmps158
    go_wp2_with (go_at_call 39; refine (join_c _ _ (by omega) (by omega) (by omega) (by omega) _).mono ?_; rintro e w' ⟨rfl, rfl⟩)
    go_ret2
    exact ⟨ret_ib H.out.symm (by simp [c]), rfl⟩
  · have H := hid (show hdlW h = 0 by simp [hdlW, c])
    go_enter Tryz.func158, Tryz.ntmps158
    go_wp2
    go_ret2
    exact ⟨ret_ib H.out.symm (by simp; omega), rfl⟩
set_option maxHeartbeats 400000 in
theorem toHandle_c (n : Int) (h0 : 0 ≤ n) (h1 : n < 18446744073709551616) (w : World) :
    Calls Tryz.prog 161 #[.int .u64 n] w fun e w' => e = .returned (.tuple #[.int .u64 (toHdl n), .bool (cls n == 6)]) ∧ w' = w := by
  by_cases c : cls n = 6
  · have H := hid (show toHdl n = n % 281474976710656 by simp [toHdl, c])
    go_enter Tryz.func161, Tryz.ntmps161
    go_wp2_with (first | (go_at_call 34; refine (class_c _ (by omega) (by omega) _).mono ?_; rintro e w' ⟨rfl, rfl⟩) | (go_at_call 78; refine (loadOf_c _ (by omega) (by omega) _).mono ?_; rintro e w' ⟨rfl, rfl⟩))
    go_ret2
    exact ⟨ret_ib H.out.symm (by simp [c]), rfl⟩
  · have H := hid (show toHdl n = 0 by simp [toHdl, c])
    have d : (cls n == 6) = false := by simpa using c
    have d' : (cls n != 6) = true := by simpa using c
    go_enter Tryz.func161, Tryz.ntmps161
    go_wp2_with (first | (go_at_call 34; refine (class_c _ (by omega) (by omega) _).mono ?_; rintro e w' ⟨rfl, rfl⟩) | (go_at_call 78; refine (loadOf_c _ (by omega) (by omega) _).mono ?_; rintro e w' ⟨rfl, rfl⟩))
    go_ret2
    exact ⟨ret_ib H.out.symm d.symm, rfl⟩
set_option maxHeartbeats 400000 in
theorem toBool_c (n : Int) (h0 : 0 ≤ n) (h1 : n < 18446744073709551616) (w : World) :
    Calls Tryz.prog 80 #[.int .u64 n] w fun e w' => e = .returned (.tuple #[.bool (toBool n), .bool (cls n == 4)]) ∧ w' = w := by
  by_cases c : cls n = 4
  · have H := hid (show toBool n = (n % 281474976710656 == 2) by simp [toBool, c])
    go_enter Tryz.func80, Tryz.ntmps80
    go_wp2_with (first | (go_at_call 34; refine (class_c _ (by omega) (by omega) _).mono ?_; rintro e w' ⟨rfl, rfl⟩) | (go_at_call 78; refine (loadOf_c _ (by omega) (by omega) _).mono ?_; rintro e w' ⟨rfl, rfl⟩))
    go_ret2
    exact ⟨ret_bb H.out.symm (by simp [c]), rfl⟩
  · have H := hid (show toBool n = false by simp [toBool, c])
    have d : (cls n == 4) = false := by simpa using c
    have d' : (cls n != 4) = true := by simpa using c
    go_enter Tryz.func80, Tryz.ntmps80
    go_wp2_with (first | (go_at_call 34; refine (class_c _ (by omega) (by omega) _).mono ?_; rintro e w' ⟨rfl, rfl⟩) | (go_at_call 78; refine (loadOf_c _ (by omega) (by omega) _).mono ?_; rintro e w' ⟨rfl, rfl⟩))
    go_ret2
    exact ⟨ret_bb H.out.symm d.symm, rfl⟩
theorem sx_eq (n : Int) : wrap64 (IntKind.u64.wrap (n * 65536)) / 65536 = if n % 281474976710656 < 140737488355328 then n % 281474976710656 else n % 281474976710656 - 281474976710656 := by
  rw [IntKind.wrap_u64]
  unfold wrap64
  split <;> omega
set_option maxHeartbeats 400000 in
theorem toInt_c (n : Int) (h0 : 0 ≤ n) (h1 : n < 18446744073709551616) (w : World) :
    Calls Tryz.prog 36 #[.int .u64 n] w fun e w' => e = .returned (.tuple #[.int .i64 (toInt n), .bool (cls n == 2)]) ∧ w' = w := by
  by_cases c : cls n = 2
  · have H := hid (show toInt n = (if n % 281474976710656 < 140737488355328 then n % 281474976710656 else n % 281474976710656 - 281474976710656) by simp [toInt, c])
    go_enter Tryz.func36, Tryz.ntmps36
    go_wp2_with (first | (go_at_call 34; refine (class_c _ (by omega) (by omega) _).mono ?_; rintro e w' ⟨rfl, rfl⟩) | (go_at_call 78; refine (loadOf_c _ (by omega) (by omega) _).mono ?_; rintro e w' ⟨rfl, rfl⟩))
    go_ret2
    refine ⟨ret_ib ?_ (by simp [c]), rfl⟩
    rw [H.out]
    exact sx_eq n
  · have H := hid (show toInt n = 0 by simp [toInt, c])
    have d : (cls n == 2) = false := by simpa using c
    have d' : (cls n != 2) = true := by simpa using c
    go_enter Tryz.func36, Tryz.ntmps36
    go_wp2_with (first | (go_at_call 34; refine (class_c _ (by omega) (by omega) _).mono ?_; rintro e w' ⟨rfl, rfl⟩) | (go_at_call 78; refine (loadOf_c _ (by omega) (by omega) _).mono ?_; rintro e w' ⟨rfl, rfl⟩))
    go_ret2
    exact ⟨ret_ib H.out.symm d.symm, rfl⟩
set_option maxHeartbeats 400000 in
theorem fromInt_c (i : Int) (h0 : -9223372036854775808 ≤ i) (h1 : i ≤ 9223372036854775807) (w : World) :
    Calls Tryz.prog 40 #[.int .i64 i] w fun e w' => e = .returned (.tuple #[.int .u64 (intW i), .bool (smallB i)]) ∧ w' = w := by
  by_cases c : -140737488355328 ≤ i ∧ i ≤ 140737488355327
  · have H := hid (show smallB i = true by simp [smallB, c])
    have H' := hid (show intW i = 18444773748872577024 + i % 281474976710656 by simp [intW, smallB, c])
    obtain ⟨c1, c2⟩ := c
    go_enter Tryz.func40, Tryz.ntmps40
    go_wp2_with (first | (go_at_call 39; refine (join_c _ _ (by omega) (by omega) (by omega) (by omega) _).mono ?_; rintro e w' ⟨rfl, rfl⟩) | (go_at_call 78; refine (loadOf_c _ (by rw [IntKind.wrap_u64]; omega) (by rw [IntKind.wrap_u64]; omega) _).mono ?_; rintro e w' ⟨rfl, rfl⟩))
    go_ret2
    exact ⟨ret_ib (by rw [H'.out, IntKind.wrap_u64]; omega) H.out.symm, rfl⟩
  · have H := hid (show smallB i = false by simp [smallB]; omega)
    have H' := hid (show intW i = 0 by have := H.out; simp [intW, this])
    by_cases c1 : i < -140737488355328
    · clear c
      go_enter Tryz.func40, Tryz.ntmps40
      go_wp2
      go_ret2
      exact ⟨ret_ib H'.out.symm H.out.symm, rfl⟩
    · have c2 : 140737488355327 < i := by omega
      clear c
      go_enter Tryz.func40, Tryz.ntmps40
      go_wp2
      go_ret2
      exact ⟨ret_ib H'.out.symm H.out.symm, rfl⟩
end Go.Proofs.YthgcdohndchdkaaGreatDoor.W
/- Package heap: how a heap lies; find, bytes, shapes, units. -/
namespace Go.Proofs.YthgcdohndchdkaaGreatDoor.W
open Go.ChangeShapes Go.WideShapes Go.RowKit Go.Shelf
set_option linter.unusedVariables false
def flatC (H : List (Option Hc)) : List Value := H.flatMap (fun c => (clO c).cells)
theorem Cl.cells_len (c : Cl) : c.cells.length = 5 := rfl
theorem flatC_len (H : List (Option Hc)) : (flatC H).length = H.length * 5 := by
  induction H with
  | nil => rfl
  | cons b r ih => simp only [flatC, List.flatMap_cons, List.length_append, Cl.cells_len, List.length_cons] at ih ⊢; omega
theorem flatC_get (H : List (Option Hc)) (i j : Nat) (c : Option Hc) (h : H[i]? = some c) (hj : j < 5) : (flatC H)[i * 5 + j]? = (clO c).cells[j]? := by
  induction H generalizing i with
  | nil => simp at h
  | cons b r ih =>
    cases i with
    | zero =>
      simp at h; subst h
      unfold flatC
      rw [List.flatMap_cons, List.getElem?_append_left (by rw [Cl.cells_len]; omega)]
      simp
    | succ i =>
      simp at h
      have := ih i h
      unfold flatC at *
      rw [List.flatMap_cons, List.getElem?_append_right (by rw [Cl.cells_len]; omega), Cl.cells_len]
      have e : (i + 1) * 5 + j - 5 = i * 5 + j := by omega
      rw [e]; exact this
/-- a heap lies in W: its block hb, its store at sb in the blocks T, its cells vc; u units, h of them held -/
structure HLay (W : World) (hb sb : Nat) (vc : Value) (T : Nat → Prop) (H : List (Option Hc)) (u h : Nat) : Prop where
  obj : W.heap[hb]? = some (.cells [.pointer (some ⟨sb, 0, none⟩), vc, .int .i64 u, .int .i64 h].toArray 58 (0, 0))
  own : W.ownsRow 0 126 5 vc H.length (flatC H)
  st : St W T sb (hA H) 8388608 1048577
  tlt : ∀ k, T k → k < W.heap.size
  thb : ¬ T hb
  tvc : ∀ k, vc.ownBlock = some k → ¬ T k
  ok : ∀ (i : Nat) (c : Hc), H[i]? = some (some c) → c.ok
  len : H.length ≤ 1048576
  u1 : u ≤ 1048576
  h1 : h ≤ 1048576
section
variable {W W' : World} {hb sb : Nat} {vc : Value} {T : Nat → Prop} {H : List (Option Hc)} {u h : Nat}
theorem HLay.hlt (g : HLay W hb sb vc T H u h) : hb < W.heap.size := (Array.getElem?_eq_some_iff.1 g.obj).1
theorem HLay.clt (g : HLay W hb sb vc T H u h) : ∀ k, vc.ownBlock = some k → k < W.heap.size := fun k e => (g.own.lt k e).2
theorem HLay.kept (g : HLay W hb sb vc T H u h) (hs : W.heap.size ≤ W'.heap.size) (h0 : W'.heap[hb]? = W.heap[hb]?) (h1 : ∀ k, vc.ownBlock = some k → W'.heap[k]? = W.heap[k]?) (h2 : ∀ k, T k → W'.heap[k]? = W.heap[k]?) : HLay W' hb sb vc T H u h :=
  ⟨h0.trans g.obj, owns_on g.own h1, g.st.on h2, fun k e => Nat.lt_of_lt_of_le (g.tlt k e) hs, g.thb, g.tvc, g.ok, g.len, g.u1, g.h1⟩
theorem HLay.below (g : HLay W hb sb vc T H u h) (hb' : Below W.heap.size W W') : HLay W' hb sb vc T H u h :=
  g.kept hb'.size (hb'.block _ g.hlt) (fun k e => hb'.block k (g.clt k e)) (fun k e => hb'.block k (g.tlt k e))
theorem HLay.same (g : HLay W hb sb vc T H u h) (e : W'.heap = W.heap) : HLay W' hb sb vc T H u h :=
  g.kept (by rw [e]; exact Nat.le_refl _) (by rw [e]) (fun k _ => by rw [e]) (fun k _ => by rw [e])
/-- what is changed beside it -/
theorem HLay.upd {S : Nat → Prop} (g : HLay W hb sb vc T H u h) (hu : Upd S W W') (h0 : ¬ S hb) (h1 : ∀ k, vc.ownBlock = some k → ¬ S k) (h2 : ∀ k, T k → ¬ S k) : HLay W' hb sb vc T H u h :=
  g.kept hu.size (hu.block _ g.hlt h0) (fun k e => hu.block k (g.clt k e) (h1 k e)) (fun k e => hu.block k (g.tlt k e) (h2 k e))
theorem HLay.cell (g : HLay W hb sb vc T H u h) (j : Nat) : W.cell? ⟨hb, j, none⟩ = [Value.pointer (some ⟨sb, 0, none⟩), vc, .int .i64 u, .int .i64 h][j]? := by
  rw [cell_of_row W hb j _ _ (0, 0) g.obj]; simp
theorem HLay.thaw (g : HLay W hb sb vc T H u h) (j : Nat) : W.frozen? ⟨hb, j, none⟩ = false := by
  simp [World.frozen?, g.obj]
theorem HLay.sl (g : HLay W hb sb vc T H u h) : ∃ o cap, vc = .slice o H.length cap := by
  rcases g.own.2 with ⟨rfl, e⟩ | ⟨g', cap, cur, rfl, _⟩
  · exact ⟨_, _, by rw [e]⟩
  · exact ⟨_, _, rfl⟩
/-- where a cell's row lies -/
theorem HLay.at (g : HLay W hb sb vc T H u h) {i : Nat} (hi : i < H.length) : ∃ b cap, vc = .slice (some ⟨b, 0, none⟩) H.length cap ∧ (∀ j c, H[i]? = some c → j < 5 → W.cell? ⟨b, i * 5 + j, none⟩ = (clO c).cells[j]?) ∧ ∀ j, W.frozen? ⟨b, j, none⟩ = false := by
  obtain ⟨b, cap, rfl, hc⟩ := own_slice g.own (by omega)
  refine ⟨b, cap, rfl, fun j c hc hj => ?_, fun j => g.own.frozenAt j⟩
  rw [g.own.cellAt _ (by omega), flatC_get _ _ _ _ hc hj]
end
end Go.Proofs.YthgcdohndchdkaaGreatDoor.W
/- Package heap: elementBytes, shape, unitsOf, find, bytes, wordOf, isValue. -/
namespace Go.Proofs.YthgcdohndchdkaaGreatDoor.W
open Go.ChangeShapes Go.WideShapes Go.RowKit Go.Shelf
set_option linter.unusedVariables false
theorem elementBytes_c (k : Int) (W : World) : Calls Tryz.prog 149 #[.int .i64 k] W fun e w' => e = .returned (.int .i64 (elB k : Nat)) ∧ w' = W := by
  rcases elB_cases k with ⟨h, rfl⟩ | ⟨h, rfl⟩ | ⟨h, rfl⟩ | ⟨h, rfl⟩ | ⟨h, h5, h6, h7, h8⟩
  all_goals
    rw [h]
    clear h
    go_enter Tryz.func149, Tryz.ntmps149
    go_wp2
    go_ret
    exact ⟨rfl, rfl⟩
theorem shape_c (k : Int) (v : Bool) (W : World) : Calls Tryz.prog 148 #[.int .i64 k, .bool v] W fun e w' => e = .returned (.int .i64 (shp k v)) ∧ w' = W := by
  have ce := elementBytes_c k W
  have hn : (0 : Int) ≤ (elB k : Nat) := by omega
  by_cases c : elB k > 0
  · have c' : ((elB k : Nat) : Int) > 0 := by omega
    generalize hE : ((elB k : Nat) : Int) = E at *
    have hs : Hid (shp k v = if v = true then 4 else 3) := by show shp k v = _; unfold shp; rw [if_pos c]
    clear c hE
    cases v
    · go_enter Tryz.func148, Tryz.ntmps148
      go_wp2_with (go_at_call 149; (with_reducible refine ce.mono ?_); rintro e w' ⟨rfl, rfl⟩)
      go_ret
      exact ⟨by rw [hs.out]; rfl, rfl⟩
    · go_enter Tryz.func148, Tryz.ntmps148
      go_wp2_with (go_at_call 149; (with_reducible refine ce.mono ?_); rintro e w' ⟨rfl, rfl⟩)
      go_ret
      exact ⟨by rw [hs.out]; rfl, rfl⟩
  · have hz : ((elB k : Nat) : Int) = 0 := by omega
    rw [hz] at ce
    have hs : Hid (shp k v = if v = true then 0 else if k = 2 then 1 else if k = 4 then 2 else if k = 9 then 5 else 0) := by show shp k v = _; unfold shp; rw [if_neg c]
    clear c hz hn
    cases v
    · by_cases e2 : k = 2
      · have hs' := hs.out; rw [if_neg (by decide), if_pos e2] at hs'
        have H := hid hs'
        clear hs hs'
        subst e2
        rw [H.out]
        clear H
        go_enter Tryz.func148, Tryz.ntmps148
        go_wp2_with (go_at_call 149; (with_reducible refine ce.mono ?_); rintro e w' ⟨rfl, rfl⟩)
        go_ret
        exact ⟨rfl, rfl⟩
      by_cases e4 : k = 4
      · have hs' := hs.out; rw [if_neg (by decide), if_neg e2, if_pos e4] at hs'
        have H := hid hs'
        clear hs hs'
        subst e4
        rw [H.out]
        clear H
        go_enter Tryz.func148, Tryz.ntmps148
        go_wp2_with (go_at_call 149; (with_reducible refine ce.mono ?_); rintro e w' ⟨rfl, rfl⟩)
        go_ret
        exact ⟨rfl, rfl⟩
      by_cases e9 : k = 9
      · have hs' := hs.out; rw [if_neg (by decide), if_neg e2, if_neg e4, if_pos e9] at hs'
        have H := hid hs'
        clear hs hs'
        subst e9
        rw [H.out]
        clear H
        go_enter Tryz.func148, Tryz.ntmps148
        go_wp2_with (go_at_call 149; (with_reducible refine ce.mono ?_); rintro e w' ⟨rfl, rfl⟩)
        go_ret
        exact ⟨rfl, rfl⟩
      · have hs' := hs.out; rw [if_neg (by decide), if_neg e2, if_neg e4, if_neg e9] at hs'
        have H := hid hs'
        clear hs hs'
        rw [H.out]
        clear H
        go_enter Tryz.func148, Tryz.ntmps148
        go_wp2_with (go_at_call 149; (with_reducible refine ce.mono ?_); rintro e w' ⟨rfl, rfl⟩)
        go_ret
        exact ⟨rfl, rfl⟩
    · have hs' := hs.out; rw [if_pos rfl] at hs'
      have H := hid hs'
      clear hs hs'
      rw [H.out]
      clear H
      go_enter Tryz.func148, Tryz.ntmps148
      go_wp2_with (go_at_call 149; (with_reducible refine ce.mono ?_); rintro e w' ⟨rfl, rfl⟩)
      go_ret
      exact ⟨rfl, rfl⟩
theorem unitsOf_c (n : Nat) (hn : n ≤ 100000000) (W : World) : Calls Tryz.prog 152 #[.int .i64 n] W fun e w' => e = .returned (.int .i64 (1 + (n + 7) / 8 : Nat)) ∧ w' = W := by
  have h1 : IntKind.i64.wrap (((n : Int) + 8) - 1) = (n : Int) + 7 := by rw [IntKind.wrap_i64]; omega
  have h2 : IntKind.i64.wrap ((n : Int) + 8) = (n : Int) + 8 := by rw [IntKind.wrap_i64]; omega
  have h3 : Int.tdiv ((n : Int) + 7) 8 = ((n + 7) / 8 : Nat) := by rw [Int.tdiv_eq_ediv_of_nonneg (by omega)]; omega
  have h4 : IntKind.i64.wrap ((1 : Int) + ((n + 7) / 8 : Nat)) = (1 + (n + 7) / 8 : Nat) := by rw [IntKind.wrap_i64]; omega
  go_enter Tryz.func152, Tryz.ntmps152
  go_wp2
  go_ret
  exact ⟨rfl, rfl⟩
theorem wordOf_c (i : Nat) (hi : i < 281474976710656) (W : World) : Calls Tryz.prog 88 #[.int .i64 i] W fun e w' => e = .returned (.int .u64 (18445336698825998336 + i : Nat)) ∧ w' = W := by
  have cf := fromHandle_c i (by omega) W
  have e1 : hdlW i = (18445336698825998336 + i : Nat) := by simp [hdlW]; omega
  rw [e1] at cf
  have hw : IntKind.u64.wrap (i : Int) = i := by rw [IntKind.wrap_u64]; omega
  clear e1
  go_enter Tryz.func88, Tryz.ntmps88
  go_wp2_with (go_at_call 158; (with_reducible refine cf.mono ?_); rintro e w' ⟨rfl, rfl⟩)
  go_ret
  exact ⟨rfl, rfl⟩
section
variable {W : World} {hb sb : Nat} {vc : Value} {T : Nat → Prop} {H : List (Option Hc)} {u h : Nat}
theorem bytes_c (g : HLay W hb sb vc T H u h) (i : Nat) (c : Hc) (hc : H[i]? = some (some c)) : Calls Tryz.prog 92 #[.pointer (some ⟨hb, 0, none⟩), .int .i64 i] W fun e w' => e = .returned (.int .i64 c.bytes.length) ∧ w' = W := by
  have cl := len_st g.st i c.bytes (hA_some hc)
  have c0 := g.cell 0
  simp at c0
  go_enter Tryz.func92, Tryz.ntmps92
  go_wp2_with (go_at_call 162; (with_reducible refine cl.mono ?_); rintro e w' ⟨rfl, rfl⟩)
  go_ret
  exact ⟨rfl, rfl⟩
theorem find_c (g : HLay W hb sb vc T H u h) (w : Nat) (hw : w < 18446744073709551616) : Calls Tryz.prog 90 #[.pointer (some ⟨hb, 0, none⟩), .int .u64 w] W fun e w' => e = .returned (.tuple #[.int .i64 ((hit H w).getD 0 : Nat), .bool (hit H w).isSome]) ∧ w' = W := by
  have ct := toHandle_c w (by omega) (by omega) W
  have hlen := g.len
  have c1 := g.cell 1
  simp at c1
  obtain ⟨o, cap, hvc⟩ := g.sl
  by_cases k : cls (w : Int) = 6
  · have e1 : toHdl w = (w % 281474976710656 : Nat) := by simp [toHdl, k]
    have e2 : (cls (w : Int) == 6) = true := by simp [k]
    rw [e1, e2] at ct
    have HK := hid k
    clear e1 e2 k
    have hm : w % 281474976710656 < 281474976710656 := Nat.mod_lt _ (by decide)
    have hhit : hit H w = if ((H[w % 281474976710656]?).getD none).isSome = true then some (w % 281474976710656) else none := by
      unfold hit; simp [HK.out]
    generalize w % 281474976710656 = i at *
    by_cases hi : i < H.length
    · obtain ⟨b, cap', hvc', hcell, hth⟩ := g.at hi
      have hce := hcell 0 H[i] (by simp [hi]) (by omega)
      have i0 : (0 : Int) ≤ i := by omega
      have i1 : (i : Int) < H.length := by omega
      have iw : IntKind.u64.wrap (H.length : Int) = H.length := by rw [IntKind.wrap_u64]; omega
      have iw2 : IntKind.i64.wrap (i : Int) = i := by rw [IntKind.wrap_i64]; omega
      subst hvc'
      clear hvc
      cases hx : H[i] with
      | none =>
        rw [hx] at hce
        simp [clO, Cl.cells] at hce
        have e3 : hit H w = none := by rw [hhit]; simp [hi, hx]
        rw [e3]
        clear hcell hhit hx g e3
        go_enter Tryz.func90, Tryz.ntmps90
        go_wp2_with (go_at_call 161; (with_reducible refine ct.mono ?_); rintro e w' ⟨rfl, rfl⟩)
        go_ret2
        exact ⟨rfl, rfl⟩
      | some c =>
        rw [hx] at hce
        simp [clO, Cl.cells] at hce
        have hk0 := Hc.kind_ne (g.ok i c (by simp [hi, hx]))
        have e3 : hit H w = some i := by rw [hhit]; simp [hi, hx]
        have d1 : decide (H.length ≤ i) = false := by simp; omega
        have d2 : (c.cl.kind == 0) = false := by simpa using hk0
        rw [e3]
        clear hcell hhit hx g e3
        go_enter Tryz.func90, Tryz.ntmps90
        go_wp2_with (go_at_call 161; (with_reducible refine ct.mono ?_); rintro e w' ⟨rfl, rfl⟩)
        go_ret2
        exact ⟨rfl, rfl⟩
    · have e3 : hit H w = none := by rw [hhit]; simp [hi]
      have i1 : (H.length : Int) ≤ i := by omega
      have iw : IntKind.u64.wrap (H.length : Int) = H.length := by rw [IntKind.wrap_u64]; omega
      rw [e3]
      subst hvc
      clear hhit g e3
      go_enter Tryz.func90, Tryz.ntmps90
      go_wp2_with (go_at_call 161; (with_reducible refine ct.mono ?_); rintro e w' ⟨rfl, rfl⟩)
      go_ret2
      exact ⟨rfl, rfl⟩
  · have e2 : (cls (w : Int) == 6) = false := by simp [k]
    have e3 : hit H w = none := by unfold hit; simp [k]
    rw [e2] at ct
    rw [e3]
    subst hvc
    clear g e3
    go_enter Tryz.func90, Tryz.ntmps90
    go_wp2_with (go_at_call 161; (with_reducible refine ct.mono ?_); rintro e w' ⟨rfl, rfl⟩)
    go_ret2
    exact ⟨rfl, rfl⟩
end
end Go.Proofs.YthgcdohndchdkaaGreatDoor.W
/- A range over an iterator, whatever iterator: what it tells, and the loop over it. -/
namespace Go.Proofs.YthgcdohndchdkaaGreatDoor.W
open Go.ChangeShapes Go.WideShapes Go.RowKit Go.Shelf
set_option linter.unusedVariables false
theorem below_cell {W W' : World} {p : Addr} {v : Value} (hb : Below W.heap.size W W') (h : W.cell? p = some v) : W'.cell? p = some v := by
  rcases Nat.lt_or_ge p.block W.heap.size with c | c
  · rw [hb.cell c]; exact h
  · exfalso
    have e : W.heap[p.block]? = none := Array.getElem?_eq_none c
    simp [World.cell?, e] at h
/-- the function gf, with lb captured, yields vals, as long as it is asked, where G holds; beyond that it only lays blocks -/
def Iter (gf : Nat) (lb : Array Value) (vals : List (Array Value)) (G : Nat → World → Prop) : Prop :=
  ∀ (n l : Nat) (J : Nat → World → Prop) (X : World → Prop), 1 ≤ n → (∀ i W, J i W → G i W) → (∀ i W W', J i W → Below W.heap.size W W' → J i W') →
    (∀ i (hi : i < vals.length) W, J i W → YieldAt Fence.wide (n - 1) Tryz.prog l vals[i] W fun e W' => (e = .returned (.bool true) ∧ J (i + 1) W') ∨ (e = .returned (.bool false) ∧ X W')) →
    ∀ W, J 0 W → CallsIn Fence.wide n Tryz.prog gf (#[.func (.yield l) #[] #[]] ++ lb) W fun e W' => (∃ v, e = .returned v) ∧ (J vals.length W' ∨ X W')
/-- how the body of a round is left -/
def rndWay (L D : Nat) (W : World) (In : World → Prop) (Ix : Code → World → Prop) : Exit → Act → World → Prop
  | .normal, _, W' => (W'.heap[L]? = W.heap[L]? ∧ W'.heap[D]? = W.heap[D]?) ∧ In W'
  | .ret, _, W' => (W'.heap[L]? = W.heap[L]? ∧ W'.heap[D]? = W.heap[D]?) ∧ Ix .ret W'
  | .exit id, _, W' => (W'.heap[L]? = W.heap[L]? ∧ W'.heap[D]? = W.heap[D]?) ∧ Ix (.exit id) W'
  | _, _, _ => False
theorem iter_law {gf : Nat} {lb : Array Value} {vals : List (Array Value)} {G : Nat → World → Prop} (hit : Iter gf lb vals G) (eg : ∀ args w, (callFunc gf args).run Tryz.prog w = .ok (.enter gf args) w)
    {g : Operand} {ps : Array Tmp} {assign body : Code} {Q : Exit → Act → World → Prop} {a : Act} {W0 : World} (hg : a.eval g = .func (.func gf) #[] lb)
    (I : Nat → World → Prop) (Ix : Code → World → Prop) (hL : ∀ i W, I i W → G i W)
    (hI : ∀ i W W', I i W → Upd (fun k => k = W0.heap.size + 1) W W' → I i W')
    (hIx : ∀ c W W', Ix c W → Upd (fun k => k = W0.heap.size + 1) W W' → Ix c W') (h0 : I 0 W0)
    (A : Nat → Act) (hsz : ∀ i (hi : i < vals.length), vals[i].size = ps.size)
    (hassign : ∀ (L i : Nat) (hi : i < vals.length) (W : World) (K : Act → World → Prop), K (A i) W → assign.wpIn (Fence.wide.inRound L) 7 Tryz.prog (Exit.then K (fun _ _ _ => False)) { tmps := (ps.zip vals[i]).foldl (fun t (p, v) => t.setIfInBounds p v) a.tmps, defers := [] } W)
    (hbody : ∀ (L : Nat) i (hi : i < vals.length) W, L = W0.heap.size + 1 → I i W → W0.heap.size + 2 ≤ W.heap.size → (∃ r, W.heap[L]? = some (.loop r)) → body.wpIn (Fence.wide.inRound L) 7 Tryz.prog (rndWay L W0.heap.size W (I (i + 1)) Ix) (A i) W)
    (hdone : ∀ W, I vals.length W → W.heap[W0.heap.size]? = some (.deferred (some [])) → Q .normal { a with defers := { target := .collected W0.heap.size, args := #[] } :: a.defers } W)
    (hstop : ∀ c W, Ix c W → W.heap[W0.heap.size]? = some (.deferred (some [])) → c.wp Tryz.prog Q { a with defers := { target := .collected W0.heap.size, args := #[] } :: a.defers } W) :
    (Code.rangeFunc g ps assign body).wp Tryz.prog Q a W0 := by
  have hUL : ∀ (W : World) (o : Obj), Upd (fun k => k = W0.heap.size + 1) W (W.putObj (W0.heap.size + 1) o) := fun W o => upd_put (S := fun k => k = W0.heap.size + 1) (L := W0.heap.size + 1) rfl o
  refine (wpIn_wide (n := 9)).1 (rf_law hg eg (fun W => I vals.length W) Ix ?_ ?_ ?_)
  · intro r W1 hr1 hr2 hr3 hr4 hr5 hr6 hW1 hL1
    have hI1 : I 0 W1 := by
      refine hI 0 W0 W1 h0 ?_
      rw [hW1]; exact ((Upd.refl _ W0).alloc _).alloc _
    have hsz1 : W0.heap.size + 2 ≤ W1.heap.size := by rw [hW1]; simp
    have key := hit 8 (W0.heap.size + 1)
      (fun i W => I i W ∧ LoopAt W (W0.heap.size + 1) W0.heap.size r ∧ W0.heap.size + 2 ≤ W.heap.size)
      (fun W => ∃ c, Ix c W ∧ LoopAt W (W0.heap.size + 1) W0.heap.size { r with state := .done, pending := some c })
      (by omega) (fun i W h => hL i W h.1) ?_ ?_ W1 ⟨hI1, hL1, hsz1⟩
    · refine key.mono ?_
      rintro e W3 ⟨hv, ⟨h1, h2, _⟩ | ⟨c, h1, h2⟩⟩
      · exact ⟨hv, .inl ⟨h1, r, h2, by rw [hr1]; simp, hr2⟩⟩
      · exact ⟨hv, .inr ⟨c, h1, _, h2, by simp, rfl⟩⟩
    · rintro i W W' ⟨h1, h2, h3⟩ hb
      exact ⟨hI i W W' h1 (Upd.of_below hb), h2.kept (hb.block _ (by omega)) (hb.block _ (by omega)), by have := hb.size; omega⟩
    · rintro i hi W ⟨hi1, hl1, hs1⟩
      have hargs : vals[i].size = r.params.size := by rw [hr4]; exact hsz i hi
      refine YieldAt.mono (yield_law (Rn := fun W' => I (i + 1) W' ∧ LoopAt W' (W0.heap.size + 1) W0.heap.size r ∧ W0.heap.size + 2 ≤ W'.heap.size) (Rx := fun c W' => Ix c W' ∧ LoopAt W' (W0.heap.size + 1) W0.heap.size { r with state := .done, pending := some c }) hl1 hr1 hargs (A i) ?_ ?_) ?_
      · intro K hK
        rw [hr5, hr4, hr3]
        exact hassign _ i hi W K hK
      · intro W2 hW2 hl2
        have hI2 : I i W2 := by rw [hW2]; exact hI i W _ hi1 (hUL W _)
        have hs2 : W0.heap.size + 2 ≤ W2.heap.size := by rw [hW2]; simpa using hs1
        have hbd := hbody _ i hi W2 rfl hI2 hs2 ⟨_, hl2.lp⟩
        rw [← hr6] at hbd
        refine wpIn_mono hbd ?_
        intro e a3 W3 hp
        have put : ∀ q : Loop, (W3.heap[W0.heap.size + 1]? = W2.heap[W0.heap.size + 1]? ∧ W3.heap[W0.heap.size]? = W2.heap[W0.heap.size]?) → LoopAt W3 (W0.heap.size + 1) W0.heap.size { r with state := .busy } ∧ LoopAt (W3.putObj (W0.heap.size + 1) (.loop q)) (W0.heap.size + 1) W0.heap.size q ∧ W0.heap.size + 2 ≤ (W3.putObj (W0.heap.size + 1) (.loop q)).heap.size := by
          rintro q ⟨e1, e2⟩
          have hl3 := hl2.kept e1 e2
          refine ⟨hl3, hl3.put q, ?_⟩
          have := (Array.getElem?_eq_some_iff.1 hl3.lp).1
          simp; omega
        cases e with
        | normal =>
          obtain ⟨hk, hin⟩ := hp
          obtain ⟨p1, p2, p4⟩ := put { r with state := .ready, pending := none } hk
          have er : ({ r with state := .ready, pending := none } : Loop) = r := by cases r; simp_all
          refine ⟨p1, hI _ W3 _ hin (hUL W3 _), ?_, p4⟩
          rw [er] at p2 ⊢
          exact p2
        | ret =>
          obtain ⟨hk, hin⟩ := hp
          obtain ⟨p1, p2, p4⟩ := put { r with state := .done, pending := some .ret } hk
          exact ⟨p1, hIx _ W3 _ hin (hUL W3 _), p2⟩
        | exit id =>
          obtain ⟨hk, hin⟩ := hp
          obtain ⟨p1, p2, p4⟩ := put { r with state := .done, pending := some (.exit id) } hk
          exact ⟨p1, hIx _ W3 _ hin (hUL W3 _), p2⟩
        | goto t => exact hp.elim
        | panic ch => exact hp.elim
        | outgrown => exact hp.elim
      · rintro e W' (⟨rfl, h1⟩ | ⟨rfl, c, h1⟩)
        · exact .inl ⟨rfl, h1⟩
        · exact .inr ⟨rfl, c, h1⟩
  · intro W3 q hd hl
    exact hdone _ (hI _ W3 _ hd (hUL W3 _)) hl.defs
  · intro W3 q c hs hl
    exact wpIn_wide.2 (hstop c _ (hIx _ W3 _ hs (hUL W3 _)) hl.defs)
end Go.Proofs.YthgcdohndchdkaaGreatDoor.W
/- Package heap: the words of a row, one behind the other: the iterator, and a range over it. -/
namespace Go.Proofs.YthgcdohndchdkaaGreatDoor.W
open Go.ChangeShapes Go.WideShapes Go.RowKit Go.Shelf
set_option linter.unusedVariables false
theorem words_c (W : World) (hb id : Nat) : Calls Tryz.prog 157 #[.pointer (some ⟨hb, 0, none⟩), .int .i64 id] W fun e w' => e = .returned (.func (.func 205) #[] #[.pointer (some ⟨W.heap.size, 0, none⟩), .pointer (some ⟨W.heap.size + 1, 0, none⟩)]) ∧ w' = (W.alloc (.cells #[.pointer (some ⟨hb, 0, none⟩)] 23)).alloc (.cells #[.int .i64 id] 3) := by
  go_enter Tryz.func157, Tryz.ntmps157
  go_wp2
  go_ret
  exact ⟨rfl, rfl⟩
section
variable {hb sb : Nat} {vc : Value} {T : Nat → Prop} {H : List (Option Hc)} {u h : Nat}
set_option maxHeartbeats 1000000 in
theorem words_iter (Bh Bi id : Nat) (ws : List Nat) (hrow : H[id]? = some (some (.row ws))) :
    Iter 205 #[.pointer (some ⟨Bh, 0, none⟩), .pointer (some ⟨Bi, 0, none⟩)] (ws.map (fun w => #[.int .u64 (w : Nat)])) (fun _ W => HLay W hb sb vc T H u h ∧ W.cell? ⟨Bh, 0, none⟩ = some (.pointer (some ⟨hb, 0, none⟩)) ∧ W.cell? ⟨Bi, 0, none⟩ = some (.int .i64 id)) := by
  intro n l J X hn hL hB hY W h0
  rw [List.length_map]
  have hY : ∀ i (hi : i < ws.length) W, J i W → YieldAt Fence.wide (n - 1) Tryz.prog l #[.int .u64 (ws[i] : Nat)] W fun e W' => (e = .returned (.bool true) ∧ J (i + 1) W') ∨ (e = .returned (.bool false) ∧ X W') := by
    intro i hi W hJ
    have := hY i (by rw [List.length_map]; exact hi) W hJ
    rw [List.getElem_map] at this
    exact this
  show CallsIn Fence.wide n Tryz.prog 205 #[.func (.yield l) #[] #[], .pointer (some ⟨Bh, 0, none⟩), .pointer (some ⟨Bi, 0, none⟩)] W fun e W' => (∃ v, e = .returned v) ∧ (J ws.length W' ∨ X W')
  obtain ⟨g0, a1, a2⟩ := hL 0 W h0
  have hok := g0.ok id _ hrow
  have hwl : ws.length ≤ 1048576 := hok.2
  have cb := bytes_c g0 id _ hrow
  have eb : (Hc.row ws).bytes.length = 8 * ws.length := row_len ws
  obtain ⟨N, hN⟩ : ∃ N, N = 8 * ws.length := ⟨_, rfl⟩
  have HN := hid hN
  rw [← hN] at eb
  rw [eb] at cb
  clear hN
  refine callsIn_of_wp Tryz.func205 rfl trivial ?_ rfl
  simp only [Tryz.ntmps205, List.size_toArray, List.length_cons, List.length_nil, Nat.reduceAdd, Nat.reduceSub, Array.replicate_succ, Array.replicate_zero, List.push_toArray, List.append_toArray, List.nil_append, List.cons_append]
  gi_wp2_with ((refine ⟨trivial, ?_⟩); gi_at_call 92; (refine (callsIn_wide.2 cb).mono ?_); rintro e w' ⟨rfl, hw⟩; (have hw' := hw.symm); subst hw'; clear hw)
  gi_loopw [5] (fun off wr => ∃ i o : Nat, i ≤ ws.length ∧ o = 8 * i ∧ off = .int .i64 o ∧ J i wr) (fun off _ => N - (intOf off).toNat)
  case atStart => exact ⟨0, 0, Nat.zero_le _, rfl, rfl, h0⟩
  case round =>
    obtain ⟨i, o, hi, ho, rfl, hJi⟩ := hrel
    have HO := hid ho
    clear cb a1 a2 g0
    have hNs : N ≤ 8388608 := by have := HN.out; omega
    by_cases hlt : i < ws.length
    · obtain ⟨g1, b1, b2⟩ := hL i wr hJi
      have c0 := g1.cell 0
      simp at c0
      have cl := load_st (g1.same (W' := wr.drew) rfl).st id _ (hA_some hrow) o 8 (.inr (.inr (.inr rfl))) (by omega) (by have := HN.out; rw [eb]; omega)
      have ew : leN (seg (Hc.row ws).bytes o 8) = ws[i] := by rw [ho]; exact row_load ws i ws[i] (by simp) (hok.1 _ (List.getElem_mem hlt))
      rw [ew] at cl
      have o1 : (o : Int) < N := by have := HN.out; omega
      have o2 : IntKind.i64.wrap ((o : Int) + 8) = (o : Int) + 8 := by rw [IntKind.wrap_i64]; omega
      have hw8 : ((8 : Nat) : Int) = 8 := rfl
      rw [hw8] at cl
      have HJ : Hid (∀ w2, Below wr.heap.size wr w2 → J i w2) := fun w2 h => hB i wr w2 hJi h
      clear ew hJi g1 ho
      gi_wp2
      refine wpIn_wide.2 ?_
      go_region_held3 (fun w' => w'.cell? ⟨Bh, 0, none⟩ = some (.pointer (some ⟨hb, 0, none⟩)) ∧ w'.cell? ⟨Bi, 0, none⟩ = some (.int .i64 id) ∧ w'.cell? ⟨hb, 0, none⟩ = some (.pointer (some ⟨sb, 0, none⟩))) (first | exact ⟨b1, b2, c0⟩ | exact k2) (first | (go_at_call 195; (with_reducible refine cl.mono ?_); rintro e w2 ⟨rfl, hBl⟩; (have k2 := (show _ ∧ _ ∧ _ from ⟨below_cell hBl (show wr.drew.cell? _ = _ from b1), below_cell hBl (show wr.drew.cell? _ = _ from b2), below_cell hBl (show wr.drew.cell? _ = _ from c0)⟩)); clear b1 b2 c0 cl))
      obtain ⟨fn, tmps, assign, body, hy, hR⟩ := hY i hlt w2 (HJ.out w2 ⟨hBl.os, hBl.tape, hBl.output, hBl.size, hBl.block⟩)
      gi_wp2
      refine hR.mono ?_
      rintro e W3 (⟨rfl, hK3⟩ | ⟨rfl, hX3⟩)
      · clear hY hL hB hy hR
        gi_wp2
        go_roundw
        case rel => exact ⟨i + 1, o + 8, hlt, by have := HO.out; omega, by go_num, hK3⟩
        case measure => show N - (o + 8 : Int).toNat < N - (o : Int).toNat; omega
      · clear hY hL hB hy hR
        gi_wp2
        refine bodyPost_ret (results_none rfl _ _ _) rfl ?_
        exact ⟨⟨_, rfl⟩, .inr hX3⟩
    · have he : i = ws.length := by omega
      have o1 : ¬ (o : Int) < N := by have := HN.out; omega
      rw [he] at hJi
      clear hY hL hB
      gi_wp2
      go_end0
      exact ⟨⟨_, rfl⟩, .inl hJi⟩
theorem eg_words : ∀ args w, (callFunc 205 args).run Tryz.prog w = .ok (.enter 205 args) w := enters_of Tryz.func205 (by kernel_rfl) rfl
/-- the frame in which a round's body begins -/
def wAct (pt q : Nat) (a : Act) (w : Nat) : Act := { tmps := (a.tmps.setIfInBounds pt (.int .u64 (w : Int))).setIfInBounds q (.int .u64 (w : Int)), defers := [] }
theorem words_law {g : Operand} {pt : Nat} {assign body : Code} {Q : Exit → Act → World → Prop} {a : Act} {W0 : World} {Bh Bi id : Nat} (ws : List Nat) (hrow : H[id]? = some (some (.row ws))) (hg : a.eval g = .func (.func 205) #[] #[.pointer (some ⟨Bh, 0, none⟩), .pointer (some ⟨Bi, 0, none⟩)])
    (I : Nat → World → Prop) (Ix : Code → World → Prop) (hL : ∀ i W, I i W → HLay W hb sb vc T H u h ∧ W.cell? ⟨Bh, 0, none⟩ = some (.pointer (some ⟨hb, 0, none⟩)) ∧ W.cell? ⟨Bi, 0, none⟩ = some (.int .i64 id))
    (hI : ∀ i W W', I i W → Upd (fun k => k = W0.heap.size + 1) W W' → I i W')
    (hIx : ∀ c W W', Ix c W → Upd (fun k => k = W0.heap.size + 1) W W' → Ix c W') (h0 : I 0 W0) (q : Nat)
    (hassign : ∀ (L x : Nat) (W : World) (K : Act → World → Prop), K (wAct pt q a x) W → assign.wpIn (Fence.wide.inRound L) 7 Tryz.prog (Exit.then K (fun _ _ _ => False)) { tmps := a.tmps.setIfInBounds pt (.int .u64 (x : Int)), defers := [] } W)
    (hbody : ∀ (L : Nat) i (hi : i < ws.length) W, L = W0.heap.size + 1 → I i W → W0.heap.size + 2 ≤ W.heap.size → (∃ r, W.heap[L]? = some (.loop r)) → body.wpIn (Fence.wide.inRound L) 7 Tryz.prog (rndWay L W0.heap.size W (I (i + 1)) Ix) (wAct pt q a ws[i]) W)
    (hdone : ∀ W, I ws.length W → W.heap[W0.heap.size]? = some (.deferred (some [])) → Q .normal { a with defers := { target := .collected W0.heap.size, args := #[] } :: a.defers } W)
    (hstop : ∀ c W, Ix c W → W.heap[W0.heap.size]? = some (.deferred (some [])) → c.wp Tryz.prog Q { a with defers := { target := .collected W0.heap.size, args := #[] } :: a.defers } W) :
    (Code.rangeFunc g #[pt] assign body).wp Tryz.prog Q a W0 := by
  have hlen : (ws.map (fun w => (#[.int .u64 (w : Nat)] : Array Value))).length = ws.length := List.length_map ..
  refine iter_law (words_iter (hb := hb) (sb := sb) (vc := vc) (T := T) (u := u) (h := h) Bh Bi id ws hrow) eg_words hg I Ix hL hI hIx h0 (fun i => wAct pt q a (ws.getD i 0)) ?_ ?_ ?_ ?_ hstop
  · intro i hi; rw [List.getElem_map]; rfl
  · intro L i hi W K hK
    rw [List.getElem_map, zip_one]
    have hi' : i < ws.length := by rw [← hlen]; exact hi
    have e : ws.getD i 0 = ws[i] := by simp [hi']
    simp only [e] at hK
    exact hassign L ws[i] W K hK
  · intro L i hi W hLe hIi hs hr
    have hi' : i < ws.length := by rw [← hlen]; exact hi
    have e : ws.getD i 0 = ws[i] := by simp [hi']
    simp only [e]
    exact hbody L i hi' W hLe hIi hs hr
  · intro W hW hD
    rw [hlen] at hW
    exact hdone W hW hD
end
end Go.Proofs.YthgcdohndchdkaaGreatDoor.W
/- Package heap: the pieces of n bytes: the iterator. -/
namespace Go.Proofs.YthgcdohndchdkaaGreatDoor.W
open Go.ChangeShapes Go.WideShapes Go.RowKit Go.Shelf
set_option linter.unusedVariables false
/-- where the piece k of n bytes begins -/
def pieceO (n k : Nat) : Nat := if k ≤ n / 8 then 8 * k else 8 * (n / 8) + (k - n / 8)
/-- how many bytes it has -/
def pieceW (n k : Nat) : Nat := if k < n / 8 then 8 else 1
/-- how many pieces there are -/
def pieceN (n : Nat) : Nat := n / 8 + n % 8
theorem piece_next (n k : Nat) : pieceO n (k + 1) = pieceO n k + pieceW n k := by
  unfold pieceO pieceW
  by_cases h : k < n / 8
  · rw [if_pos (by omega), if_pos (by omega), if_pos h]; omega
  · by_cases h2 : k ≤ n / 8
    · rw [if_neg (by omega), if_pos h2, if_neg h]; omega
    · rw [if_neg (by omega), if_neg h2, if_neg h]; omega
theorem piece_end (n : Nat) : pieceO n (pieceN n) = n := by
  unfold pieceO pieceN
  by_cases h : n % 8 = 0
  · rw [if_pos (by omega)]; omega
  · rw [if_neg (by omega)]; omega
theorem piece_lt (n k : Nat) (h : k < pieceN n) : pieceO n k + pieceW n k ≤ n ∧ pieceO n k % pieceW n k = 0 := by
  unfold pieceO pieceW pieceN at *
  by_cases h1 : k < n / 8
  · rw [if_pos (by omega), if_pos h1]; omega
  · by_cases h2 : k ≤ n / 8
    · rw [if_pos h2, if_neg h1]; omega
    · rw [if_neg h2, if_neg h1]; omega
theorem piece_zero (n : Nat) : pieceO n 0 = 0 := by unfold pieceO; rw [if_pos (by omega)]
/-- the pieces, as they are told -/
def piecesV (n : Nat) : List (Array Value) := (List.range (pieceN n)).map (fun k => #[.int .i64 (pieceO n k : Nat), .int .i64 (pieceW n k : Nat)])
theorem pieces_c (W : World) (n : Nat) : Calls Tryz.prog 236 #[.int .i64 n] W fun e w' => e = .returned (.func (.func 279) #[] #[.pointer (some ⟨W.heap.size, 0, none⟩)]) ∧ w' = W.alloc (.cells #[.int .i64 n] 3) := by
  go_enter Tryz.func236, Tryz.ntmps236
  go_wp2
  go_ret
  exact ⟨rfl, rfl⟩
theorem pieces_iter (Bn nn : Nat) (hnn : nn ≤ 8388608) : Iter 279 #[.pointer (some ⟨Bn, 0, none⟩)] (piecesV nn) (fun _ W => W.cell? ⟨Bn, 0, none⟩ = some (.int .i64 nn)) := by
  intro n l J X hn hL hB hY W h0
  have hlen : (piecesV nn).length = pieceN nn := by unfold piecesV; rw [List.length_map, List.length_range]
  rw [hlen]
  have hY : ∀ i (hi : i < pieceN nn) W, J i W → YieldAt Fence.wide (n - 1) Tryz.prog l #[.int .i64 (pieceO nn i : Nat), .int .i64 (pieceW nn i : Nat)] W fun e W' => (e = .returned (.bool true) ∧ J (i + 1) W') ∨ (e = .returned (.bool false) ∧ X W') := by
    intro i hi W hJ
    have := hY i (by rw [hlen]; exact hi) W hJ
    unfold piecesV at this
    rw [List.getElem_map, List.getElem_range] at this
    exact this
  show CallsIn Fence.wide n Tryz.prog 279 #[.func (.yield l) #[] #[], .pointer (some ⟨Bn, 0, none⟩)] W fun e W' => (∃ v, e = .returned v) ∧ (J (pieceN nn) W' ∨ X W')
  refine callsIn_of_wp Tryz.func279 rfl trivial ?_ rfl
  simp only [Tryz.ntmps279, List.size_toArray, List.length_cons, List.length_nil, Nat.reduceAdd, Nat.reduceSub, Array.replicate_succ, Array.replicate_zero, List.push_toArray, List.append_toArray, List.nil_append, List.cons_append]
  gi_wp2
  gi_loopw [3, 4] (fun wd off wr => ∃ i o v : Nat, i ≤ pieceN nn ∧ o = pieceO nn i ∧ v = (if i ≤ nn / 8 then 8 else 1) ∧ off = .int .i64 o ∧ wd = .int .i64 v ∧ J i wr) (fun _ off _ => nn - (intOf off).toNat)
  case atStart => exact ⟨0, 0, 8, Nat.zero_le _, (piece_zero nn).symm, by rw [if_pos (Nat.zero_le _)], rfl, rfl, h0⟩
  case round =>
    obtain ⟨i, o, v, hi, ho, hv, rfl, rfl, hJi⟩ := hrel
    have cn := hL i wr hJi
    have HO := hid ho
    have HV := hid hv
    by_cases hlt : i < pieceN nn
    · have hp := piece_lt nn i hlt
      have hnx := piece_next nn i
      have hw1 : pieceW nn i = 8 ∨ pieceW nn i = 1 := by unfold pieceW; split <;> simp
      have o1 : (o : Int) < nn := by omega
      have v8 : v = 8 ∨ v = 1 := by rw [hv]; split <;> simp
      have a1 : IntKind.i64.wrap ((o : Int) + (v : Int)) = (o : Int) + (v : Int) := by rw [IntKind.wrap_i64]; omega
      have hvn : (if i + 1 ≤ nn / 8 then 8 else 1) = pieceW nn i := by
        unfold pieceW
        by_cases c : i < nn / 8
        · rw [if_pos (by omega), if_pos c]
        · rw [if_neg (by omega), if_neg c]
      have HVN := hid hvn
      have HP := hid hp
      obtain ⟨fn, tmps, assign, body, hy, hR⟩ := hY i hlt wr hJi
      rw [← ho] at hy
      have HX := hid hnx
      clear hY hL hB hJi hp hnx hvn ho hv
      by_cases hbig : o + v > nn
      · have hw : pieceW nn i = 1 := by
          have h1 := HO.out
          have h2 := HV.out
          have h3 := HP.out
          rcases hw1 with e | e
          · rw [← h1, e] at h3
            rcases v8 with e2 | e2 <;> omega
          · exact e
        have g1 : (o : Int) + (v : Int) > nn := by omega
        have a2 : IntKind.i64.wrap ((o : Int) + 1) = (o : Int) + 1 := by rw [IntKind.wrap_i64]; omega
        rw [hw, show ((1 : Nat) : Int) = 1 from rfl] at hy
        gi_wp2
        refine hR.mono ?_
        rintro e W3 (⟨rfl, hK3⟩ | ⟨rfl, hX3⟩)
        · clear hy hR
          gi_wp2
          go_roundw
          case rel => exact ⟨i + 1, o + 1, 1, hlt, by have := HX.out; rw [hw] at this; have := HO.out; omega, by have := HVN.out; omega, by go_num, rfl, hK3⟩
          case measure => show nn - (o + 1 : Int).toNat < nn - (o : Int).toNat; omega
        · clear hy hR
          gi_wp2
          refine bodyPost_ret (results_none rfl _ _ _) rfl ?_
          exact ⟨⟨_, rfl⟩, .inr hX3⟩
      · have hw : pieceW nn i = v := by
          have h1 := HO.out
          have h2 := HV.out
          have h3 := HP.out
          unfold pieceO at h1
          unfold pieceW
          by_cases c : i < nn / 8
          · rw [if_pos c]; rw [if_pos (by omega)] at h2; omega
          · rw [if_neg c]
            by_cases d : i ≤ nn / 8
            · rw [if_pos d] at h1 h2; omega
            · rw [if_neg d] at h2; omega
        have g1 : ¬ (o : Int) + (v : Int) > nn := by omega
        rw [hw] at hy
        gi_wp2
        refine hR.mono ?_
        rintro e W3 (⟨rfl, hK3⟩ | ⟨rfl, hX3⟩)
        · clear hy hR
          gi_wp2
          go_roundw
          case rel => exact ⟨i + 1, o + v, v, hlt, by have := HX.out; rw [hw] at this; have := HO.out; omega, by have := HVN.out; omega, by go_num, rfl, hK3⟩
          case measure => show nn - (o + v : Int).toNat < nn - (o : Int).toNat; omega
        · clear hy hR
          gi_wp2
          refine bodyPost_ret (results_none rfl _ _ _) rfl ?_
          exact ⟨⟨_, rfl⟩, .inr hX3⟩
    · have he : i = pieceN nn := by omega
      have o1 : ¬ (o : Int) < nn := by have := piece_end nn; rw [he] at ho; omega
      rw [he] at hJi
      clear hY hL hB ho hv
      gi_wp2
      go_end0
      exact ⟨⟨_, rfl⟩, .inl hJi⟩
end Go.Proofs.YthgcdohndchdkaaGreatDoor.W
