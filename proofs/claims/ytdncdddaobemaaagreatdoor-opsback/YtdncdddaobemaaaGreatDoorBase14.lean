import Derived.Test.YtdncdddaobemaaaGreatDoorBase13
import Derived.BigQuiet
import Derived.Deep.AppendSrc
import Derived.Test.YtdncdddaobemaaaGreatDoorBase1
/- Package ops: comparing operators on numbers, in words. -/
namespace Go.Proofs.YtdncdddaobemaaaGreatDoor.W.Nu
open Go.ChangeShapes Go.WideShapes Go.RowKit Go.Shelf
set_option linter.unusedVariables false
theorem eg_orders1 : ∀ args w, (callFunc 198 args).run Tryz.prog w = .ok (.enter 198 args) w := enters_of Tryz.func198 (by kernel_rfl) rfl
theorem eg_equates1 : ∀ args w, (callFunc 136 args).run Tryz.prog w = .ok (.enter 136 args) w := enters_of Tryz.func136 (by kernel_rfl) rfl
theorem eg_swapped1 : ∀ args w, (callFunc 201 args).run Tryz.prog w = .ok (.enter 201 args) w := enters_of Tryz.func201 (by kernel_rfl) rfl
theorem eg_less : ∀ args w, (callFunc 145 args).run Tryz.prog w = .ok (.enter 145 args) w := enters_of Tryz.func145 (by kernel_rfl) rfl
theorem eg_lessEq : ∀ args w, (callFunc 147 args).run Tryz.prog w = .ok (.enter 147 args) w := enters_of Tryz.func147 (by kernel_rfl) rfl
theorem nil_neq (w : World) : (binOp .neq 49 .nilFunc .nilFunc).run Tryz.prog w = .ok (.bool false) w := by kernel_rfl
/-- what stands behind an order's first captured variable -/
def PF (g : Nat) (w : World) (cp : Nat) : Prop := w.cell? ⟨cp, 0, none⟩ = some (.func (.func g) #[] #[])
def PS (g : Nat) (w : World) (cp : Nat) : Prop := ∃ cs, w.cell? ⟨cp, 0, none⟩ = some (.func (.func 201) #[] #[.pointer (some ⟨cs, 0, none⟩)]) ∧ w.cell? ⟨cs, 0, none⟩ = some (.func (.func g) #[] #[])
theorem PF.keep {g : Nat} (w w' : World) (cp : Nat) (h : PF g w cp) (hB : Below w.heap.size w w') : PF g w' cp := cell_keep hB h
theorem PS.keep {g : Nat} (w w' : World) (cp : Nat) (h : PS g w cp) (hB : Below w.heap.size w w') : PS g w' cp := by
  obtain ⟨cs, h1, h2⟩ := h
  exact ⟨cs, cell_keep hB h1, cell_keep hB h2⟩
set_option maxRecDepth 100000 in
theorem bitwise_lt (W : World) : Calls Tryz.prog 90 #[.string ⟨#[60]⟩] W fun e w' => e = .returned .nilFunc ∧ w' = W := by
  go_enter Tryz.func90, Tryz.ntmps90
  go_wp2
  go_ret
  exact ⟨rfl, rfl⟩
set_option maxRecDepth 100000 in
theorem ordering_lt (W : World) : Calls Tryz.prog 91 #[.string ⟨#[60]⟩] W fun e w' => ∃ cp cq, e = .returned (.func (.func 198) #[] #[.pointer (some ⟨cp, 0, none⟩), .pointer (some ⟨cq, 0, none⟩)]) ∧ PF 145 w' cp ∧ Below W.heap.size W w' := by
  go_enter Tryz.func91, Tryz.ntmps91
  go_wp2_with (go_at_call 144; (with_reducible refine (orders_c _ _ _ _).mono ?_); rintro e w2 ⟨cp, cq, rfl, h⟩)
  go_ret
  exact ⟨_, _, rfl, h⟩
set_option maxRecDepth 100000 in
theorem binary_lt (W : World) : Calls Tryz.prog 48 #[.string ⟨#[60]⟩] W fun e w' => ∃ cp cq, e = .returned (.func (.func 198) #[] #[.pointer (some ⟨cp, 0, none⟩), .pointer (some ⟨cq, 0, none⟩)]) ∧ PF 145 w' cp ∧ Below W.heap.size W w' := by
  have hne := nil_neq
  go_enter Tryz.func48, Tryz.ntmps48
  go_wp2_with (first | (go_at_call 90; (with_reducible refine (bitwise_lt _).mono ?_); rintro e w' ⟨rfl, hw⟩; (have hw' := hw.symm); subst hw'; clear hw) | (go_at_call 91; (with_reducible refine (ordering_lt _).mono ?_); rintro e w2 ⟨cp, cq, rfl, h⟩))
  go_ret
  exact ⟨_, _, rfl, h⟩
set_option maxRecDepth 100000 in
theorem bitwise_le (W : World) : Calls Tryz.prog 90 #[.string ⟨#[60, 61]⟩] W fun e w' => e = .returned .nilFunc ∧ w' = W := by
  go_enter Tryz.func90, Tryz.ntmps90
  go_wp2
  go_ret
  exact ⟨rfl, rfl⟩
set_option maxRecDepth 100000 in
theorem ordering_le (W : World) : Calls Tryz.prog 91 #[.string ⟨#[60, 61]⟩] W fun e w' => ∃ cp cq, e = .returned (.func (.func 198) #[] #[.pointer (some ⟨cp, 0, none⟩), .pointer (some ⟨cq, 0, none⟩)]) ∧ PF 147 w' cp ∧ Below W.heap.size W w' := by
  go_enter Tryz.func91, Tryz.ntmps91
  go_wp2_with (go_at_call 144; (with_reducible refine (orders_c _ _ _ _).mono ?_); rintro e w2 ⟨cp, cq, rfl, h⟩)
  go_ret
  exact ⟨_, _, rfl, h⟩
set_option maxRecDepth 100000 in
theorem binary_le (W : World) : Calls Tryz.prog 48 #[.string ⟨#[60, 61]⟩] W fun e w' => ∃ cp cq, e = .returned (.func (.func 198) #[] #[.pointer (some ⟨cp, 0, none⟩), .pointer (some ⟨cq, 0, none⟩)]) ∧ PF 147 w' cp ∧ Below W.heap.size W w' := by
  have hne := nil_neq
  go_enter Tryz.func48, Tryz.ntmps48
  go_wp2_with (first | (go_at_call 90; (with_reducible refine (bitwise_le _).mono ?_); rintro e w' ⟨rfl, hw⟩; (have hw' := hw.symm); subst hw'; clear hw) | (go_at_call 91; (with_reducible refine (ordering_le _).mono ?_); rintro e w2 ⟨cp, cq, rfl, h⟩))
  go_ret
  exact ⟨_, _, rfl, h⟩
set_option maxRecDepth 100000 in
theorem bitwise_gt (W : World) : Calls Tryz.prog 90 #[.string ⟨#[62]⟩] W fun e w' => e = .returned .nilFunc ∧ w' = W := by
  go_enter Tryz.func90, Tryz.ntmps90
  go_wp2
  go_ret
  exact ⟨rfl, rfl⟩
set_option maxRecDepth 100000 in
theorem ordering_gt (W : World) : Calls Tryz.prog 91 #[.string ⟨#[62]⟩] W fun e w' => ∃ cp cq, e = .returned (.func (.func 198) #[] #[.pointer (some ⟨cp, 0, none⟩), .pointer (some ⟨cq, 0, none⟩)]) ∧ PS 145 w' cp ∧ Below W.heap.size W w' := by
  go_enter Tryz.func91, Tryz.ntmps91
  go_wp2_with (first | (go_at_call 149; (with_reducible refine (swapped_c _ _).mono ?_); rintro e w1 ⟨rfl, hs, hB1⟩; (replace hs := hid hs); (replace hB1 := hid hB1)) | (go_at_call 144; (with_reducible refine (orders_c _ _ _ _).mono ?_); rintro e w2 ⟨cp, cq, rfl, h, hB2⟩))
  go_ret
  exact ⟨_, _, rfl, ⟨_, h, cell_keep hB2 hs.out⟩, hB1.out.trans (hB2.mono hB1.out.size)⟩
set_option maxRecDepth 100000 in
theorem binary_gt (W : World) : Calls Tryz.prog 48 #[.string ⟨#[62]⟩] W fun e w' => ∃ cp cq, e = .returned (.func (.func 198) #[] #[.pointer (some ⟨cp, 0, none⟩), .pointer (some ⟨cq, 0, none⟩)]) ∧ PS 145 w' cp ∧ Below W.heap.size W w' := by
  have hne := nil_neq
  go_enter Tryz.func48, Tryz.ntmps48
  go_wp2_with (first | (go_at_call 90; (with_reducible refine (bitwise_gt _).mono ?_); rintro e w' ⟨rfl, hw⟩; (have hw' := hw.symm); subst hw'; clear hw) | (go_at_call 91; (with_reducible refine (ordering_gt _).mono ?_); rintro e w2 ⟨cp, cq, rfl, h⟩))
  go_ret
  exact ⟨_, _, rfl, h⟩
set_option maxRecDepth 100000 in
theorem bitwise_ge (W : World) : Calls Tryz.prog 90 #[.string ⟨#[62, 61]⟩] W fun e w' => e = .returned .nilFunc ∧ w' = W := by
  go_enter Tryz.func90, Tryz.ntmps90
  go_wp2
  go_ret
  exact ⟨rfl, rfl⟩
set_option maxRecDepth 100000 in
theorem ordering_ge (W : World) : Calls Tryz.prog 91 #[.string ⟨#[62, 61]⟩] W fun e w' => ∃ cp cq, e = .returned (.func (.func 198) #[] #[.pointer (some ⟨cp, 0, none⟩), .pointer (some ⟨cq, 0, none⟩)]) ∧ PS 147 w' cp ∧ Below W.heap.size W w' := by
  go_enter Tryz.func91, Tryz.ntmps91
  go_wp2_with (first | (go_at_call 149; (with_reducible refine (swapped_c _ _).mono ?_); rintro e w1 ⟨rfl, hs, hB1⟩; (replace hs := hid hs); (replace hB1 := hid hB1)) | (go_at_call 144; (with_reducible refine (orders_c _ _ _ _).mono ?_); rintro e w2 ⟨cp, cq, rfl, h, hB2⟩))
  go_ret
  exact ⟨_, _, rfl, ⟨_, h, cell_keep hB2 hs.out⟩, hB1.out.trans (hB2.mono hB1.out.size)⟩
set_option maxRecDepth 100000 in
theorem binary_ge (W : World) : Calls Tryz.prog 48 #[.string ⟨#[62, 61]⟩] W fun e w' => ∃ cp cq, e = .returned (.func (.func 198) #[] #[.pointer (some ⟨cp, 0, none⟩), .pointer (some ⟨cq, 0, none⟩)]) ∧ PS 147 w' cp ∧ Below W.heap.size W w' := by
  have hne := nil_neq
  go_enter Tryz.func48, Tryz.ntmps48
  go_wp2_with (first | (go_at_call 90; (with_reducible refine (bitwise_ge _).mono ?_); rintro e w' ⟨rfl, hw⟩; (have hw' := hw.symm); subst hw'; clear hw) | (go_at_call 91; (with_reducible refine (ordering_ge _).mono ?_); rintro e w2 ⟨cp, cq, rfl, h⟩))
  go_ret
  exact ⟨_, _, rfl, h⟩
theorem equates_c (b : Bool) (W : World) : Calls Tryz.prog 89 #[.bool b] W fun e w' => e = .returned (.func (.func 136) #[] #[.pointer (some ⟨W.heap.size, 0, none⟩)]) ∧ w'.cell? ⟨W.heap.size, 0, none⟩ = some (.bool b) ∧ Below W.heap.size W w' := by
  have hB : Below W.heap.size W (W.alloc (.cells #[.bool b] 4)) := (Below.refl _ W).alloc (Nat.le_refl _) _
  have hc : (W.alloc (.cells #[.bool b] 4)).cell? ⟨W.heap.size, 0, none⟩ = some (.bool b) := by rw [World.cell?_alloc_new]; rfl
  have H := hid (And.intro hc hB)
  clear hc hB
  go_enter Tryz.func89, Tryz.ntmps89
  go_wp2
  go_ret
  exact ⟨rfl, H.out⟩
set_option maxRecDepth 100000 in
theorem binary_eq (W : World) : Calls Tryz.prog 48 #[.string ⟨#[61, 61]⟩] W fun e w' => ∃ cp, e = .returned (.func (.func 136) #[] #[.pointer (some ⟨cp, 0, none⟩)]) ∧ w'.cell? ⟨cp, 0, none⟩ = some (.bool true) ∧ Below W.heap.size W w' := by
  go_enter Tryz.func48, Tryz.ntmps48
  go_wp2_with (go_at_call 89; (with_reducible refine (equates_c _ _).mono ?_); rintro e w2 ⟨rfl, h⟩)
  go_ret
  exact ⟨_, rfl, h⟩
set_option maxRecDepth 100000 in
theorem binary_ne (W : World) : Calls Tryz.prog 48 #[.string ⟨#[33, 61]⟩] W fun e w' => ∃ cp, e = .returned (.func (.func 136) #[] #[.pointer (some ⟨cp, 0, none⟩)]) ∧ w'.cell? ⟨cp, 0, none⟩ = some (.bool false) ∧ Below W.heap.size W w' := by
  go_enter Tryz.func48, Tryz.ntmps48
  go_wp2_with (go_at_call 89; (with_reducible refine (equates_c _ _).mono ?_); rintro e w2 ⟨rfl, h⟩)
  go_ret
  exact ⟨_, rfl, h⟩
/-- a number that stands in a word: whole, or a double (its own pattern) -/
def IsNum (H : List (Option Hc)) (w : Nat) (a : Bool) (i u : Int) : Prop := (a = true ∧ u = 0 ∧ IsInt H w i ∧ -9223372036854775808 ≤ i ∧ i < 9223372036854775808) ∨ (a = false ∧ i = 0 ∧ (w : Int) = u ∧ Go.Proofs.YtdncdddaobemaaaGreatDoor.W.cls u = 1 ∧ w < 18446744073709551616)
def kV (a : Bool) : Int := if a = true then 2 else 3
theorem IsNum.lt {H : List (Option Hc)} {w : Nat} {a : Bool} {i u : Int} (h : IsNum H w a i u) : w < 18446744073709551616 := by
  rcases h with ⟨_, _, h, _⟩ | ⟨_, _, _, _, h⟩
  · exact IsInt.lt h
  · exact h
theorem IsNum.inN {H : List (Option Hc)} {w : Nat} {a : Bool} {i u : Int} (h : IsNum H w a i u) : inN i u := by
  rcases h with ⟨_, rfl, _, h⟩ | ⟨_, rfl, h1, _, h⟩
  · exact ⟨h, by omega, by omega⟩
  · exact ⟨by omega, by omega, by omega⟩
theorem IsNum.ext {H H' : List (Option Hc)} {w : Nat} {a : Bool} {i u : Int} (h : IsNum H w a i u) (he : Ext H H') : IsNum H' w a i u := by
  rcases h with ⟨h1, h2, h3, h4⟩ | h
  · exact .inl ⟨h1, h2, h3.ext he, h4⟩
  · exact .inr h
theorem unbox_n {W : World} {S : Nat → Prop} {hb : Nat} {H : List (Option Hc)} {u' : Nat} (q : HSt W S hb H u') (w : Nat) (a : Bool) (i u : Int) (h : IsNum H w a i u) :
    Calls Tryz.prog 14 #[.pointer (some ⟨hb, 0, none⟩), .int .u64 w] W fun e w' => e = .returned (.tuple #[.agg #[.int .i64 (kV a), .int .i64 i, .int .u64 u, .string ⟨#[]⟩, .int .u64 0], .int .i64 0]) ∧ Below W.heap.size W w' := by
  rcases h with ⟨rfl, rfl, h, _⟩ | ⟨rfl, rfl, h, hc, hl⟩
  · exact unbox_int q w i h
  · rw [h]
    exact unbox_flt u (by omega) (by omega) hc _ W
theorem number_n (a : Bool) (i u : Int) (h : (a = true ∧ u = 0) ∨ (a = false ∧ i = 0)) (w : World) : Calls Tryz.prog 46 #[.agg #[.int .i64 (kV a), .int .i64 i, .int .u64 u, .string ⟨#[]⟩, .int .u64 0]] w fun e w' => e = .returned (.tuple #[.agg #[.bool a, .int .i64 i, .int .u64 u], .bool true]) ∧ Gr w w' := by
  rcases h with ⟨rfl, rfl⟩ | ⟨rfl, rfl⟩
  · exact number_i i 0 0 _ w
  · exact number_f 0 u 0 _ w
theorem IsNum.shape {H : List (Option Hc)} {w : Nat} {a : Bool} {i u : Int} (h : IsNum H w a i u) : (a = true ∧ u = 0) ∨ (a = false ∧ i = 0) := by
  rcases h with ⟨h1, h2, _⟩ | ⟨h1, h2, _⟩
  · exact .inl ⟨h1, h2⟩
  · exact .inr ⟨h1, h2⟩
section
variable {W0 W : World} {hb : Nat} {H : List (Option Hc)} {u' : Nat} {K : Nat → Prop}
theorem bin_lt (q : Hf W0 W hb H u' K) (x y : Nat) (a b : Bool) (i u j v : Int) (hx : IsNum H x a i u) (hy : IsNum H y b j v) (vr : Value) (rs : List Nat) (hr : WordsAt W vr rs) (hl : rs.length ≤ 999000) : Calls Tryz.prog 16 #[.pointer (some ⟨hb, 0, none⟩), .string ⟨#[60]⟩, .int .u64 (x : Nat), .int .u64 (y : Nat), vr] W (fun e w' => e = .returned (.tuple #[.int .u64 (boolW (lessN a i u b j v)), .int .i64 0]) ∧ Below W.heap.size W w') := by
  have sx := hx.shape
  have sy := hy.shape
  refine Binary_k2 W hb _ x y _ eg_orders1 _ (PF.keep) vr rs hr hl (kV a) i u 0 ⟨#[]⟩ (kV b) j v 0 ⟨#[]⟩ hx.lt hy.lt (binary_lt W) (fun w' h => unbox_n (q.below' h).2.choose_spec.1 x a i u hx) (fun w' h => unbox_n (q.below' h).2.choose_spec.1 y b j v hy) (by rintro e w' ⟨rfl, _⟩; exact ⟨_, _, rfl⟩) (fun w' cp cq wb vb vr' h hc hw0 hw1 hv hw => ?_)
  refine (orders1_g cp cq _ eg_less hc a b (lessN a i u b j v) i u j v (fun w2 h2 => numbers_tt w2 hb vb 2 _ _ (by decide) (by decide) (kV a) i u 0 (kV b) j v 0 _ _ (fun k => by rw [h2.cell (p := ⟨vb, k, none⟩) (cell_lt (hv 0))]; exact hv k) a b i u j v (number_n a i u sx) (number_n b j v sy)) (fun w2 h2 => (numLess_c a b i u j v hx.inN hy.inN w2).mono (fun e w3 h3 => ⟨h3.1, h3.2.below⟩))).mono ?_
  rintro e w3 ⟨rfl, h3⟩
  exact ⟨rfl, h.trans (h3.mono h.size)⟩
theorem bin_le (q : Hf W0 W hb H u' K) (x y : Nat) (a b : Bool) (i u j v : Int) (hx : IsNum H x a i u) (hy : IsNum H y b j v) (vr : Value) (rs : List Nat) (hr : WordsAt W vr rs) (hl : rs.length ≤ 999000) : Calls Tryz.prog 16 #[.pointer (some ⟨hb, 0, none⟩), .string ⟨#[60, 61]⟩, .int .u64 (x : Nat), .int .u64 (y : Nat), vr] W (fun e w' => e = .returned (.tuple #[.int .u64 (boolW (lessEqN a i u b j v)), .int .i64 0]) ∧ Below W.heap.size W w') := by
  have sx := hx.shape
  have sy := hy.shape
  refine Binary_k2 W hb _ x y _ eg_orders1 _ (PF.keep) vr rs hr hl (kV a) i u 0 ⟨#[]⟩ (kV b) j v 0 ⟨#[]⟩ hx.lt hy.lt (binary_le W) (fun w' h => unbox_n (q.below' h).2.choose_spec.1 x a i u hx) (fun w' h => unbox_n (q.below' h).2.choose_spec.1 y b j v hy) (by rintro e w' ⟨rfl, _⟩; exact ⟨_, _, rfl⟩) (fun w' cp cq wb vb vr' h hc hw0 hw1 hv hw => ?_)
  refine (orders1_g cp cq _ eg_lessEq hc a b (lessEqN a i u b j v) i u j v (fun w2 h2 => numbers_tt w2 hb vb 2 _ _ (by decide) (by decide) (kV a) i u 0 (kV b) j v 0 _ _ (fun k => by rw [h2.cell (p := ⟨vb, k, none⟩) (cell_lt (hv 0))]; exact hv k) a b i u j v (number_n a i u sx) (number_n b j v sy)) (fun w2 h2 => (numLessEq_c a b i u j v hx.inN hy.inN w2).mono (fun e w3 h3 => ⟨h3.1, h3.2.below⟩))).mono ?_
  rintro e w3 ⟨rfl, h3⟩
  exact ⟨rfl, h.trans (h3.mono h.size)⟩
theorem bin_gt (q : Hf W0 W hb H u' K) (x y : Nat) (a b : Bool) (i u j v : Int) (hx : IsNum H x a i u) (hy : IsNum H y b j v) (vr : Value) (rs : List Nat) (hr : WordsAt W vr rs) (hl : rs.length ≤ 999000) : Calls Tryz.prog 16 #[.pointer (some ⟨hb, 0, none⟩), .string ⟨#[62]⟩, .int .u64 (x : Nat), .int .u64 (y : Nat), vr] W (fun e w' => e = .returned (.tuple #[.int .u64 (boolW (lessN b j v a i u)), .int .i64 0]) ∧ Below W.heap.size W w') := by
  have sx := hx.shape
  have sy := hy.shape
  refine Binary_k2 W hb _ x y _ eg_orders1 _ (PS.keep) vr rs hr hl (kV a) i u 0 ⟨#[]⟩ (kV b) j v 0 ⟨#[]⟩ hx.lt hy.lt (binary_gt W) (fun w' h => unbox_n (q.below' h).2.choose_spec.1 x a i u hx) (fun w' h => unbox_n (q.below' h).2.choose_spec.1 y b j v hy) (by rintro e w' ⟨rfl, _⟩; exact ⟨_, _, rfl⟩) (fun w' cp cq wb vb vr' h hc hw0 hw1 hv hw => ?_)
  obtain ⟨cs, hc1, hc2⟩ := hc
  refine (orders1_s cp cq _ cs eg_swapped1 hc1 a b (lessN b j v a i u) i u j v (fun w2 h2 => numbers_tt w2 hb vb 2 _ _ (by decide) (by decide) (kV a) i u 0 (kV b) j v 0 _ _ (fun k => by rw [h2.cell (p := ⟨vb, k, none⟩) (cell_lt (hv 0))]; exact hv k) a b i u j v (number_n a i u sx) (number_n b j v sy)) (fun w2 h2 => swapped1_g w2 cs _ eg_less (cell_keep h2 hc2) a b (lessN b j v a i u) i u j v (fun w => numLess_c b a j v i u hy.inN hx.inN w))).mono ?_
  rintro e w3 ⟨rfl, h3⟩
  exact ⟨rfl, h.trans (h3.mono h.size)⟩
theorem bin_ge (q : Hf W0 W hb H u' K) (x y : Nat) (a b : Bool) (i u j v : Int) (hx : IsNum H x a i u) (hy : IsNum H y b j v) (vr : Value) (rs : List Nat) (hr : WordsAt W vr rs) (hl : rs.length ≤ 999000) : Calls Tryz.prog 16 #[.pointer (some ⟨hb, 0, none⟩), .string ⟨#[62, 61]⟩, .int .u64 (x : Nat), .int .u64 (y : Nat), vr] W (fun e w' => e = .returned (.tuple #[.int .u64 (boolW (lessEqN b j v a i u)), .int .i64 0]) ∧ Below W.heap.size W w') := by
  have sx := hx.shape
  have sy := hy.shape
  refine Binary_k2 W hb _ x y _ eg_orders1 _ (PS.keep) vr rs hr hl (kV a) i u 0 ⟨#[]⟩ (kV b) j v 0 ⟨#[]⟩ hx.lt hy.lt (binary_ge W) (fun w' h => unbox_n (q.below' h).2.choose_spec.1 x a i u hx) (fun w' h => unbox_n (q.below' h).2.choose_spec.1 y b j v hy) (by rintro e w' ⟨rfl, _⟩; exact ⟨_, _, rfl⟩) (fun w' cp cq wb vb vr' h hc hw0 hw1 hv hw => ?_)
  obtain ⟨cs, hc1, hc2⟩ := hc
  refine (orders1_s cp cq _ cs eg_swapped1 hc1 a b (lessEqN b j v a i u) i u j v (fun w2 h2 => numbers_tt w2 hb vb 2 _ _ (by decide) (by decide) (kV a) i u 0 (kV b) j v 0 _ _ (fun k => by rw [h2.cell (p := ⟨vb, k, none⟩) (cell_lt (hv 0))]; exact hv k) a b i u j v (number_n a i u sx) (number_n b j v sy)) (fun w2 h2 => swapped1_g w2 cs _ eg_lessEq (cell_keep h2 hc2) a b (lessEqN b j v a i u) i u j v (fun w => numLessEq_c b a j v i u hy.inN hx.inN w))).mono ?_
  rintro e w3 ⟨rfl, h3⟩
  exact ⟨rfl, h.trans (h3.mono h.size)⟩
theorem bin_eq (q : Hf W0 W hb H u' K) (x y : Nat) (a b : Bool) (i u j v : Int) (hx : IsNum H x a i u) (hy : IsNum H y b j v) (vr : Value) (rs : List Nat) (hr : WordsAt W vr rs) (hl : rs.length ≤ 999000) : Calls Tryz.prog 16 #[.pointer (some ⟨hb, 0, none⟩), .string ⟨#[61, 61]⟩, .int .u64 (x : Nat), .int .u64 (y : Nat), vr] W (fun e w' => e = .returned (.tuple #[.int .u64 (boolW (equalN a i u b j v == true)), .int .i64 0]) ∧ Below W.heap.size W w') := by
  have sx := hx.shape
  have sy := hy.shape
  refine Binary_k W hb _ x y _ eg_equates1 _ vr rs hr hl (kV a) i u 0 ⟨#[]⟩ (kV b) j v 0 ⟨#[]⟩ hx.lt hy.lt (binary_eq W) (fun w' h => unbox_n (q.below' h).2.choose_spec.1 x a i u hx) (fun w' h => unbox_n (q.below' h).2.choose_spec.1 y b j v hy) (by rintro e w' ⟨rfl, _⟩; exact ⟨_, _, rfl⟩) (fun w' cp wb vb vr' h hc hw0 hw1 hv hw => ?_)
  refine (equates1_g cp true (equalN a i u b j v) hc (fun w2 h2 => same_g a b (equalN a i u b j v) i u j v (fun w3 h3 => numbers_tt w3 hb vb 2 _ _ (by decide) (by decide) (kV a) i u 0 (kV b) j v 0 _ _ (fun k => by rw [(h2.trans (h3.mono h2.size)).cell (p := ⟨vb, k, none⟩) (cell_lt (hv 0))]; exact hv k) a b i u j v (number_n a i u sx) (number_n b j v sy)) (fun w => numEqual_c a b i u j v hx.inN hy.inN w))).mono ?_
  rintro e w3 ⟨rfl, h3⟩
  exact ⟨rfl, h.trans (h3.mono h.size)⟩
theorem bin_ne (q : Hf W0 W hb H u' K) (x y : Nat) (a b : Bool) (i u j v : Int) (hx : IsNum H x a i u) (hy : IsNum H y b j v) (vr : Value) (rs : List Nat) (hr : WordsAt W vr rs) (hl : rs.length ≤ 999000) : Calls Tryz.prog 16 #[.pointer (some ⟨hb, 0, none⟩), .string ⟨#[33, 61]⟩, .int .u64 (x : Nat), .int .u64 (y : Nat), vr] W (fun e w' => e = .returned (.tuple #[.int .u64 (boolW (equalN a i u b j v == false)), .int .i64 0]) ∧ Below W.heap.size W w') := by
  have sx := hx.shape
  have sy := hy.shape
  refine Binary_k W hb _ x y _ eg_equates1 _ vr rs hr hl (kV a) i u 0 ⟨#[]⟩ (kV b) j v 0 ⟨#[]⟩ hx.lt hy.lt (binary_ne W) (fun w' h => unbox_n (q.below' h).2.choose_spec.1 x a i u hx) (fun w' h => unbox_n (q.below' h).2.choose_spec.1 y b j v hy) (by rintro e w' ⟨rfl, _⟩; exact ⟨_, _, rfl⟩) (fun w' cp wb vb vr' h hc hw0 hw1 hv hw => ?_)
  refine (equates1_g cp false (equalN a i u b j v) hc (fun w2 h2 => same_g a b (equalN a i u b j v) i u j v (fun w3 h3 => numbers_tt w3 hb vb 2 _ _ (by decide) (by decide) (kV a) i u 0 (kV b) j v 0 _ _ (fun k => by rw [(h2.trans (h3.mono h2.size)).cell (p := ⟨vb, k, none⟩) (cell_lt (hv 0))]; exact hv k) a b i u j v (number_n a i u sx) (number_n b j v sy)) (fun w => numEqual_c a b i u j v hx.inN hy.inN w))).mono ?_
  rintro e w3 ⟨rfl, h3⟩
  exact ⟨rfl, h.trans (h3.mono h.size)⟩
end
end Go.Proofs.YtdncdddaobemaaaGreatDoor.W.Nu
/- A row of one's own beside a heap, of whatever one-celled kind. -/
namespace Go.Proofs.YtdncdddaobemaaaGreatDoor.W.Nu
open Go.ChangeShapes Go.WideShapes Go.RowKit Go.Shelf
set_option linter.unusedVariables false
theorem infoBl : (Tryz.prog.info? 4).map (fun i => (i.zero, i.size, i.bytes)) = some (some (.bool false), 1, 1) := by kernel_rfl
theorem underBl : Tryz.prog.underlying 137 = some (.slice 4) := by kernel_rfl
section
variable {W0 W : World} {hb : Nat} {H : List (Option Hc)} {u : Nat} {K : Nat → Prop}
/-- a row of truths of one's own, behind block B -/
structure MineB (B : Nat) (W : World) (K : Nat → Prop) (v : Value) (l : List Bool) : Prop where
  row : W.ownsRow B 4 1 v l.length (l.map Value.bool)
  keep : ∀ k, v.ownBlock = some k → K k
  len : l.length ≤ 900000
theorem MineB.below {B : Nat} {W' : World} {v : Value} {l : List Bool} (o : MineB B W K v l) (hB : Below W.heap.size W W') : MineB B W' K v l :=
  ⟨owns_on o.row (fun k e => hB.block k (o.row.lt k e).2), o.keep, o.len⟩
theorem mineB_nil (B : Nat) (W : World) (K : Nat → Prop) : MineB B W K (.slice none 0 0) [] := ⟨World.ownsRow_nil _ _ _ _, fun k e => (by cases e), by decide⟩
theorem mineB_app (q : Hf W0 W hb H u K) (B : Nat) (b0 : W0.heap.size ≤ B) (b1 : B ≤ W.heap.size) (ty : TypeId) (v : Value) (l : List Bool) (o : MineB B W K v l) (x : Bool) (hl : l.length < 900000) :
    ∃ (v' : Value) (w' : World) (K' : Nat → Prop), (Builtin.append_ #[137, 137] ty #[v, .slice (some ⟨W.heap.size, 0, none⟩) 1 1]).run Tryz.prog (W.alloc (.cells #[.bool x] 4)) = .ok v' w' ∧ (∀ k, K k → K' k) ∧ Hf W0 w' hb H u K' ∧ MineB B w' K' v' (l ++ [x]) ∧ (∀ (n i : Nat) (y : Value), n < B → W.cell? ⟨n, i, none⟩ = some y → w'.cell? ⟨n, i, none⟩ = some y) ∧ W.heap.size ≤ w'.heap.size := by
  obtain ⟨i0, hi, hz0, hz1, hz2⟩ := info_parts infoBl
  have hB1 : Below W.heap.size W (W.alloc (.cells #[.bool x] 4)) := (Below.refl _ W).alloc (Nat.le_refl _) _
  have z1 : (W.alloc (.cells #[.bool x] 4)).heap.size = W.heap.size + 1 := World.size_alloc ..
  have e0 := World.cell?_alloc_new W #[.bool x] 4
  have ho := o.row.alloc (.cells #[.bool x] 4)
  obtain ⟨v', w', hrun, ho', hg, hk⟩ := append_at (P := Tryz.prog) (W.alloc (.cells #[.bool x] 4)) 137 ty 4 i0 (.bool false) 1 1 underBl hi hz0 hz1 hz2 rfl (by omega) v l.length (l.map Value.bool) (owns_base ho (fun _ _ => Nat.zero_le _)) ⟨W.heap.size, 0, none⟩ 1 1 [.bool x] (by simp) (by
    intro j y hj
    have hj0 : j = 0 := by have := (List.getElem?_eq_some_iff.1 hj).1; simp at this; exact this
    subst hj0
    simp at hj
    subst hj
    have e1 : ((⟨W.heap.size, 0, none⟩ : Addr).add 0) = ⟨W.heap.size, 0, none⟩ := by unfold Addr.add; split <;> simp_all
    rw [e1, e0 0]; rfl) (by intro y hy; simp at hy; rw [hy]; rfl) (by omega) (by omega) (by omega)
  have hlo : ∀ k, v.ownBlock = some k → B ≤ k ∧ k < W.heap.size := fun k e => o.row.lt k e
  have q0 := q.1.size
  have hU1 : Upd (fun k => v.ownBlock = some k) (W.alloc (.cells #[.bool x] 4)) w' := (Upd.refl _ _).grown hg (fun k e => .inl e)
  have hU : Upd (fun k => v.ownBlock = some k) W w' := (Upd.of_below hB1).trans' hU1
  refine ⟨v', w', _, hrun, fun k h => .inl h, q.upd' hU (fun k e => ⟨o.keep k e, by have := (hlo k e).1; omega⟩), ⟨?_, ?_, by simp; omega⟩, fun n i y hn hy => ?_, hU.size⟩
  · have := owns_base ho' (b' := B) (fun g e => by rcases hk g e with e | e
                                                   · exact (hlo g e).1
                                                   · omega)
    rw [List.length_append, List.map_append]
    exact this
  · intro k e
    rcases hk k e with e | e
    · exact .inl (o.keep k e)
    · exact .inr ⟨by omega, e.2⟩
  · rw [← hy]
    exact World.cell?_of_block (hU.block n (cell_lt hy) (fun e => by have := (o.row.lt n e).1; omega))
end
/-- a world behind which old blocks are as they were -/
structure BW (w : World) where
  w' : World
  h : Below w.heap.size w w'
theorem wp_region_quiet_below {id : Nat} {Q : Exit → Act → World → Prop} {a : Act} {w : World} {l : List Oper} (hm : Tryz.prog.follows .mixedOrders = true) (hB : Region.lexB .any l.toArray = true)
    (h : wpQuiet Tryz.prog l.toArray (fun w' => ∃ p : BW w, w' = p.w') (fun a' => ∀ w', (∃ p : BW w, w' = p.w') → Q .normal a' w') l a) : (Code.region id l.toArray true).wp Tryz.prog Q a w :=
  wp_region_quiet (C := fun w' => ∃ p : BW w, w' = p.w') hm hB ⟨⟨w.drew, (Below.refl _ w).drew⟩, rfl⟩ (by simpa using h)
theorem BW.calls {P : Program} {f : FuncId} {args : Array Value} {w : World} {p : BW w} {v : Value} (h : Calls P f args p.w' fun e w' => e = .returned v ∧ Below p.w'.heap.size p.w' w') : Calls P f args p.w' fun e w'' => e = .returned v ∧ ∃ p' : BW w, w'' = p'.w' :=
  h.mono fun _ w'' ⟨he, hB⟩ => ⟨he, ⟨w'', p.h.trans (hB.mono p.h.size)⟩, rfl⟩
theorem BW.cell {w : World} {a : Addr} {v : Value} (h : w.cell? a = some v) (p : BW w) : p.w'.cell? a = some v := cell_keep p.h h
theorem nan_flt (n : Int) : nanB (Go.Proofs.YtdncdddaobemaaaGreatDoor.W.fltW n) = Go.Proofs.YtdncdddaobemaaaGreatDoor.W.nanB n := by
  show Go.Proofs.YtdncdddaobemaaaGreatDoor.W.nanB (Go.Proofs.YtdncdddaobemaaaGreatDoor.W.fltW n) = _
  unfold Go.Proofs.YtdncdddaobemaaaGreatDoor.W.fltW
  by_cases h : Go.Proofs.YtdncdddaobemaaaGreatDoor.W.nanB n = true
  · rw [if_pos h, h]; decide
  · rw [if_neg h]
theorem flt_num {H : List (Option Hc)} {w : Nat} {n : Int} (h : (w : Int) = Go.Proofs.YtdncdddaobemaaaGreatDoor.W.fltW n) (hl : w < 18446744073709551616) : IsNum H w false 0 (Go.Proofs.YtdncdddaobemaaaGreatDoor.W.fltW n) := .inr ⟨rfl, rfl, h, fltW_cls n, hl⟩
end Go.Proofs.YtdncdddaobemaaaGreatDoor.W.Nu
/- Package ops: sums and products of any two numbers, in words; sameness. -/
namespace Go.Proofs.YtdncdddaobemaaaGreatDoor.W.Nu
open Go.ChangeShapes Go.WideShapes Go.RowKit Go.Shelf
set_option linter.unusedVariables false
/-- a word is put behind two, in a new row -/
theorem app3 (W : World) (rb x y p : Nat) (ty : TypeId) (r0 : W.cell? ⟨rb, 0, none⟩ = some (.int .u64 (x : Nat))) (r1 : W.cell? ⟨rb, 1, none⟩ = some (.int .u64 (y : Nat))) (lx : x < 18446744073709551616) (ly : y < 18446744073709551616) (lp : p < 18446744073709551616) :
    ∃ (g cap : Nat) (w' : World), (Builtin.append_ #[31, 31] ty #[.slice (some ⟨rb, 0, none⟩) 2 2, .slice (some ⟨W.heap.size, 0, none⟩) 1 1]).run Tryz.prog (W.alloc (.cells #[.int .u64 (p : Nat)] 22)) = .ok (.slice (some ⟨g, 0, none⟩) 3 cap) w' ∧ Below W.heap.size W w' ∧ WordsAt w' (.slice (some ⟨g, 0, none⟩) 3 cap) [x, y, p] := by
  obtain ⟨i0, hi, hz0, hz1, hz2⟩ := info_parts infoW
  have hB1 : Below W.heap.size W (W.alloc (.cells #[.int .u64 (p : Nat)] 22)) := (Below.refl _ W).alloc (Nat.le_refl _) _
  have e0 := World.cell?_alloc_new W #[.int .u64 (p : Nat)] 22 0
  have k0 := cell_keep hB1 r0
  have k1 := cell_keep hB1 r1
  generalize W.alloc (.cells #[.int .u64 (p : Nat)] 22) = V at *
  have ad : ∀ (b j : Nat), ((⟨b, 0, none⟩ : Addr).add j) = ⟨b, j, none⟩ := fun b j => by unfold Addr.add; split <;> simp_all
  have hr := run_append_grow_src (P := Tryz.prog) V 31 31 ty 22 i0 (.int .u64 0) underW hi hz0 (some ⟨rb, 0, none⟩) 2 2 [.int .u64 (x : Nat), .int .u64 (y : Nat)] (run_firstCells_some V.drew i0.size 2 ⟨rb, 0, none⟩ 2 2 _ (by rw [hz1]; rfl) (by
      intro j u hj
      rw [ad]
      have hj2 : j < 2 := (List.getElem?_eq_some_iff.1 hj).1
      have : j = 0 ∨ j = 1 := by omega
      rcases this with rfl | rfl
      · cases hj; exact k0
      · cases hj; exact k1)) (.slice (some ⟨W.heap.size, 0, none⟩) 1 1) 1 [.int .u64 (p : Nat)] (Src.ofSlice V underW ⟨W.heap.size, 0, none⟩ 1 1 [.int .u64 (p : Nat)] (by rw [hz1]; rfl) (by
      intro j u hj
      rw [ad]
      have : j = 0 := by have := (List.getElem?_eq_some_iff.1 hj).1; simp at this; exact this
      subst this
      cases hj
      exact e0) (by intro u hu; simp at hu; rw [hu]; rfl)) (by decide) (by decide) (by rw [hz2]; decide)
  refine ⟨_, _, _, hr, ?_, ?_⟩
  · have h2 : Below W.heap.size W V.drew := hB1.drew
    exact h2.alloc h2.size _
  · refine ⟨_, _, rfl, by simp, fun z hz => by simp at hz; rcases hz with rfl | rfl | rfl <;> assumption, fun j hj => ⟨_, rfl, ?_⟩⟩
    rw [ad]
    have hh := World.cell?_alloc_new V.drew (([Value.int .u64 (x : Nat), Value.int .u64 (y : Nat)] ++ [Value.int .u64 (p : Nat)]).toArray ++ Builtin.zeroCells (Value.int .u64 0).cells (grownCap V (2 + 1) 2 22 - (2 + 1))) 22 j
    have e1 : V.drew.heap.size = V.heap.size := rfl
    rw [e1] at hh
    rw [hh, Array.getElem?_append_left (by simp at hj ⊢; omega)]
    have : j = 0 ∨ j = 1 ∨ j = 2 := by simp at hj; omega
    rcases this with rfl | rfl | rfl <;> rfl
theorem eg_mul' : ∀ args w, (callFunc 85 args).run Tryz.prog w = .ok (.enter 85 args) w := enters_of Tryz.func85 (by kernel_rfl) rfl
set_option maxRecDepth 100000 in
theorem binary_mul' (W : World) : Calls Tryz.prog 48 #[.string ⟨#[42]⟩] W fun e w' => ∃ cp, e = .returned (.func (.func 122) #[] #[.pointer (some ⟨cp, 0, none⟩)]) ∧ w'.cell? ⟨cp, 0, none⟩ = some (.func (.func 85) #[] #[]) ∧ Below W.heap.size W w' := by
  go_enter Tryz.func48, Tryz.ntmps48
  go_wp2_with (go_at_call 83; (with_reducible refine (reckons_c _ _).mono ?_); rintro e w2 ⟨rfl, h⟩)
  go_ret
  exact ⟨_, rfl, h⟩
/-- what a reckoned number is, in a word -/
def IsRes (H : List (Option Hc)) (w : Nat) (r : Res) : Prop := (r.w = true ∧ IsInt H w r.i) ∨ (r.w = false ∧ (w : Int) = Go.Proofs.YtdncdddaobemaaaGreatDoor.W.fltW r.u ∧ w < 18446744073709551616)
theorem IsRes.ext {H H' : List (Option Hc)} {w : Nat} {r : Res} (h : IsRes H w r) (he : Ext H H') : IsRes H' w r := by
  rcases h with ⟨h1, h2⟩ | h
  · exact .inl ⟨h1, h2.ext he⟩
  · exact .inr h
/-- behind an operator that reckons -/
def EP (W0 W1 : World) (hb : Nat) (H : List (Option Hc)) (u : Nat) (K : Nat → Prop) (r : Res) (e : Ending) (w' : World) : Prop := ∃ (w : Nat) (H' : List (Option Hc)), e = .returned (.tuple #[.int .u64 (w : Nat), .int .i64 r.e]) ∧ Hf W0 w' hb H' u K ∧ Ext H H' ∧ sumH H' ≤ sumH H + 2 ∧ H'.length ≤ H.length + 1 ∧ Upd (Ch W0 K) W1 w' ∧ w < 18446744073709551616 ∧ (r.e = 0 → IsRes H' w r) ∧ (r.e ≠ 0 → w = 0)
theorem EP.two {W0 W1 : World} {hb : Nat} {H : List (Option Hc)} {u : Nat} {K : Nat → Prop} {r : Res} : ∀ e w', EP W0 W1 hb H u K r e w' → ∃ x y, e = .returned (.tuple #[.int .u64 x, .int .i64 y]) := fun e w' ⟨w, H', h, _⟩ => ⟨_, _, h⟩
theorem EP.on {W0 W1 W2 W' : World} {hb : Nat} {H : List (Option Hc)} {u : Nat} {K : Nat → Prop} {r : Res} {e : Ending} (hB : Below W1.heap.size W1 W2) (h : EP W0 W2 hb H u K r e W') : EP W0 W1 hb H u K r e W' := by
  obtain ⟨w, H', h1, h2, h3, h4, h5, h6, h7⟩ := h
  exact ⟨w, H', h1, h2, h3, h4, h5, (Upd.of_below hB).trans' h6, h7⟩
/-- an answer that is one -/
def ROk (r : Res) : Prop := (∃ n, r = okW n ∧ -9223372036854775808 ≤ n ∧ n ≤ 9223372036854775807) ∨ (∃ d, r = okD d ∧ 0 ≤ d ∧ d < 18446744073709551616) ∨ (∃ c, r = bad c ∧ c ≠ 0)
theorem fitR_ok (n : Int) : ROk (fitR n) := by
  by_cases h : -9223372036854775808 ≤ n ∧ n < 9223372036854775808
  · rw [fitR_in h]; exact .inl ⟨n, rfl, h.1, by omega⟩
  · rw [fitR_out h]; exact .inr (.inr ⟨10, rfl, by decide⟩)
theorem nI_le (n : Int) : nI n ≤ 2 := by unfold nI; split <;> omega
section
variable {W0 W : World} {hb : Nat} {H : List (Option Hc)} {u' : Nat} {K : Nat → Prop}
theorem rec_res (q : Hf W0 W hb H u' K) (hf : sumH H + 2 ≤ u') (hH : H.length ≤ 1000000) (w' : World) (h : Below W.heap.size W w') (cp g vb : Nat) (vw vr' : Value) (rs : List Nat) (eg : ∀ args w, (callFunc g args).run Tryz.prog w = .ok (.enter g args) w) (hc : w'.cell? ⟨cp, 0, none⟩ = some (.func (.func g) #[] #[])) (hw : WordsAt w' vr' rs) (a b : Bool) (i u j v : Int) (sx : (a = true ∧ u = 0) ∨ (a = false ∧ i = 0)) (sy : (b = true ∧ v = 0) ∨ (b = false ∧ j = 0))
    (hv : ∀ k, w'.cell? ⟨vb, k, none⟩ = #[.int .i64 (kV a), .int .i64 i, .int .u64 u, .string ⟨#[]⟩, .int .u64 0, .int .i64 (kV b), .int .i64 j, .int .u64 v, .string ⟨#[]⟩, .int .u64 0][k]?)
    (r : Res) (hr : ROk r) (cg : ∀ w, Calls Tryz.prog g #[.agg #[.bool a, .int .i64 i, .int .u64 u], .agg #[.bool b, .int .i64 j, .int .u64 v]] w fun e w' => e = .returned (resV r) ∧ Gr w w') :
    Calls Tryz.prog 122 #[.agg #[.pointer (some ⟨hb, 0, none⟩), vw, .slice (some ⟨vb, 0, none⟩) 2 2, vr'], .pointer (some ⟨cp, 0, none⟩)] w' (EP W0 W hb H u' K r) := by
  have cn : ∀ w2, Below w'.heap.size w' w2 → Calls Tryz.prog 123 #[.agg #[.pointer (some ⟨hb, 0, none⟩), vw, .slice (some ⟨vb, 0, none⟩) 2 2, vr']] w2 fun e w3 => e = .returned (.tuple #[.agg #[.bool a, .int .i64 i, .int .u64 u], .agg #[.bool b, .int .i64 j, .int .u64 v], .bool true]) ∧ Gr w2 w3 := fun w2 h2 => numbers_tt w2 hb vb 2 _ _ (by decide) (by decide) (kV a) i u 0 (kV b) j v 0 _ _ (fun k => by rw [h2.cell (p := ⟨vb, k, none⟩) (cell_lt (hv 0))]; exact hv k) a b i u j v (number_n a i u sx) (number_n b j v sy)
  rcases hr with ⟨n, rfl, n0, n1⟩ | ⟨d, rfl, d0, d1⟩ | ⟨c, rfl, hc0⟩
  · refine reckons1_g cp g eg hc a b true i u j v n 0 cn cg (fun w3 h3 => ?_) EP.two
    refine boxNum_i n 0 (fun w4 h4 => ?_) EP.two
    have h34 := h3.trans (h4.mono h3.size)
    refine (boxI (q.below' (h.trans (h34.mono h.size))) vr' _ (words_below hw h34) n n0 n1 hf hH).mono ?_
    rintro e w5 ⟨w, H', rfl, p1, p2, p3, p4, p5, p6, p7, p8⟩
    have := nI_le n
    exact ⟨w, H', rfl, p1, p2, by omega, p5, (Upd.of_below (h.trans (h34.mono h.size))).trans' p8, p7, fun _ => .inl ⟨rfl, p3⟩, fun hh => absurd rfl hh⟩
  · refine reckons1_g cp g eg hc a b false i u j v 0 d cn cg (fun w3 h3 => ?_) EP.two
    refine boxNum_f 0 d (fun w4 h4 => ?_) EP.two
    have h34 := h3.trans (h4.mono h3.size)
    refine (boxF (q.below' (h.trans (h34.mono h.size))) vr' d d0 d1).mono ?_
    rintro e w5 ⟨w, H', rfl, p1, p2, p3, p4, p5, p6, p7, p8⟩
    exact ⟨w, H', rfl, p1, p2, by omega, p5, (Upd.of_below (h.trans (h34.mono h.size))).trans' p8, p7, fun _ => .inr ⟨rfl, p3, p7⟩, fun hh => absurd rfl hh⟩
  · refine (reckons1_e cp g eg hc a b false i u j v 0 0 c (by simpa using hc0) cn cg).mono ?_
    rintro e w5 ⟨rfl, h5⟩
    have hB := h.trans (h5.mono h.size)
    exact ⟨0, H, rfl, q.below' hB, Ext.refl _, by omega, by omega, Upd.of_below hB, by decide, fun hh => absurd hh hc0, fun _ => rfl⟩
theorem addN_ok (a b : Bool) (i u j v : Int) : ROk (addR a i u b j v) := by
  unfold addR
  split
  · exact fitR_ok _
  · exact .inr (.inl ⟨_, rfl, (opI_range _ _ _).1, (opI_range _ _ _).2⟩)
theorem bin_addN (q : Hf W0 W hb H u' K) (x y : Nat) (a b : Bool) (i u j v : Int) (hx : IsNum H x a i u) (hy : IsNum H y b j v) (vr : Value) (rs : List Nat) (hr : WordsAt W vr rs) (hl : rs.length ≤ 999000) (hf : sumH H + 2 ≤ u') (hH : H.length ≤ 1000000) : Calls Tryz.prog 16 #[.pointer (some ⟨hb, 0, none⟩), .string ⟨#[43]⟩, .int .u64 (x : Nat), .int .u64 (y : Nat), vr] W (EP W0 W hb H u' K (addR a i u b j v)) := by
  have sx := hx.shape
  have sy := hy.shape
  have ix := hx.inN
  have iy := hy.inN
  refine Binary_g W hb _ x y _ eg_plus vr rs hr hl (kV a) i u 0 ⟨#[]⟩ (kV b) j v 0 ⟨#[]⟩ hx.lt hy.lt (binary_plus W) (fun w' h => unbox_n (q.below' h).2.choose_spec.1 x a i u hx) (fun w' h => unbox_n (q.below' h).2.choose_spec.1 y b j v hy) EP.two (fun w' wb vb vr' h hw0 hw1 hv hw => ?_)
  refine plus_g (kV a) i u 0 (kV b) j v 0 _ _ (by cases a <;> cases b <;> decide) hv (fun w2 cp h2 hc => ?_) EP.two
  exact rec_res q hf hH w2 (h.trans (h2.mono h.size)) cp _ vb _ vr' _ eg_add hc (words_below hw h2) a b i u j v sx sy (fun k => by rw [h2.cell (p := ⟨vb, k, none⟩) (cell_lt (hv 0))]; exact hv k) _ (addN_ok a b i u j v) (fun w => numAdd_c a b i u j v ix.1.1 ix.1.2 iy.1.1 iy.1.2 w)
theorem mulN_ok (a b : Bool) (i u j v : Int) : ROk (mulR a i u b j v) := by
  unfold mulR
  split
  · exact fitR_ok _
  · exact .inr (.inl ⟨_, rfl, (opI_range _ _ _).1, (opI_range _ _ _).2⟩)
theorem bin_mulN (q : Hf W0 W hb H u' K) (x y : Nat) (a b : Bool) (i u j v : Int) (hx : IsNum H x a i u) (hy : IsNum H y b j v) (vr : Value) (rs : List Nat) (hr : WordsAt W vr rs) (hl : rs.length ≤ 999000) (hf : sumH H + 2 ≤ u') (hH : H.length ≤ 1000000) : Calls Tryz.prog 16 #[.pointer (some ⟨hb, 0, none⟩), .string ⟨#[42]⟩, .int .u64 (x : Nat), .int .u64 (y : Nat), vr] W (EP W0 W hb H u' K (mulR a i u b j v)) := by
  have sx := hx.shape
  have sy := hy.shape
  have ix := hx.inN
  have iy := hy.inN
  refine Binary_k W hb _ x y _ eg_reckons1 _ vr rs hr hl (kV a) i u 0 ⟨#[]⟩ (kV b) j v 0 ⟨#[]⟩ hx.lt hy.lt (binary_mul' W) (fun w' h => unbox_n (q.below' h).2.choose_spec.1 x a i u hx) (fun w' h => unbox_n (q.below' h).2.choose_spec.1 y b j v hy) EP.two (fun w' cp wb vb vr' h hc hw0 hw1 hv hw => ?_)
  exact rec_res q hf hH w' h cp _ vb _ vr' _ eg_mul' hc hw a b i u j v sx sy hv _ (mulN_ok a b i u j v) (fun w => numMul_c a b i u j v ix.1.1 ix.1.2 iy.1.1 iy.1.2 w)
end
theorem addR_comm (a b : Bool) (i u j v : Int) : addR a i u b j v = addR b j v a i u := by
  unfold addR
  by_cases h : a = true ∧ b = true
  · rw [if_pos h, if_pos ⟨h.2, h.1⟩, Int.add_comm]
  · rw [if_neg h, if_neg (fun h' => h ⟨h'.2, h'.1⟩), add_comm]
theorem mulR_comm (a b : Bool) (i u j v : Int) : mulR a i u b j v = mulR b j v a i u := by
  unfold mulR
  by_cases h : a = true ∧ b = true
  · rw [if_pos h, if_pos ⟨h.2, h.1⟩, Int.mul_comm]
  · rw [if_neg h, if_neg (fun h' => h ⟨h'.2, h'.1⟩), mul_comm]
theorem cmp_sym (x y : Int) : (cmpI x y == 0) = (cmpI y x == 0) := by
  unfold cmpI
  by_cases h1 : x < y
  · rw [if_pos h1, if_neg (by omega), if_pos h1]; rfl
  · by_cases h2 : y < x
    · rw [if_neg h1, if_pos h2, if_pos h2]; rfl
    · rw [if_neg h1, if_neg h2, if_neg h2, if_neg h1]
theorem turn_sym (o : Int) (h : o = -1 ∨ o = 0 ∨ o = 1 ∨ o = 2) : (turnI o == 0) = (o == 0) := by rcases h with rfl | rfl | rfl | rfl <;> decide
theorem equal_sym (a b : Bool) (i u j v : Int) : equalN a i u b j v = equalN b j v a i u := by
  unfold equalN ordI
  cases a <;> cases b
  · show (ordD u v == 0) = (ordD v u == 0)
    unfold ordD
    by_cases h : nanB u = true ∨ nanB v = true
    · rw [if_pos h, if_pos h.symm]
    · rw [if_neg h, if_neg (fun h' => h h'.symm)]; exact cmp_sym _ _
  · exact turn_sym _ (ordM_four _ _)
  · exact (turn_sym _ (ordM_four _ _)).symm
  · exact cmp_sym _ _
theorem cmp_self (x : Int) : cmpI x x = 0 := cmpI_eq rfl
theorem equal_self (a : Bool) (i u : Int) : equalN a i u a i u = !(!a && nanB u) := by
  unfold equalN ordI
  cases a
  · show (ordD u u == 0) = _
    unfold ordD
    by_cases h : nanB u = true
    · rw [if_pos (.inl h), h]; rfl
    · have h' : nanB u = false := by simpa using h
      rw [if_neg (by simp [h']), h', cmp_self]; rfl
  · show (cmpI i i == 0) = _
    rw [cmp_self]; rfl

set_option maxRecDepth 100000 in
theorem same_v (W : World) (hb p q : Nat) (k i u : Int) (c1 : Calls Tryz.prog 14 #[.pointer (some ⟨hb, 0, none⟩), .int .u64 (p : Nat)] W fun e w' => e = .returned (.tuple #[.agg #[.int .i64 k, .int .i64 i, .int .u64 u, .string ⟨#[]⟩, .int .u64 0], .int .i64 0]) ∧ Below W.heap.size W w')
    (c2 : ∀ w, Below W.heap.size W w → Calls Tryz.prog 14 #[.pointer (some ⟨hb, 0, none⟩), .int .u64 (q : Nat)] w fun e w' => e = .returned (.tuple #[.agg #[.int .i64 k, .int .i64 i, .int .u64 u, .string ⟨#[]⟩, .int .u64 0], .int .i64 0]) ∧ Below w.heap.size w w') :
    Calls Tryz.prog 7 #[.pointer (some ⟨hb, 0, none⟩), .int .u64 (p : Nat), .int .u64 (q : Nat)] W fun e w' => e = .returned (.tuple #[.bool true, .int .i64 0]) ∧ Below W.heap.size W w' := by
  go_enter Tryz.func7, Tryz.ntmps7
  go_upto_region 2 with (go_at_call 14; (with_reducible refine c1.mono ?_); rintro e W1 ⟨rfl, hB1⟩; clear c1)
  have hB2 : Below W.heap.size W (W1.alloc (.cells #[.int .i64 k, .int .i64 i, .int .u64 u, .string ⟨#[]⟩, .int .u64 0] 46)) := hB1.alloc hB1.size _
  have e1 := World.cell?_alloc_new W1 #[.int .i64 k, .int .i64 i, .int .u64 u, .string ⟨#[]⟩, .int .u64 0] 46
  have c3 := c2 _ hB2
  replace hB2 := hid hB2
  clear hB1 c2
  generalize W1.heap.size = b1 at *
  generalize W1.alloc (.cells #[.int .i64 k, .int .i64 i, .int .u64 u, .string ⟨#[]⟩, .int .u64 0] 46) = W2 at *
  go_upto_region 7 with (go_at_call 14; (with_reducible refine c3.mono ?_); rintro e W3 ⟨rfl, hB3⟩; clear c3)
  have hB4 : Below W2.heap.size W2 (W3.alloc (.cells #[.int .i64 k, .int .i64 i, .int .u64 u, .string ⟨#[]⟩, .int .u64 0] 46)) := hB3.alloc hB3.size _
  have l1 : b1 < W2.heap.size := cell_lt (e1 0)
  replace e1 : ∀ j, (W3.alloc (.cells #[.int .i64 k, .int .i64 i, .int .u64 u, .string ⟨#[]⟩, .int .u64 0] 46)).cell? ⟨b1, j, none⟩ = #[.int .i64 k, .int .i64 i, .int .u64 u, .string ⟨#[]⟩, .int .u64 0][j]? := fun j => by rw [hB4.cell (p := ⟨b1, j, none⟩) l1]; exact e1 j
  have e2 := World.cell?_alloc_new W3 #[.int .i64 k, .int .i64 i, .int .u64 u, .string ⟨#[]⟩, .int .u64 0] 46
  have HB := hid (hB2.out.trans (hB4.mono hB2.out.size))
  clear hB3 hB4 hB2 l1
  generalize W3.heap.size = b2 at *
  generalize W3.alloc (.cells #[.int .i64 k, .int .i64 i, .int .u64 u, .string ⟨#[]⟩, .int .u64 0] 46) = W4 at *
  go_wp2
  go_ret2
  exact ⟨rfl, HB.out⟩
end Go.Proofs.YtdncdddaobemaaaGreatDoor.W.Nu
/- Truths in words: Unbox, not. -/
namespace Go.Proofs.YtdncdddaobemaaaGreatDoor.W.Nu
open Go.ChangeShapes Go.WideShapes Go.RowKit Go.Shelf
set_option linter.unusedVariables false
theorem toB_true (w : World) : Calls Tryz.prog 78 #[.int .u64 (boolW true)] w fun e w' => e = .returned (.tuple #[.bool true, .bool true]) ∧ w' = w := by
  have := toBool_c (boolW true) (by decide) (by decide) w
  rw [show toBool (boolW true) = true from by decide, show (Go.Proofs.YtdncdddaobemaaaGreatDoor.W.cls (boolW true) == 4) = true from by decide] at this
  exact this
theorem unboxBool_true (W : World) : Calls Tryz.prog 42 #[.int .u64 (boolW true)] W fun e w' => e = .returned (.agg #[.int .i64 1, .int .i64 1, .int .u64 0, .string ⟨#[]⟩, .int .u64 0]) ∧ Below W.heap.size W w' := by
  have hB : ∀ c, Below W.heap.size W (W.alloc (.cells c 46)) := fun c => (Below.refl _ W).alloc (Nat.le_refl _) _
  generalize hn : boolW true = n
  have cc := toB_true
  rw [hn] at cc
  clear hn
  go_enter Tryz.func42, Tryz.ntmps42
  go_wp2_with (go_at_call 78; (with_reducible refine (cc _).mono ?_); rintro e w' ⟨rfl, hw⟩; (have hw' := hw.symm); subst hw'; clear hw)
  exact bodyPost_ret (v := .agg #[.int .i64 1, .int .i64 1, .int .u64 0, .string ⟨#[]⟩, .int .u64 0]) (by simp [results, Tryz.results42, go_sem]) rfl ⟨rfl, hB _⟩
set_option maxRecDepth 100000 in
theorem unbox_true (hp : Value) (W : World) : Calls Tryz.prog 14 #[hp, .int .u64 (boolW true)] W fun e w' => e = .returned (.tuple #[.agg #[.int .i64 1, .int .i64 1, .int .u64 0, .string ⟨#[]⟩, .int .u64 0], .int .i64 0]) ∧ Below W.heap.size W w' := by
  have hB1 : Below W.heap.size W (W.alloc (.cells #[.int .i64 0, .int .i64 0, .int .u64 0, .string ⟨#[]⟩, .int .u64 0] 46)) := (Below.refl _ W).alloc (Nat.le_refl _) _
  have f1 := World.alloc_heap_new W (.cells #[.int .i64 0, .int .i64 0, .int .u64 0, .string ⟨#[]⟩, .int .u64 0] 46)
  have cc := fun W => class_c (boolW true) (by decide) (by decide) W
  rw [show Go.Proofs.YtdncdddaobemaaaGreatDoor.W.cls (boolW true) = 4 from by decide] at cc
  have cu := fun W => unboxBool_true W
  generalize boolW true = n at *
  go_enter Tryz.func14, Tryz.ntmps14
  go_upto_region 1 with fail
  have kp := hid (show ∀ w4, Below (W.alloc (.cells #[.int .i64 0, .int .i64 0, .int .u64 0, .string ⟨#[]⟩, .int .u64 0] 46)).heap.size (W.alloc (.cells #[.int .i64 0, .int .i64 0, .int .u64 0, .string ⟨#[]⟩, .int .u64 0] 46)) w4 → w4.heap[W.heap.size]? = some (.cells #[.int .i64 0, .int .i64 0, .int .u64 0, .string ⟨#[]⟩, .int .u64 0] 46 (0, 0)) ∧ Below W.heap.size W w4 from fun w4 hB4 => ⟨(hB4.block _ (by rw [World.size_alloc]; exact Nat.lt_succ_self _)).trans f1, hB1.trans (hB4.mono hB1.size)⟩)
  clear f1 hB1
  generalize W.alloc (.cells #[.int .i64 0, .int .i64 0, .int .u64 0, .string ⟨#[]⟩, .int .u64 0] 46) = W1 at *
  go_wp2_with (first | (go_at_call 41; (with_reducible refine (cc _).mono ?_); rintro e w' ⟨rfl, hw⟩; (have hw' := hw.symm); subst hw'; clear hw) | (go_at_call 42; (with_reducible refine (cu _).mono ?_); rintro e W2 ⟨rfl, hB2⟩; (obtain ⟨f2, hB3⟩ := kp.out W2 hB2); (have eR := fun j => cell_of_row _ W.heap.size j _ _ _ f2); (have zR := (fun j => by simp only [World.frozen?, f2]; simp : ∀ j, W2.frozen? ⟨W.heap.size, j, none⟩ = false)); (have FR := hid f2); (have HB := hid hB3); clear f2 hB3 hB2 kp))
  refine bodyPost_ret (val_ret2 rfl _ _ W.heap.size _ _ _ _ _ (0, 0) rfl (five_set FR.out _ _ _ _ _)) rfl ?_
  exact ⟨rfl, five_below HB.out (Nat.le_refl _) _ _ _ _ _⟩
theorem toB_false (w : World) : Calls Tryz.prog 78 #[.int .u64 (boolW false)] w fun e w' => e = .returned (.tuple #[.bool false, .bool true]) ∧ w' = w := by
  have := toBool_c (boolW false) (by decide) (by decide) w
  rw [show toBool (boolW false) = false from by decide, show (Go.Proofs.YtdncdddaobemaaaGreatDoor.W.cls (boolW false) == 4) = true from by decide] at this
  exact this
theorem unboxBool_false (W : World) : Calls Tryz.prog 42 #[.int .u64 (boolW false)] W fun e w' => e = .returned (.agg #[.int .i64 1, .int .i64 0, .int .u64 0, .string ⟨#[]⟩, .int .u64 0]) ∧ Below W.heap.size W w' := by
  have hB : ∀ c, Below W.heap.size W (W.alloc (.cells c 46)) := fun c => (Below.refl _ W).alloc (Nat.le_refl _) _
  generalize hn : boolW false = n
  have cc := toB_false
  rw [hn] at cc
  clear hn
  go_enter Tryz.func42, Tryz.ntmps42
  go_wp2_with (go_at_call 78; (with_reducible refine (cc _).mono ?_); rintro e w' ⟨rfl, hw⟩; (have hw' := hw.symm); subst hw'; clear hw)
  exact bodyPost_ret (v := .agg #[.int .i64 1, .int .i64 0, .int .u64 0, .string ⟨#[]⟩, .int .u64 0]) (by simp [results, Tryz.results42, go_sem]) rfl ⟨rfl, hB _⟩
set_option maxRecDepth 100000 in
theorem unbox_false (hp : Value) (W : World) : Calls Tryz.prog 14 #[hp, .int .u64 (boolW false)] W fun e w' => e = .returned (.tuple #[.agg #[.int .i64 1, .int .i64 0, .int .u64 0, .string ⟨#[]⟩, .int .u64 0], .int .i64 0]) ∧ Below W.heap.size W w' := by
  have hB1 : Below W.heap.size W (W.alloc (.cells #[.int .i64 0, .int .i64 0, .int .u64 0, .string ⟨#[]⟩, .int .u64 0] 46)) := (Below.refl _ W).alloc (Nat.le_refl _) _
  have f1 := World.alloc_heap_new W (.cells #[.int .i64 0, .int .i64 0, .int .u64 0, .string ⟨#[]⟩, .int .u64 0] 46)
  have cc := fun W => class_c (boolW false) (by decide) (by decide) W
  rw [show Go.Proofs.YtdncdddaobemaaaGreatDoor.W.cls (boolW false) = 4 from by decide] at cc
  have cu := fun W => unboxBool_false W
  generalize boolW false = n at *
  go_enter Tryz.func14, Tryz.ntmps14
  go_upto_region 1 with fail
  have kp := hid (show ∀ w4, Below (W.alloc (.cells #[.int .i64 0, .int .i64 0, .int .u64 0, .string ⟨#[]⟩, .int .u64 0] 46)).heap.size (W.alloc (.cells #[.int .i64 0, .int .i64 0, .int .u64 0, .string ⟨#[]⟩, .int .u64 0] 46)) w4 → w4.heap[W.heap.size]? = some (.cells #[.int .i64 0, .int .i64 0, .int .u64 0, .string ⟨#[]⟩, .int .u64 0] 46 (0, 0)) ∧ Below W.heap.size W w4 from fun w4 hB4 => ⟨(hB4.block _ (by rw [World.size_alloc]; exact Nat.lt_succ_self _)).trans f1, hB1.trans (hB4.mono hB1.size)⟩)
  clear f1 hB1
  generalize W.alloc (.cells #[.int .i64 0, .int .i64 0, .int .u64 0, .string ⟨#[]⟩, .int .u64 0] 46) = W1 at *
  go_wp2_with (first | (go_at_call 41; (with_reducible refine (cc _).mono ?_); rintro e w' ⟨rfl, hw⟩; (have hw' := hw.symm); subst hw'; clear hw) | (go_at_call 42; (with_reducible refine (cu _).mono ?_); rintro e W2 ⟨rfl, hB2⟩; (obtain ⟨f2, hB3⟩ := kp.out W2 hB2); (have eR := fun j => cell_of_row _ W.heap.size j _ _ _ f2); (have zR := (fun j => by simp only [World.frozen?, f2]; simp : ∀ j, W2.frozen? ⟨W.heap.size, j, none⟩ = false)); (have FR := hid f2); (have HB := hid hB3); clear f2 hB3 hB2 kp))
  refine bodyPost_ret (val_ret2 rfl _ _ W.heap.size _ _ _ _ _ (0, 0) rfl (five_set FR.out _ _ _ _ _)) rfl ?_
  exact ⟨rfl, five_below HB.out (Nat.le_refl _) _ _ _ _ _⟩
def bI (b : Bool) : Int := if b = true then 1 else 0
theorem unbox_b (b : Bool) (x : Nat) (hx : (x : Int) = boolW b) (hp : Value) (W : World) : Calls Tryz.prog 14 #[hp, .int .u64 (x : Nat)] W fun e w' => e = .returned (.tuple #[.agg #[.int .i64 1, .int .i64 (bI b), .int .u64 0, .string ⟨#[]⟩, .int .u64 0], .int .i64 0]) ∧ Below W.heap.size W w' := by
  rw [hx]
  cases b
  · exact unbox_false hp W
  · exact unbox_true hp W
section
variable {W : World} {hb vb : Nat} {vw vr : Value}
end
end Go.Proofs.YtdncdddaobemaaaGreatDoor.W.Nu
/- casketlaw10's box of any number; sameness of what was reckoned. -/
namespace Go.Proofs.YtdncdddaobemaaaGreatDoor.W.Nu
open Go.ChangeShapes Go.WideShapes Go.RowKit Go.Shelf
set_option linter.unusedVariables false
def nw (a : Bool) (i : Int) : Int := if a = true then i else 0
def nd (a : Bool) (u : Int) : Int := if a = true then 0 else Go.Proofs.YtdncdddaobemaaaGreatDoor.W.fltW u
section
variable {W0 W : World} {hb : Nat} {H : List (Option Hc)} {u' : Nat} {K : Nat → Prop}
set_option maxRecDepth 100000 in
theorem lbox_w (q : Hf W0 W hb H u' K) (vr : Value) (rs : List Nat) (hr : WordsAt W vr rs) (i u : Int) (h0 : -9223372036854775808 ≤ i) (h1 : i ≤ 9223372036854775807) (hf : sumH H + 2 ≤ u') (hH : H.length ≤ 1000000) :
    Calls Tryz.prog 5 #[.pointer (some ⟨hb, 0, none⟩), .agg #[.bool true, .int .i64 i, .int .u64 u], vr] W (LB W0 W hb H u' K (fun H' w => IsInt H' w i) (nI i)) := by
  have hB : Below W.heap.size W ((W.alloc (.cells #[.bool true, .int .i64 i, .int .u64 u] 24)).alloc (.cells #[.int .i64 2, .int .i64 i, .int .u64 0, .string ⟨#[]⟩, .int .u64 0] 46)) := ((Below.refl _ W).alloc (Nat.le_refl _) _).alloc (by rw [World.size_alloc]; omega) _
  have cx := (boxI (q.below' hB) vr rs (words_below hr hB) i h0 h1 hf hH).mono (fun e w' h => BPost.on hB h)
  obtain ⟨o1, cap1, hvr, -⟩ := id hr
  subst hvr
  clear q hr h0 h1 hf hH hB
  go_enter Tryz.func5, Tryz.ntmps5
  go_wp2_with (go_at_call 11; (with_reducible refine cx.mono ?_); rintro e w3 ⟨w, H', rfl, h3⟩; clear cx)
  go_ret2
  exact ⟨w, H', rfl, h3⟩
set_option maxRecDepth 100000 in
theorem lbox_d (q : Hf W0 W hb H u' K) (vr : Value) (i bi : Int) (h0 : 0 ≤ bi) (h1 : bi < 18446744073709551616) :
    Calls Tryz.prog 5 #[.pointer (some ⟨hb, 0, none⟩), .agg #[.bool false, .int .i64 i, .int .u64 bi], vr] W (LB W0 W hb H u' K (fun _ w => (w : Int) = Go.Proofs.YtdncdddaobemaaaGreatDoor.W.fltW bi) 0) := by
  have hB : Below W.heap.size W ((W.alloc (.cells #[.bool false, .int .i64 i, .int .u64 bi] 24)).alloc (.cells #[.int .i64 3, .int .i64 0, .int .u64 bi, .string ⟨#[]⟩, .int .u64 0] 46)) := ((Below.refl _ W).alloc (Nat.le_refl _) _).alloc (by rw [World.size_alloc]; omega) _
  have cx := (boxF (q.below' hB) vr bi h0 h1).mono (fun e w' h => BPost.on hB h)
  clear q h0 h1 hB
  go_enter Tryz.func5, Tryz.ntmps5
  go_wp2_with (go_at_call 11; (with_reducible refine cx.mono ?_); rintro e w3 ⟨w, H', rfl, h3⟩; (replace h3 := hid h3); clear cx)
  go_ret2
  exact ⟨w, H', rfl, h3.out⟩
/-- behind the box of any number -/
def LN (W0 W1 : World) (hb : Nat) (H : List (Option Hc)) (u : Nat) (K : Nat → Prop) (a : Bool) (i v : Int) (e : Ending) (w' : World) : Prop := ∃ (w : Nat) (H' : List (Option Hc)), e = .returned (.tuple #[.int .u64 (w : Nat), .bool true]) ∧ Hf W0 w' hb H' u K ∧ Ext H H' ∧ IsNum H' w a i v ∧ sumH H' ≤ sumH H + 2 ∧ H'.length ≤ H.length + 1 ∧ Upd (Ch W0 K) W1 w'
theorem lbox_n (q : Hf W0 W hb H u' K) (vr : Value) (rs : List Nat) (hr : WordsAt W vr rs) (a : Bool) (i u : Int) (h0 : -9223372036854775808 ≤ i) (h1 : i ≤ 9223372036854775807) (u0 : 0 ≤ u) (u1 : u < 18446744073709551616) (hf : sumH H + 2 ≤ u') (hH : H.length ≤ 1000000) :
    Calls Tryz.prog 5 #[.pointer (some ⟨hb, 0, none⟩), .agg #[.bool a, .int .i64 i, .int .u64 u], vr] W (LN W0 W hb H u' K a (nw a i) (nd a u)) := by
  cases a
  · refine (lbox_d q vr i u u0 u1).mono ?_
    rintro e w' ⟨w, H', rfl, h1, h2, h3, h4, h5, h6, h7, h8⟩
    exact ⟨w, H', rfl, h1, h2, flt_num h3 h7, by omega, h5, h8⟩
  · refine (lbox_w q vr rs hr i u h0 h1 hf hH).mono ?_
    rintro e w' ⟨w, H', rfl, p1, p2, p3, p4, p5, p6, p7, p8⟩
    have := nI_le i
    exact ⟨w, H', rfl, p1, p2, .inl ⟨rfl, rfl, p3, h0, by show i < _; omega⟩, by omega, p5, p8⟩
theorem cells_upd {W' : World} {n : Nat} {A : Array Value} (hU : Upd (Ch W0 K) W W') (hk : K n) (hl : n < W.heap.size) (f : ∀ i, W.cell? ⟨n, i, none⟩ = A[i]?) : ∀ i, W'.cell? ⟨n, i, none⟩ = A[i]? := fun i => by
  rw [← f i]
  exact World.cell?_of_block (hU.block n hl (fun c => c.1 hk))
theorem cells_keep {W' : World} {n : Nat} {A : Array Value} (hB : Below W.heap.size W W') (hl : n < W.heap.size) (f : ∀ i, W.cell? ⟨n, i, none⟩ = A[i]?) : ∀ i, W'.cell? ⟨n, i, none⟩ = A[i]? := fun i => by
  rw [hB.cell (p := ⟨n, i, none⟩) hl]; exact f i
theorem same_res (q : Hf W0 W hb H u' K) (p s : Nat) (r : Res) (hp' : IsRes H p r) (hs : IsRes H s r) : Calls Tryz.prog 7 #[.pointer (some ⟨hb, 0, none⟩), .int .u64 (p : Nat), .int .u64 (s : Nat)] W fun e w' => e = .returned (.tuple #[.bool true, .int .i64 0]) ∧ Below W.heap.size W w' := by
  rcases hp' with ⟨h1, h2⟩ | ⟨h1, h2, h3⟩
  · rcases hs with ⟨g1, g2⟩ | ⟨g1, _⟩
    · exact same_v W hb p s 2 r.i 0 (unbox_int q.2.choose_spec.1 p _ h2) (fun w hB => unbox_int (q.below' hB).2.choose_spec.1 s _ g2)
    · rw [h1] at g1; cases g1
  · rcases hs with ⟨g1, _⟩ | ⟨g1, g2, g3⟩
    · rw [h1] at g1; cases g1
    · have c : ∀ (z : Nat) (w : World), (z : Int) = Go.Proofs.YtdncdddaobemaaaGreatDoor.W.fltW r.u → z < 18446744073709551616 → Calls Tryz.prog 14 #[.pointer (some ⟨hb, 0, none⟩), .int .u64 (z : Nat)] w fun e w' => e = .returned (.tuple #[.agg #[.int .i64 3, .int .i64 0, .int .u64 (Go.Proofs.YtdncdddaobemaaaGreatDoor.W.fltW r.u), .string ⟨#[]⟩, .int .u64 0], .int .i64 0]) ∧ Below w.heap.size w w' := fun z w hz hl => by
        rw [hz]
        exact unbox_flt _ (by omega) (by omega) (fltW_cls r.u) _ w
      exact same_v W hb p s 3 0 (Go.Proofs.YtdncdddaobemaaaGreatDoor.W.fltW r.u) (c p W h2 h3) (fun w hB => c s w g2 g3)
theorem same_b (W : World) (hb : Nat) (b : Bool) (p : Nat) (hp' : (p : Int) = boolW b) : Calls Tryz.prog 7 #[.pointer (some ⟨hb, 0, none⟩), .int .u64 (p : Nat), .int .u64 (p : Nat)] W fun e w' => e = .returned (.tuple #[.bool true, .int .i64 0]) ∧ Below W.heap.size W w' :=
  same_v W hb p p 1 (bI b) 0 (unbox_b b p hp' _ W) (fun w hB => unbox_b b p hp' _ w)
end
end Go.Proofs.YtdncdddaobemaaaGreatDoor.W.Nu
/- Contracts of package num: the sign turned. -/
namespace Go.Proofs.YtdncdddaobemaaaGreatDoor.W.Nu
open Go.ChangeShapes Go.WideShapes Go.RowKit
/-- what Neg answers -/
def negR (a : Bool) (i u : Int) : Res := if a = true then fitR (-i) else okD (negI u)
end Go.Proofs.YtdncdddaobemaaaGreatDoor.W.Nu
/- Package ops: two doubles under whatever operator. -/
namespace Go.Proofs.YtdncdddaobemaaaGreatDoor.W.Nu
open Go.ChangeShapes Go.WideShapes Go.RowKit Go.Shelf
set_option linter.unusedVariables false
theorem eg_sub : ∀ args w, (callFunc 84 args).run Tryz.prog w = .ok (.enter 84 args) w := enters_of Tryz.func84 (by kernel_rfl) rfl
set_option maxRecDepth 100000 in
theorem binary_sub (W : World) : Calls Tryz.prog 48 #[.string ⟨#[45]⟩] W fun e w' => ∃ cp, e = .returned (.func (.func 122) #[] #[.pointer (some ⟨cp, 0, none⟩)]) ∧ w'.cell? ⟨cp, 0, none⟩ = some (.func (.func 84) #[] #[]) ∧ Below W.heap.size W w' := by
  go_enter Tryz.func48, Tryz.ntmps48
  go_wp2_with (go_at_call 83; (with_reducible refine (reckons_c _ _).mono ?_); rintro e w2 ⟨rfl, h⟩)
  go_ret
  exact ⟨_, rfl, h⟩
theorem eg_mul : ∀ args w, (callFunc 85 args).run Tryz.prog w = .ok (.enter 85 args) w := enters_of Tryz.func85 (by kernel_rfl) rfl
set_option maxRecDepth 100000 in
theorem binary_mul (W : World) : Calls Tryz.prog 48 #[.string ⟨#[42]⟩] W fun e w' => ∃ cp, e = .returned (.func (.func 122) #[] #[.pointer (some ⟨cp, 0, none⟩)]) ∧ w'.cell? ⟨cp, 0, none⟩ = some (.func (.func 85) #[] #[]) ∧ Below W.heap.size W w' := by
  go_enter Tryz.func48, Tryz.ntmps48
  go_wp2_with (go_at_call 83; (with_reducible refine (reckons_c _ _).mono ?_); rintro e w2 ⟨rfl, h⟩)
  go_ret
  exact ⟨_, rfl, h⟩
theorem eg_div : ∀ args w, (callFunc 86 args).run Tryz.prog w = .ok (.enter 86 args) w := enters_of Tryz.func86 (by kernel_rfl) rfl
set_option maxRecDepth 100000 in
theorem binary_div (W : World) : Calls Tryz.prog 48 #[.string ⟨#[47]⟩] W fun e w' => ∃ cp, e = .returned (.func (.func 122) #[] #[.pointer (some ⟨cp, 0, none⟩)]) ∧ w'.cell? ⟨cp, 0, none⟩ = some (.func (.func 86) #[] #[]) ∧ Below W.heap.size W w' := by
  go_enter Tryz.func48, Tryz.ntmps48
  go_wp2_with (go_at_call 83; (with_reducible refine (reckons_c _ _).mono ?_); rintro e w2 ⟨rfl, h⟩)
  go_ret
  exact ⟨_, rfl, h⟩
theorem eg_fdiv : ∀ args w, (callFunc 87 args).run Tryz.prog w = .ok (.enter 87 args) w := enters_of Tryz.func87 (by kernel_rfl) rfl
set_option maxRecDepth 100000 in
theorem binary_fdiv (W : World) : Calls Tryz.prog 48 #[.string ⟨#[47, 47]⟩] W fun e w' => ∃ cp, e = .returned (.func (.func 122) #[] #[.pointer (some ⟨cp, 0, none⟩)]) ∧ w'.cell? ⟨cp, 0, none⟩ = some (.func (.func 87) #[] #[]) ∧ Below W.heap.size W w' := by
  go_enter Tryz.func48, Tryz.ntmps48
  go_wp2_with (go_at_call 83; (with_reducible refine (reckons_c _ _).mono ?_); rintro e w2 ⟨rfl, h⟩)
  go_ret
  exact ⟨_, rfl, h⟩
theorem eg_mod : ∀ args w, (callFunc 88 args).run Tryz.prog w = .ok (.enter 88 args) w := enters_of Tryz.func88 (by kernel_rfl) rfl
set_option maxRecDepth 100000 in
theorem binary_mod (W : World) : Calls Tryz.prog 48 #[.string ⟨#[37]⟩] W fun e w' => ∃ cp, e = .returned (.func (.func 122) #[] #[.pointer (some ⟨cp, 0, none⟩)]) ∧ w'.cell? ⟨cp, 0, none⟩ = some (.func (.func 88) #[] #[]) ∧ Below W.heap.size W w' := by
  go_enter Tryz.func48, Tryz.ntmps48
  go_wp2_with (go_at_call 83; (with_reducible refine (reckons_c _ _).mono ?_); rintro e w2 ⟨rfl, h⟩)
  go_ret
  exact ⟨_, rfl, h⟩
set_option maxRecDepth 100000 in
theorem bitwise_shl (W : World) : Calls Tryz.prog 90 #[.string ⟨#[60, 60]⟩] W fun e w' => ∃ cp, e = .returned (.func (.func 196) #[] #[.pointer (some ⟨cp, 0, none⟩)]) ∧ w'.cell? ⟨cp, 0, none⟩ = some (.func (.func 142) #[] #[]) ∧ Below W.heap.size W w' := by
  go_enter Tryz.func90, Tryz.ntmps90
  go_wp2_with (go_at_call 138; (with_reducible refine (joins_c _ _).mono ?_); rintro e w2 ⟨rfl, h⟩)
  go_ret
  exact ⟨_, rfl, h⟩
set_option maxRecDepth 100000 in
theorem binary_shl (W : World) : Calls Tryz.prog 48 #[.string ⟨#[60, 60]⟩] W fun e w' => ∃ cp, e = .returned (.func (.func 196) #[] #[.pointer (some ⟨cp, 0, none⟩)]) ∧ w'.cell? ⟨cp, 0, none⟩ = some (.func (.func 142) #[] #[]) ∧ Below W.heap.size W w' := by
  have hne := fn_neq
  go_enter Tryz.func48, Tryz.ntmps48
  go_wp2_with (go_at_call 90; (with_reducible refine (bitwise_shl _).mono ?_); rintro e w2 ⟨cp, rfl, h⟩)
  go_ret
  exact ⟨_, rfl, h⟩
set_option maxRecDepth 100000 in
theorem bitwise_shr (W : World) : Calls Tryz.prog 90 #[.string ⟨#[62, 62]⟩] W fun e w' => ∃ cp, e = .returned (.func (.func 196) #[] #[.pointer (some ⟨cp, 0, none⟩)]) ∧ w'.cell? ⟨cp, 0, none⟩ = some (.func (.func 143) #[] #[]) ∧ Below W.heap.size W w' := by
  go_enter Tryz.func90, Tryz.ntmps90
  go_wp2_with (go_at_call 138; (with_reducible refine (joins_c _ _).mono ?_); rintro e w2 ⟨rfl, h⟩)
  go_ret
  exact ⟨_, rfl, h⟩
set_option maxRecDepth 100000 in
theorem binary_shr (W : World) : Calls Tryz.prog 48 #[.string ⟨#[62, 62]⟩] W fun e w' => ∃ cp, e = .returned (.func (.func 196) #[] #[.pointer (some ⟨cp, 0, none⟩)]) ∧ w'.cell? ⟨cp, 0, none⟩ = some (.func (.func 143) #[] #[]) ∧ Below W.heap.size W w' := by
  have hne := fn_neq
  go_enter Tryz.func48, Tryz.ntmps48
  go_wp2_with (go_at_call 90; (with_reducible refine (bitwise_shr _).mono ?_); rintro e w2 ⟨cp, rfl, h⟩)
  go_ret
  exact ⟨_, rfl, h⟩
section
variable {W : World} {hb vb : Nat} {vw vr : Value}
set_option maxRecDepth 100000 in
theorem joins1_t (cp : Nat) (u v : Int) (hv : ∀ k, W.cell? ⟨vb, k, none⟩ = #[.int .i64 3, .int .i64 0, .int .u64 u, .string ⟨#[]⟩, .int .u64 0, .int .i64 3, .int .i64 0, .int .u64 v, .string ⟨#[]⟩, .int .u64 0][k]?) :
    Calls Tryz.prog 196 #[.agg #[.pointer (some ⟨hb, 0, none⟩), vw, .slice (some ⟨vb, 0, none⟩) 2 2, vr], .pointer (some ⟨cp, 0, none⟩)] W fun e w' => e = .returned (.tuple #[.int .u64 0, .int .i64 51]) ∧ Below W.heap.size W w' := by
  have hB1 : Below W.heap.size W (W.alloc (.cells #[.pointer (some ⟨hb, 0, none⟩), vw, .slice (some ⟨vb, 0, none⟩) 2 2, vr] 80)) := (Below.refl _ W).alloc (Nat.le_refl _) _
  have f1 := World.cell?_alloc_new W #[.pointer (some ⟨hb, 0, none⟩), vw, .slice (some ⟨vb, 0, none⟩) 2 2, vr] 80
  have vl : vb < W.heap.size := cell_lt (hv 0)
  go_enter Tryz.func196, Tryz.ntmps196
  go_upto_region 1 with fail
  generalize W.alloc (.cells #[.pointer (some ⟨hb, 0, none⟩), vw, .slice (some ⟨vb, 0, none⟩) 2 2, vr] 80) = W1 at *
  have hv1 : ∀ k, W1.cell? ⟨vb, k, none⟩ = #[.int .i64 3, .int .i64 0, .int .u64 u, .string ⟨#[]⟩, .int .u64 0, .int .i64 3, .int .i64 0, .int .u64 v, .string ⟨#[]⟩, .int .u64 0][k]? := fun k => by rw [hB1.cell (p := ⟨vb, k, none⟩) vl]; exact hv k
  have hB2 : Below W1.heap.size W1 (W1.alloc (.cells #[.int .i64 0, .int .i64 1] 3)) := (Below.refl _ W1).alloc (Nat.le_refl _) _
  have e2 := World.cell?_alloc_new W1 #[.int .i64 0, .int .i64 1] 3
  have cA := are2_c (W1.alloc (.cells #[.int .i64 0, .int .i64 1] 3)) hb vb W1.heap.size 2 vw vr 2 3 3 (by decide) (by decide) (e2 0) (e2 1) (cell_keep hB2 (hv1 0)) (cell_keep hB2 (hv1 5))
  rw [show (((3 : Int) == 2) && ((3 : Int) == 2)) = false from by decide] at cA
  have H := hid (hB1.trans (hB2.mono hB1.size))
  clear e2 hv hv1 hB2 vl hB1
  go_wp2_with (go_at_call 58; (with_reducible refine cA.mono ?_); rintro e W2 ⟨rfl, hB3⟩; (replace hB3 := hid hB3); clear cA)
  go_ret2
  exact ⟨rfl, H.out.trans (hB3.out.mono H.out.size)⟩
end
/-- what comes out of two doubles -/
def OKc (w c : Int) : Prop := (c = 0 ∧ 0 ≤ w ∧ w < 18446744073709551616 ∧ (Go.Proofs.YtdncdddaobemaaaGreatDoor.W.cls w = 1 ∨ Go.Proofs.YtdncdddaobemaaaGreatDoor.W.cls w = 4)) ∨ (w = 0 ∧ (c = 1 ∨ c = 51))
def NS (W : World) (e : Ending) (w' : World) : Prop := (∃ w c, e = .returned (.tuple #[.int .u64 w, .int .i64 c]) ∧ OKc w c) ∧ Below W.heap.size W w'
theorem NS.two {W : World} : ∀ e w', NS W e w' → ∃ x y, e = .returned (.tuple #[.int .u64 x, .int .i64 y]) := fun e w' ⟨⟨w, c, h, _⟩, _⟩ => ⟨w, c, h⟩
theorem NS.on {W W1 : World} {e : Ending} {w' : World} (hB : Below W.heap.size W W1) (h : NS W1 e w') : NS W e w' := ⟨h.1, hB.trans (h.2.mono hB.size)⟩
theorem ns_bool {W : World} {b : Bool} {e : Ending} {w' : World} (h : e = .returned (.tuple #[.int .u64 (boolW b), .int .i64 0]) ∧ Below W.heap.size W w') : NS W e w' :=
  ⟨⟨_, _, h.1, .inl ⟨rfl, by cases b <;> decide, by cases b <;> decide, .inr (by cases b <;> decide)⟩⟩, h.2⟩
/-- a double in a word -/
def Dbl (x : Nat) : Prop := Go.Proofs.YtdncdddaobemaaaGreatDoor.W.cls (x : Int) = 1 ∧ x < 18446744073709551616
theorem unbox_d (x : Nat) (h : Dbl x) (hb : Nat) (W : World) : Calls Tryz.prog 14 #[.pointer (some ⟨hb, 0, none⟩), .int .u64 (x : Nat)] W fun e w' => e = .returned (.tuple #[.agg #[.int .i64 3, .int .i64 0, .int .u64 (x : Nat), .string ⟨#[]⟩, .int .u64 0], .int .i64 0]) ∧ Below W.heap.size W w' :=
  unbox_flt (x : Int) (by omega) (by have := h.2; omega) h.1 _ W
theorem box_ns (vr : Value) (hb : Nat) (r : Int) (h : 0 ≤ r ∧ r < 18446744073709551616) (W : World) : Calls Tryz.prog 11 #[.pointer (some ⟨hb, 0, none⟩), .agg #[.int .i64 3, .int .i64 0, .int .u64 r, .string ⟨#[]⟩, .int .u64 0], vr] W (NS W) := by
  refine (box_float _ vr r h.1 h.2 W).mono ?_
  rintro e w' ⟨rfl, hB⟩
  have hbd := fltW_bd r h.1 h.2
  exact ⟨⟨_, _, rfl, .inl ⟨rfl, hbd.1, hbd.2, .inl (fltW_cls r)⟩⟩, hB⟩
section
variable {W : World} {hb : Nat} {x y : Nat} {vr : Value} {rs : List Nat}
theorem res_sub (x y : Nat) : subR false 0 x false 0 y = okD (opI .sub x y) := by unfold subR; rw [if_neg (by simp)]; rfl
theorem ns_sub (hx : Dbl x) (hy : Dbl y) (hr : WordsAt W vr rs) (hl : rs.length ≤ 999000) : Calls Tryz.prog 16 #[.pointer (some ⟨hb, 0, none⟩), .string ⟨#[45]⟩, .int .u64 (x : Nat), .int .u64 (y : Nat), vr] W (NS W) := by
  refine Binary_k W hb _ x y _ eg_reckons1 _ vr rs hr hl 3 0 x 0 ⟨#[]⟩ 3 0 y 0 ⟨#[]⟩ hx.2 hy.2 (binary_sub W) (fun w' h => unbox_d x hx hb w') (fun w' h => unbox_d y hy hb w') NS.two (fun w' cp wb vb vr' h hc hw0 hw1 hv hw => ?_)
  refine reckons1_g cp _ eg_sub hc false false false 0 x 0 y 0 (opI .sub x y) (fun w3 h3 => numbers_tt w3 hb vb 2 _ _ (by decide) (by decide) 3 0 x 0 3 0 y 0 _ _ (fun k => by rw [(h3).cell (p := ⟨vb, k, none⟩) (cell_lt (hv 0))]; exact hv k) false false 0 x 0 y (number_f 0 x 0 _) (number_f 0 y 0 _)) (fun w => ?_) (fun w3 h3 => ?_) NS.two
  · have := numSub_c false false 0 x 0 y (by decide) (by decide) (by decide) (by decide) w
    rw [res_sub] at this
    exact this
  · exact boxNum_f 0 _ (fun w4 h4 => (box_ns vr' hb _ (opI_range _ _ _) w4).mono (fun e w5 h5 => h5.on (h.trans ((h3.trans (h4.mono h3.size)).mono h.size)))) NS.two
theorem res_mul (x y : Nat) : mulR false 0 x false 0 y = okD (opI .mul x y) := by unfold mulR; rw [if_neg (by simp)]; rfl
theorem ns_mul (hx : Dbl x) (hy : Dbl y) (hr : WordsAt W vr rs) (hl : rs.length ≤ 999000) : Calls Tryz.prog 16 #[.pointer (some ⟨hb, 0, none⟩), .string ⟨#[42]⟩, .int .u64 (x : Nat), .int .u64 (y : Nat), vr] W (NS W) := by
  refine Binary_k W hb _ x y _ eg_reckons1 _ vr rs hr hl 3 0 x 0 ⟨#[]⟩ 3 0 y 0 ⟨#[]⟩ hx.2 hy.2 (binary_mul W) (fun w' h => unbox_d x hx hb w') (fun w' h => unbox_d y hy hb w') NS.two (fun w' cp wb vb vr' h hc hw0 hw1 hv hw => ?_)
  refine reckons1_g cp _ eg_mul hc false false false 0 x 0 y 0 (opI .mul x y) (fun w3 h3 => numbers_tt w3 hb vb 2 _ _ (by decide) (by decide) 3 0 x 0 3 0 y 0 _ _ (fun k => by rw [(h3).cell (p := ⟨vb, k, none⟩) (cell_lt (hv 0))]; exact hv k) false false 0 x 0 y (number_f 0 x 0 _) (number_f 0 y 0 _)) (fun w => ?_) (fun w3 h3 => ?_) NS.two
  · have := numMul_c false false 0 x 0 y (by decide) (by decide) (by decide) (by decide) w
    rw [res_mul] at this
    exact this
  · exact boxNum_f 0 _ (fun w4 h4 => (box_ns vr' hb _ (opI_range _ _ _) w4).mono (fun e w5 h5 => h5.on (h.trans ((h3.trans (h4.mono h3.size)).mono h.size)))) NS.two
theorem res_div (x y : Nat) : divR false 0 x false 0 y = okD (opI .quo x y) := rfl
theorem ns_div (hx : Dbl x) (hy : Dbl y) (hr : WordsAt W vr rs) (hl : rs.length ≤ 999000) : Calls Tryz.prog 16 #[.pointer (some ⟨hb, 0, none⟩), .string ⟨#[47]⟩, .int .u64 (x : Nat), .int .u64 (y : Nat), vr] W (NS W) := by
  refine Binary_k W hb _ x y _ eg_reckons1 _ vr rs hr hl 3 0 x 0 ⟨#[]⟩ 3 0 y 0 ⟨#[]⟩ hx.2 hy.2 (binary_div W) (fun w' h => unbox_d x hx hb w') (fun w' h => unbox_d y hy hb w') NS.two (fun w' cp wb vb vr' h hc hw0 hw1 hv hw => ?_)
  refine reckons1_g cp _ eg_div hc false false false 0 x 0 y 0 (opI .quo x y) (fun w3 h3 => numbers_tt w3 hb vb 2 _ _ (by decide) (by decide) 3 0 x 0 3 0 y 0 _ _ (fun k => by rw [(h3).cell (p := ⟨vb, k, none⟩) (cell_lt (hv 0))]; exact hv k) false false 0 x 0 y (number_f 0 x 0 _) (number_f 0 y 0 _)) (fun w => ?_) (fun w3 h3 => ?_) NS.two
  · have := numDiv_c false false 0 x 0 y w
    rw [res_div] at this
    exact this
  · exact boxNum_f 0 _ (fun w4 h4 => (box_ns vr' hb _ (opI_range _ _ _) w4).mono (fun e w5 h5 => h5.on (h.trans ((h3.trans (h4.mono h3.size)).mono h.size)))) NS.two
theorem res_fdiv (x y : Nat) : flR false 0 x false 0 y = okD (floorI (opI .quo x y)) := by unfold flR; rw [if_neg (by simp)]; rfl
theorem ns_fdiv (hx : Dbl x) (hy : Dbl y) (hr : WordsAt W vr rs) (hl : rs.length ≤ 999000) : Calls Tryz.prog 16 #[.pointer (some ⟨hb, 0, none⟩), .string ⟨#[47, 47]⟩, .int .u64 (x : Nat), .int .u64 (y : Nat), vr] W (NS W) := by
  refine Binary_k W hb _ x y _ eg_reckons1 _ vr rs hr hl 3 0 x 0 ⟨#[]⟩ 3 0 y 0 ⟨#[]⟩ hx.2 hy.2 (binary_fdiv W) (fun w' h => unbox_d x hx hb w') (fun w' h => unbox_d y hy hb w') NS.two (fun w' cp wb vb vr' h hc hw0 hw1 hv hw => ?_)
  refine reckons1_g cp _ eg_fdiv hc false false false 0 x 0 y 0 (floorI (opI .quo x y)) (fun w3 h3 => numbers_tt w3 hb vb 2 _ _ (by decide) (by decide) 3 0 x 0 3 0 y 0 _ _ (fun k => by rw [(h3).cell (p := ⟨vb, k, none⟩) (cell_lt (hv 0))]; exact hv k) false false 0 x 0 y (number_f 0 x 0 _) (number_f 0 y 0 _)) (fun w => ?_) (fun w3 h3 => ?_) NS.two
  · have := numFloorDiv_c false false 0 x 0 y (by decide) (by decide) (by decide) (by decide) w
    rw [res_fdiv] at this
    exact this
  · exact boxNum_f 0 _ (fun w4 h4 => (box_ns vr' hb _ (floorI_range _) w4).mono (fun e w5 h5 => h5.on (h.trans ((h3.trans (h4.mono h3.size)).mono h.size)))) NS.two
theorem res_mod (x y : Nat) : mdR false 0 x false 0 y = okD (modD x y) := by unfold mdR; rw [if_neg (by simp)]; rfl
theorem ns_mod (hx : Dbl x) (hy : Dbl y) (hr : WordsAt W vr rs) (hl : rs.length ≤ 999000) : Calls Tryz.prog 16 #[.pointer (some ⟨hb, 0, none⟩), .string ⟨#[37]⟩, .int .u64 (x : Nat), .int .u64 (y : Nat), vr] W (NS W) := by
  refine Binary_k W hb _ x y _ eg_reckons1 _ vr rs hr hl 3 0 x 0 ⟨#[]⟩ 3 0 y 0 ⟨#[]⟩ hx.2 hy.2 (binary_mod W) (fun w' h => unbox_d x hx hb w') (fun w' h => unbox_d y hy hb w') NS.two (fun w' cp wb vb vr' h hc hw0 hw1 hv hw => ?_)
  refine reckons1_g cp _ eg_mod hc false false false 0 x 0 y 0 (modD x y) (fun w3 h3 => numbers_tt w3 hb vb 2 _ _ (by decide) (by decide) 3 0 x 0 3 0 y 0 _ _ (fun k => by rw [(h3).cell (p := ⟨vb, k, none⟩) (cell_lt (hv 0))]; exact hv k) false false 0 x 0 y (number_f 0 x 0 _) (number_f 0 y 0 _)) (fun w => ?_) (fun w3 h3 => ?_) NS.two
  · have := numMod_c false false 0 x 0 y (by decide) (by decide) (by decide) (by decide) w
    rw [res_mod] at this
    exact this
  · exact boxNum_f 0 _ (fun w4 h4 => (box_ns vr' hb _ (opI_range _ _ _) w4).mono (fun e w5 h5 => h5.on (h.trans ((h3.trans (h4.mono h3.size)).mono h.size)))) NS.two
theorem res_add (x y : Nat) : addR false 0 x false 0 y = okD (opI .add x y) := by unfold addR; rw [if_neg (by simp)]; rfl
theorem ns_add (hx : Dbl x) (hy : Dbl y) (hr : WordsAt W vr rs) (hl : rs.length ≤ 999000) : Calls Tryz.prog 16 #[.pointer (some ⟨hb, 0, none⟩), .string ⟨#[43]⟩, .int .u64 (x : Nat), .int .u64 (y : Nat), vr] W (NS W) := by
  refine Binary_g W hb _ x y _ eg_plus vr rs hr hl 3 0 x 0 ⟨#[]⟩ 3 0 y 0 ⟨#[]⟩ hx.2 hy.2 (binary_plus W) (fun w' h => unbox_d x hx hb w') (fun w' h => unbox_d y hy hb w') NS.two (fun w' wb vb vr' h hw0 hw1 hv hw => ?_)
  refine plus_g 3 0 x 0 3 0 y 0 _ _ (by decide) hv (fun w2 cp h2 hc => ?_) NS.two
  refine reckons1_g cp _ eg_add hc false false false 0 x 0 y 0 (opI .add x y) (fun w3 h3 => numbers_tt w3 hb vb 2 _ _ (by decide) (by decide) 3 0 x 0 3 0 y 0 _ _ (fun k => by rw [(h2.trans (h3.mono h2.size)).cell (p := ⟨vb, k, none⟩) (cell_lt (hv 0))]; exact hv k) false false 0 x 0 y (number_f 0 x 0 _) (number_f 0 y 0 _)) (fun w => ?_) (fun w3 h3 => ?_) NS.two
  · have := numAdd_c false false 0 x 0 y (by decide) (by decide) (by decide) (by decide) w
    rw [res_add] at this
    exact this
  · have h23 := h2.trans (h3.mono h2.size)
    exact boxNum_f 0 _ (fun w4 h4 => (box_ns vr' hb _ (opI_range _ _ _) w4).mono (fun e w5 h5 => h5.on (h.trans ((h23.trans (h4.mono h23.size)).mono h.size)))) NS.two
theorem ns_and (hx : Dbl x) (hy : Dbl y) (hr : WordsAt W vr rs) (hl : rs.length ≤ 999000) : Calls Tryz.prog 16 #[.pointer (some ⟨hb, 0, none⟩), .string ⟨#[38]⟩, .int .u64 (x : Nat), .int .u64 (y : Nat), vr] W (NS W) := by
  refine Binary_k W hb _ x y _ eg_joins1 _ vr rs hr hl 3 0 x 0 ⟨#[]⟩ 3 0 y 0 ⟨#[]⟩ hx.2 hy.2 (binary_and W) (fun w' h => unbox_d x hx hb w') (fun w' h => unbox_d y hy hb w') NS.two (fun w' cp wb vb vr' h hc hw0 hw1 hv hw => ?_)
  exact (joins1_t cp x y hv).mono (fun e w3 h3 => ⟨⟨_, _, h3.1, .inr ⟨rfl, .inr rfl⟩⟩, h.trans (h3.2.mono h.size)⟩)
theorem ns_or (hx : Dbl x) (hy : Dbl y) (hr : WordsAt W vr rs) (hl : rs.length ≤ 999000) : Calls Tryz.prog 16 #[.pointer (some ⟨hb, 0, none⟩), .string ⟨#[124]⟩, .int .u64 (x : Nat), .int .u64 (y : Nat), vr] W (NS W) := by
  refine Binary_k W hb _ x y _ eg_joins1 _ vr rs hr hl 3 0 x 0 ⟨#[]⟩ 3 0 y 0 ⟨#[]⟩ hx.2 hy.2 (binary_or W) (fun w' h => unbox_d x hx hb w') (fun w' h => unbox_d y hy hb w') NS.two (fun w' cp wb vb vr' h hc hw0 hw1 hv hw => ?_)
  exact (joins1_t cp x y hv).mono (fun e w3 h3 => ⟨⟨_, _, h3.1, .inr ⟨rfl, .inr rfl⟩⟩, h.trans (h3.2.mono h.size)⟩)
theorem ns_xor (hx : Dbl x) (hy : Dbl y) (hr : WordsAt W vr rs) (hl : rs.length ≤ 999000) : Calls Tryz.prog 16 #[.pointer (some ⟨hb, 0, none⟩), .string ⟨#[94]⟩, .int .u64 (x : Nat), .int .u64 (y : Nat), vr] W (NS W) := by
  refine Binary_k W hb _ x y _ eg_joins1 _ vr rs hr hl 3 0 x 0 ⟨#[]⟩ 3 0 y 0 ⟨#[]⟩ hx.2 hy.2 (binary_xor W) (fun w' h => unbox_d x hx hb w') (fun w' h => unbox_d y hy hb w') NS.two (fun w' cp wb vb vr' h hc hw0 hw1 hv hw => ?_)
  exact (joins1_t cp x y hv).mono (fun e w3 h3 => ⟨⟨_, _, h3.1, .inr ⟨rfl, .inr rfl⟩⟩, h.trans (h3.2.mono h.size)⟩)
theorem ns_shl (hx : Dbl x) (hy : Dbl y) (hr : WordsAt W vr rs) (hl : rs.length ≤ 999000) : Calls Tryz.prog 16 #[.pointer (some ⟨hb, 0, none⟩), .string ⟨#[60, 60]⟩, .int .u64 (x : Nat), .int .u64 (y : Nat), vr] W (NS W) := by
  refine Binary_k W hb _ x y _ eg_joins1 _ vr rs hr hl 3 0 x 0 ⟨#[]⟩ 3 0 y 0 ⟨#[]⟩ hx.2 hy.2 (binary_shl W) (fun w' h => unbox_d x hx hb w') (fun w' h => unbox_d y hy hb w') NS.two (fun w' cp wb vb vr' h hc hw0 hw1 hv hw => ?_)
  exact (joins1_t cp x y hv).mono (fun e w3 h3 => ⟨⟨_, _, h3.1, .inr ⟨rfl, .inr rfl⟩⟩, h.trans (h3.2.mono h.size)⟩)
theorem ns_shr (hx : Dbl x) (hy : Dbl y) (hr : WordsAt W vr rs) (hl : rs.length ≤ 999000) : Calls Tryz.prog 16 #[.pointer (some ⟨hb, 0, none⟩), .string ⟨#[62, 62]⟩, .int .u64 (x : Nat), .int .u64 (y : Nat), vr] W (NS W) := by
  refine Binary_k W hb _ x y _ eg_joins1 _ vr rs hr hl 3 0 x 0 ⟨#[]⟩ 3 0 y 0 ⟨#[]⟩ hx.2 hy.2 (binary_shr W) (fun w' h => unbox_d x hx hb w') (fun w' h => unbox_d y hy hb w') NS.two (fun w' cp wb vb vr' h hc hw0 hw1 hv hw => ?_)
  exact (joins1_t cp x y hv).mono (fun e w3 h3 => ⟨⟨_, _, h3.1, .inr ⟨rfl, .inr rfl⟩⟩, h.trans (h3.2.mono h.size)⟩)
theorem ns_lt (hx : Dbl x) (hy : Dbl y) (hr : WordsAt W vr rs) (hl : rs.length ≤ 999000) : Calls Tryz.prog 16 #[.pointer (some ⟨hb, 0, none⟩), .string ⟨#[60]⟩, .int .u64 (x : Nat), .int .u64 (y : Nat), vr] W (NS W) := by
  have ix : inN 0 x := ⟨by decide, by omega, by have := hx.2; omega⟩
  have iy : inN 0 y := ⟨by decide, by omega, by have := hy.2; omega⟩
  refine Binary_k2 W hb _ x y _ eg_orders1 _ (PF.keep) vr rs hr hl 3 0 x 0 ⟨#[]⟩ 3 0 y 0 ⟨#[]⟩ hx.2 hy.2 (binary_lt W) (fun w' h => unbox_d x hx hb w') (fun w' h => unbox_d y hy hb w') NS.two (fun w' cp cq wb vb vr' h hc hw0 hw1 hv hw => ?_)
  exact (orders1_g cp cq _ eg_less hc false false (lessN false 0 x false 0 y) 0 x 0 y (fun w3 h3 => numbers_tt w3 hb vb 2 _ _ (by decide) (by decide) 3 0 x 0 3 0 y 0 _ _ (fun k => by rw [(h3).cell (p := ⟨vb, k, none⟩) (cell_lt (hv 0))]; exact hv k) false false 0 x 0 y (number_f 0 x 0 _) (number_f 0 y 0 _)) (fun w2 h2 => (numLess_c false false 0 x 0 y ix iy w2).mono (fun e w3 h3 => ⟨h3.1, h3.2.below⟩))).mono (fun e w3 h3 => (ns_bool h3).on h)
theorem ns_le (hx : Dbl x) (hy : Dbl y) (hr : WordsAt W vr rs) (hl : rs.length ≤ 999000) : Calls Tryz.prog 16 #[.pointer (some ⟨hb, 0, none⟩), .string ⟨#[60, 61]⟩, .int .u64 (x : Nat), .int .u64 (y : Nat), vr] W (NS W) := by
  have ix : inN 0 x := ⟨by decide, by omega, by have := hx.2; omega⟩
  have iy : inN 0 y := ⟨by decide, by omega, by have := hy.2; omega⟩
  refine Binary_k2 W hb _ x y _ eg_orders1 _ (PF.keep) vr rs hr hl 3 0 x 0 ⟨#[]⟩ 3 0 y 0 ⟨#[]⟩ hx.2 hy.2 (binary_le W) (fun w' h => unbox_d x hx hb w') (fun w' h => unbox_d y hy hb w') NS.two (fun w' cp cq wb vb vr' h hc hw0 hw1 hv hw => ?_)
  exact (orders1_g cp cq _ eg_lessEq hc false false (lessEqN false 0 x false 0 y) 0 x 0 y (fun w3 h3 => numbers_tt w3 hb vb 2 _ _ (by decide) (by decide) 3 0 x 0 3 0 y 0 _ _ (fun k => by rw [(h3).cell (p := ⟨vb, k, none⟩) (cell_lt (hv 0))]; exact hv k) false false 0 x 0 y (number_f 0 x 0 _) (number_f 0 y 0 _)) (fun w2 h2 => (numLessEq_c false false 0 x 0 y ix iy w2).mono (fun e w3 h3 => ⟨h3.1, h3.2.below⟩))).mono (fun e w3 h3 => (ns_bool h3).on h)
theorem ns_gt (hx : Dbl x) (hy : Dbl y) (hr : WordsAt W vr rs) (hl : rs.length ≤ 999000) : Calls Tryz.prog 16 #[.pointer (some ⟨hb, 0, none⟩), .string ⟨#[62]⟩, .int .u64 (x : Nat), .int .u64 (y : Nat), vr] W (NS W) := by
  have ix : inN 0 x := ⟨by decide, by omega, by have := hx.2; omega⟩
  have iy : inN 0 y := ⟨by decide, by omega, by have := hy.2; omega⟩
  refine Binary_k2 W hb _ x y _ eg_orders1 _ (PS.keep) vr rs hr hl 3 0 x 0 ⟨#[]⟩ 3 0 y 0 ⟨#[]⟩ hx.2 hy.2 (binary_gt W) (fun w' h => unbox_d x hx hb w') (fun w' h => unbox_d y hy hb w') NS.two (fun w' cp cq wb vb vr' h hc hw0 hw1 hv hw => ?_)
  obtain ⟨cs, hc1, hc2⟩ := hc
  exact (orders1_s cp cq _ cs eg_swapped1 hc1 false false (lessN false 0 y false 0 x) 0 x 0 y (fun w3 h3 => numbers_tt w3 hb vb 2 _ _ (by decide) (by decide) 3 0 x 0 3 0 y 0 _ _ (fun k => by rw [(h3).cell (p := ⟨vb, k, none⟩) (cell_lt (hv 0))]; exact hv k) false false 0 x 0 y (number_f 0 x 0 _) (number_f 0 y 0 _)) (fun w2 h2 => swapped1_g w2 cs _ eg_less (cell_keep h2 hc2) false false (lessN false 0 y false 0 x) 0 x 0 y (fun w => numLess_c false false 0 y 0 x iy ix w))).mono (fun e w3 h3 => (ns_bool h3).on h)
theorem ns_ge (hx : Dbl x) (hy : Dbl y) (hr : WordsAt W vr rs) (hl : rs.length ≤ 999000) : Calls Tryz.prog 16 #[.pointer (some ⟨hb, 0, none⟩), .string ⟨#[62, 61]⟩, .int .u64 (x : Nat), .int .u64 (y : Nat), vr] W (NS W) := by
  have ix : inN 0 x := ⟨by decide, by omega, by have := hx.2; omega⟩
  have iy : inN 0 y := ⟨by decide, by omega, by have := hy.2; omega⟩
  refine Binary_k2 W hb _ x y _ eg_orders1 _ (PS.keep) vr rs hr hl 3 0 x 0 ⟨#[]⟩ 3 0 y 0 ⟨#[]⟩ hx.2 hy.2 (binary_ge W) (fun w' h => unbox_d x hx hb w') (fun w' h => unbox_d y hy hb w') NS.two (fun w' cp cq wb vb vr' h hc hw0 hw1 hv hw => ?_)
  obtain ⟨cs, hc1, hc2⟩ := hc
  exact (orders1_s cp cq _ cs eg_swapped1 hc1 false false (lessEqN false 0 y false 0 x) 0 x 0 y (fun w3 h3 => numbers_tt w3 hb vb 2 _ _ (by decide) (by decide) 3 0 x 0 3 0 y 0 _ _ (fun k => by rw [(h3).cell (p := ⟨vb, k, none⟩) (cell_lt (hv 0))]; exact hv k) false false 0 x 0 y (number_f 0 x 0 _) (number_f 0 y 0 _)) (fun w2 h2 => swapped1_g w2 cs _ eg_lessEq (cell_keep h2 hc2) false false (lessEqN false 0 y false 0 x) 0 x 0 y (fun w => numLessEq_c false false 0 y 0 x iy ix w))).mono (fun e w3 h3 => (ns_bool h3).on h)
theorem ns_eq (hx : Dbl x) (hy : Dbl y) (hr : WordsAt W vr rs) (hl : rs.length ≤ 999000) : Calls Tryz.prog 16 #[.pointer (some ⟨hb, 0, none⟩), .string ⟨#[61, 61]⟩, .int .u64 (x : Nat), .int .u64 (y : Nat), vr] W (NS W) := by
  have ix : inN 0 x := ⟨by decide, by omega, by have := hx.2; omega⟩
  have iy : inN 0 y := ⟨by decide, by omega, by have := hy.2; omega⟩
  refine Binary_k W hb _ x y _ eg_equates1 _ vr rs hr hl 3 0 x 0 ⟨#[]⟩ 3 0 y 0 ⟨#[]⟩ hx.2 hy.2 (binary_eq W) (fun w' h => unbox_d x hx hb w') (fun w' h => unbox_d y hy hb w') NS.two (fun w' cp wb vb vr' h hc hw0 hw1 hv hw => ?_)
  exact (equates1_g cp true (equalN false 0 x false 0 y) hc (fun w2 h2 => same_g false false (equalN false 0 x false 0 y) 0 x 0 y (fun w3 h3 => numbers_tt w3 hb vb 2 _ _ (by decide) (by decide) 3 0 x 0 3 0 y 0 _ _ (fun k => by rw [(h2.trans (h3.mono h2.size)).cell (p := ⟨vb, k, none⟩) (cell_lt (hv 0))]; exact hv k) false false 0 x 0 y (number_f 0 x 0 _) (number_f 0 y 0 _)) (fun w => numEqual_c false false 0 x 0 y ix iy w))).mono (fun e w3 h3 => (ns_bool h3).on h)
theorem ns_ne (hx : Dbl x) (hy : Dbl y) (hr : WordsAt W vr rs) (hl : rs.length ≤ 999000) : Calls Tryz.prog 16 #[.pointer (some ⟨hb, 0, none⟩), .string ⟨#[33, 61]⟩, .int .u64 (x : Nat), .int .u64 (y : Nat), vr] W (NS W) := by
  have ix : inN 0 x := ⟨by decide, by omega, by have := hx.2; omega⟩
  have iy : inN 0 y := ⟨by decide, by omega, by have := hy.2; omega⟩
  refine Binary_k W hb _ x y _ eg_equates1 _ vr rs hr hl 3 0 x 0 ⟨#[]⟩ 3 0 y 0 ⟨#[]⟩ hx.2 hy.2 (binary_ne W) (fun w' h => unbox_d x hx hb w') (fun w' h => unbox_d y hy hb w') NS.two (fun w' cp wb vb vr' h hc hw0 hw1 hv hw => ?_)
  exact (equates1_g cp false (equalN false 0 x false 0 y) hc (fun w2 h2 => same_g false false (equalN false 0 x false 0 y) 0 x 0 y (fun w3 h3 => numbers_tt w3 hb vb 2 _ _ (by decide) (by decide) 3 0 x 0 3 0 y 0 _ _ (fun k => by rw [(h2.trans (h3.mono h2.size)).cell (p := ⟨vb, k, none⟩) (cell_lt (hv 0))]; exact hv k) false false 0 x 0 y (number_f 0 x 0 _) (number_f 0 y 0 _)) (fun w => numEqual_c false false 0 x 0 y ix iy w))).mono (fun e w3 h3 => (ns_bool h3).on h)
end
end Go.Proofs.YtdncdddaobemaaaGreatDoor.W.Nu
/- Package ops: two doubles under whatever text; a double turned; frombits. -/
namespace Go.Proofs.YtdncdddaobemaaaGreatDoor.W.Nu
open Go.ChangeShapes Go.WideShapes Go.RowKit Go.Shelf
set_option linter.unusedVariables false
theorem ne_list (a : ByteArray) (l : List UInt8) (h : ¬ a = ⟨l.toArray⟩) : (a.toList == l) = false := by
  cases hq : (a.toList == l) with
  | false => rfl
  | true =>
    have e : a.toList = l := by simpa using hq
    rw [ByteArray.toList_eq] at e
    exact absurd (bytes_inj (b := ⟨l.toArray⟩) (by rw [e])) h
theorem nil_eql (w : World) : (binOp .eql 49 .nilFunc .nilFunc).run Tryz.prog w = .ok (.bool true) w := by kernel_rfl
set_option maxRecDepth 100000 in
theorem bitwise_none (op : ByteArray) (h0 : (op.toList == [43]) = false) (h1 : (op.toList == [45]) = false) (h2 : (op.toList == [42]) = false) (h3 : (op.toList == [47]) = false) (h4 : (op.toList == [47, 47]) = false) (h5 : (op.toList == [37]) = false) (h6 : (op.toList == [61, 61]) = false) (h7 : (op.toList == [33, 61]) = false) (h8 : (op.toList == [38]) = false) (h9 : (op.toList == [124]) = false) (h10 : (op.toList == [94]) = false) (h11 : (op.toList == [60, 60]) = false) (h12 : (op.toList == [62, 62]) = false) (h13 : (op.toList == [60]) = false) (h14 : (op.toList == [60, 61]) = false) (h15 : (op.toList == [62]) = false) (h16 : (op.toList == [62, 61]) = false) (W : World) : Calls Tryz.prog 90 #[.string op] W fun e w' => e = .returned .nilFunc ∧ w' = W := by
  go_enter Tryz.func90, Tryz.ntmps90
  go_wp2
  go_ret
  exact ⟨rfl, rfl⟩
set_option maxRecDepth 100000 in
theorem ordering_none (op : ByteArray) (h0 : (op.toList == [43]) = false) (h1 : (op.toList == [45]) = false) (h2 : (op.toList == [42]) = false) (h3 : (op.toList == [47]) = false) (h4 : (op.toList == [47, 47]) = false) (h5 : (op.toList == [37]) = false) (h6 : (op.toList == [61, 61]) = false) (h7 : (op.toList == [33, 61]) = false) (h8 : (op.toList == [38]) = false) (h9 : (op.toList == [124]) = false) (h10 : (op.toList == [94]) = false) (h11 : (op.toList == [60, 60]) = false) (h12 : (op.toList == [62, 62]) = false) (h13 : (op.toList == [60]) = false) (h14 : (op.toList == [60, 61]) = false) (h15 : (op.toList == [62]) = false) (h16 : (op.toList == [62, 61]) = false) (W : World) : Calls Tryz.prog 91 #[.string op] W fun e w' => e = .returned .nilFunc ∧ w' = W := by
  go_enter Tryz.func91, Tryz.ntmps91
  go_wp2
  go_ret
  exact ⟨rfl, rfl⟩
set_option maxRecDepth 100000 in
theorem binary_none (op : ByteArray) (h0 : (op.toList == [43]) = false) (h1 : (op.toList == [45]) = false) (h2 : (op.toList == [42]) = false) (h3 : (op.toList == [47]) = false) (h4 : (op.toList == [47, 47]) = false) (h5 : (op.toList == [37]) = false) (h6 : (op.toList == [61, 61]) = false) (h7 : (op.toList == [33, 61]) = false) (h8 : (op.toList == [38]) = false) (h9 : (op.toList == [124]) = false) (h10 : (op.toList == [94]) = false) (h11 : (op.toList == [60, 60]) = false) (h12 : (op.toList == [62, 62]) = false) (h13 : (op.toList == [60]) = false) (h14 : (op.toList == [60, 61]) = false) (h15 : (op.toList == [62]) = false) (h16 : (op.toList == [62, 61]) = false) (W : World) : Calls Tryz.prog 48 #[.string op] W fun e w' => e = .returned .nilFunc ∧ w' = W := by
  have hne := nil_neq
  have cb := bitwise_none op h0 h1 h2 h3 h4 h5 h6 h7 h8 h9 h10 h11 h12 h13 h14 h15 h16 W
  have co := ordering_none op h0 h1 h2 h3 h4 h5 h6 h7 h8 h9 h10 h11 h12 h13 h14 h15 h16 W
  go_enter Tryz.func48, Tryz.ntmps48
  go_wp2_with (first | (go_at_call 90; (with_reducible refine cb.mono ?_); rintro e w' ⟨rfl, hw⟩; (have hw' := hw.symm); subst hw'; clear hw) | (go_at_call 91; (with_reducible refine co.mono ?_); rintro e w' ⟨rfl, hw⟩; (have hw' := hw.symm); subst hw'; clear hw))
  go_ret
  exact ⟨rfl, rfl⟩
theorem ns_none (op : ByteArray) (h0 : (op.toList == [43]) = false) (h1 : (op.toList == [45]) = false) (h2 : (op.toList == [42]) = false) (h3 : (op.toList == [47]) = false) (h4 : (op.toList == [47, 47]) = false) (h5 : (op.toList == [37]) = false) (h6 : (op.toList == [61, 61]) = false) (h7 : (op.toList == [33, 61]) = false) (h8 : (op.toList == [38]) = false) (h9 : (op.toList == [124]) = false) (h10 : (op.toList == [94]) = false) (h11 : (op.toList == [60, 60]) = false) (h12 : (op.toList == [62, 62]) = false) (h13 : (op.toList == [60]) = false) (h14 : (op.toList == [60, 61]) = false) (h15 : (op.toList == [62]) = false) (h16 : (op.toList == [62, 61]) = false) (W : World) (hb x y : Nat) (vr : Value) : Calls Tryz.prog 16 #[.pointer (some ⟨hb, 0, none⟩), .string op, .int .u64 (x : Nat), .int .u64 (y : Nat), vr] W (NS W) := by
  have cb := binary_none op h0 h1 h2 h3 h4 h5 h6 h7 h8 h9 h10 h11 h12 h13 h14 h15 h16 W
  have heq := nil_eql
  clear h0 h1 h2 h3 h4 h5 h6 h7 h8 h9 h10 h11 h12 h13 h14 h15 h16
  go_enter Tryz.func16, Tryz.ntmps16
  go_wp2_with (go_at_call 48; (with_reducible refine cb.mono ?_); rintro e w' ⟨rfl, hw⟩; (have hw' := hw.symm); subst hw'; clear hw)
  first | exact ⟨⟨0, 1, rfl, .inr ⟨rfl, .inl rfl⟩⟩, Below.refl _ _⟩ | (go_ret2; exact ⟨⟨0, 1, rfl, .inr ⟨rfl, .inl rfl⟩⟩, Below.refl _ _⟩)
/-- whatever the operator is -/
theorem ns_any (op : ByteArray) (W : World) (hb x y : Nat) (hx : Dbl x) (hy : Dbl y) : Calls Tryz.prog 16 #[.pointer (some ⟨hb, 0, none⟩), .string op, .int .u64 (x : Nat), .int .u64 (y : Nat), .slice none 0 0] W (NS W) := by
  have hr := words_nil' W
  have hl : ([] : List Nat).length ≤ 999000 := by decide
  by_cases h0 : op = ⟨#[43]⟩
  · subst h0; exact ns_add hx hy hr hl
  by_cases h1 : op = ⟨#[45]⟩
  · subst h1; exact ns_sub hx hy hr hl
  by_cases h2 : op = ⟨#[42]⟩
  · subst h2; exact ns_mul hx hy hr hl
  by_cases h3 : op = ⟨#[47]⟩
  · subst h3; exact ns_div hx hy hr hl
  by_cases h4 : op = ⟨#[47, 47]⟩
  · subst h4; exact ns_fdiv hx hy hr hl
  by_cases h5 : op = ⟨#[37]⟩
  · subst h5; exact ns_mod hx hy hr hl
  by_cases h6 : op = ⟨#[61, 61]⟩
  · subst h6; exact ns_eq hx hy hr hl
  by_cases h7 : op = ⟨#[33, 61]⟩
  · subst h7; exact ns_ne hx hy hr hl
  by_cases h8 : op = ⟨#[38]⟩
  · subst h8; exact ns_and hx hy hr hl
  by_cases h9 : op = ⟨#[124]⟩
  · subst h9; exact ns_or hx hy hr hl
  by_cases h10 : op = ⟨#[94]⟩
  · subst h10; exact ns_xor hx hy hr hl
  by_cases h11 : op = ⟨#[60, 60]⟩
  · subst h11; exact ns_shl hx hy hr hl
  by_cases h12 : op = ⟨#[62, 62]⟩
  · subst h12; exact ns_shr hx hy hr hl
  by_cases h13 : op = ⟨#[60]⟩
  · subst h13; exact ns_lt hx hy hr hl
  by_cases h14 : op = ⟨#[60, 61]⟩
  · subst h14; exact ns_le hx hy hr hl
  by_cases h15 : op = ⟨#[62]⟩
  · subst h15; exact ns_gt hx hy hr hl
  by_cases h16 : op = ⟨#[62, 61]⟩
  · subst h16; exact ns_ge hx hy hr hl
  exact ns_none op (ne_list op [43] h0) (ne_list op [45] h1) (ne_list op [42] h2) (ne_list op [47] h3) (ne_list op [47, 47] h4) (ne_list op [37] h5) (ne_list op [61, 61] h6) (ne_list op [33, 61] h7) (ne_list op [38] h8) (ne_list op [124] h9) (ne_list op [94] h10) (ne_list op [60, 60] h11) (ne_list op [62, 62] h12) (ne_list op [60] h13) (ne_list op [60, 61] h14) (ne_list op [62] h15) (ne_list op [62, 61] h16) W hb x y _
theorem eg_fromPattern : ∀ args w, (callFunc 34 args).run Tryz.prog w = .ok (.enter 34 args) w := enters_of Tryz.func34 (by kernel_rfl) rfl
section
variable {W : World} {hb vb : Nat} {vw vr : Value} {R : Ending → World → Prop}
set_option maxRecDepth 100000 in
theorem fromPattern_m (b0 r0 : Int) (s0 : ByteArray) (hv : ∀ k, W.cell? ⟨vb, k, none⟩ = #[.int .i64 2, .int .i64 (-1), .int .u64 b0, .string s0, .int .u64 r0][k]?) : Calls Tryz.prog 34 #[.agg #[.pointer (some ⟨hb, 0, none⟩), vw, .slice (some ⟨vb, 0, none⟩) 1 1, vr]] W fun e w' => e = .returned (.tuple #[.int .u64 9221120237041090560, .int .i64 0]) ∧ Below W.heap.size W w' := by
  obtain ⟨h1, h2, cA, hE⟩ := pre1 (hb := hb) (vw := vw) (vr := vr) (-1) b0 r0 s0 hv
  have cF := fun w => fromFloat_c 18446744073709551615 (by decide) (by decide) w
  rw [show Go.Proofs.YtdncdddaobemaaaGreatDoor.W.fltW 18446744073709551615 = 9221120237041090560 from by decide, show (18446744073709551615 : Int) = IntKind.u64.wrap (-1) from by decide] at cF
  have H1 := hid h1
  have H2 := hid h2
  have HE := hid hE
  clear h1 h2 hE hv
  go_enter Tryz.func34, Tryz.ntmps34
  go_upto_region 1 with fail
  generalize W.alloc (.cells #[.pointer (some ⟨hb, 0, none⟩), vw, .slice (some ⟨vb, 0, none⟩) 1 1, vr] 80) = W1 at *
  obtain ⟨eC1, -⟩ := HE.out W1 (Below.refl _ _)
  go_upto_region 3 with (go_at_call 58; (with_reducible refine cA.mono ?_); rintro e W2 ⟨rfl, hB3⟩; clear cA)
  have hB4 := H2.out.trans (hB3.mono H2.out.size)
  obtain ⟨eC, eV⟩ := HE.out W2 hB4
  have HB := hid (H1.out.trans (hB4.mono H1.out.size))
  clear hB3 hB4 eC1
  go_wp2_with (go_at_call 22; (with_reducible refine (cF _).mono ?_); rintro e w' ⟨rfl, hw⟩; (have hw' := hw.symm); subst hw'; clear hw)
  go_ret2
  exact ⟨rfl, HB.out⟩
end
theorem find_frombits (x5 x6 x7 x8 x9 : Nat) : findL (opsL x5 x6 x7 x8 x9) ⟨#[102, 114, 111, 109, 98, 105, 116, 115]⟩ = some (.agg #[.int .i64 1, .func (.func 34) #[] #[]]) := by kernel_rfl
theorem bin_frombits (W : World) (hb wb : Nat) (hw0 : W.cell? ⟨wb, 0, none⟩ = some (.int .u64 (18445055223849287679 : Nat))) : Calls Tryz.prog 6 #[.pointer (some ⟨hb, 0, none⟩), .string ⟨#[102, 114, 111, 109, 98, 105, 116, 115]⟩, .slice (some ⟨wb, 0, none⟩) 1 1, .slice none 0 0] W fun e w' => e = .returned (.tuple #[.int .u64 9221120237041090560, .int .i64 0]) ∧ Below W.heap.size W w' := by
  refine Builtin_1 W hb _ 18445055223849287679 wb _ eg_fromPattern _ [] (words_nil' W) (by decide) 2 (-1) 0 0 ⟨#[]⟩ (by decide) hw0 find_frombits (fun w' h => ?_) (by rintro e w' ⟨rfl, _⟩; exact ⟨_, _, rfl⟩) (fun w' vb vr' h hc hv hw => ?_)
  · have := unbox_sint (-1) (by decide) (.pointer (some ⟨hb, 0, none⟩)) w'
    rw [show intW (-1) = ((18445055223849287679 : Nat) : Int) from by decide] at this
    exact this
  · refine (fromPattern_m 0 0 _ hv).mono ?_
    rintro e w3 ⟨rfl, h3⟩
    exact ⟨rfl, h.trans (h3.mono h.size)⟩
end Go.Proofs.YtdncdddaobemaaaGreatDoor.W.Nu
