import Derived.Test.YtgmimmdojkoppaaGreatDoorO6aJ
/- Package ops: comparing operators on numbers, in words. -/
namespace Go.Proofs.YtgmimmdojkoppaaGreatDoor.W.Nu
open Go.ChangeShapes Go.WideShapes Go.RowKit Go.Shelf
set_option linter.unusedVariables false
theorem eg_orders1 : ∀ args w, (callFunc 165 args).run Tryz.prog w = .ok (.enter 165 args) w := enters_of Tryz.func165 (by kernel_rfl) rfl
theorem eg_equates1 : ∀ args w, (callFunc 111 args).run Tryz.prog w = .ok (.enter 111 args) w := enters_of Tryz.func111 (by kernel_rfl) rfl
theorem eg_swapped1 : ∀ args w, (callFunc 168 args).run Tryz.prog w = .ok (.enter 168 args) w := enters_of Tryz.func168 (by kernel_rfl) rfl
theorem eg_less : ∀ args w, (callFunc 120 args).run Tryz.prog w = .ok (.enter 120 args) w := enters_of Tryz.func120 (by kernel_rfl) rfl
theorem eg_lessEq : ∀ args w, (callFunc 122 args).run Tryz.prog w = .ok (.enter 122 args) w := enters_of Tryz.func122 (by kernel_rfl) rfl
theorem nil_neq (w : World) : (binOp .neq 50 .nilFunc .nilFunc).run Tryz.prog w = .ok (.bool false) w := by kernel_rfl
/-- what stands behind an order's first captured variable -/
def PF (g : Nat) (w : World) (cp : Nat) : Prop := w.cell? ⟨cp, 0, none⟩ = some (.func (.func g) #[] #[])
def PS (g : Nat) (w : World) (cp : Nat) : Prop := ∃ cs, w.cell? ⟨cp, 0, none⟩ = some (.func (.func 168) #[] #[.pointer (some ⟨cs, 0, none⟩)]) ∧ w.cell? ⟨cs, 0, none⟩ = some (.func (.func g) #[] #[])
theorem PF.keep {g : Nat} (w w' : World) (cp : Nat) (h : PF g w cp) (hB : Below w.heap.size w w') : PF g w' cp := cell_keep hB h
theorem PS.keep {g : Nat} (w w' : World) (cp : Nat) (h : PS g w cp) (hB : Below w.heap.size w w') : PS g w' cp := by
  obtain ⟨cs, h1, h2⟩ := h
  exact ⟨cs, cell_keep hB h1, cell_keep hB h2⟩
set_option maxRecDepth 100000 in
theorem bitwise_lt (W : World) : Calls Tryz.prog 59 #[.string ⟨#[60]⟩] W fun e w' => e = .returned .nilFunc ∧ w' = W := by
  go_enter Tryz.func59, Tryz.ntmps59
  go_wp2
  go_ret
  exact ⟨rfl, rfl⟩
set_option maxRecDepth 100000 in
theorem ordering_lt (W : World) : Calls Tryz.prog 60 #[.string ⟨#[60]⟩] W fun e w' => ∃ cp cq, e = .returned (.func (.func 165) #[] #[.pointer (some ⟨cp, 0, none⟩), .pointer (some ⟨cq, 0, none⟩)]) ∧ PF 120 w' cp ∧ Below W.heap.size W w' := by
  go_enter Tryz.func60, Tryz.ntmps60
  go_wp2_with (go_at_call 119; (with_reducible refine (orders_c _ _ _ _).mono ?_); rintro e w2 ⟨cp, cq, rfl, h⟩)
  go_ret
  exact ⟨_, _, rfl, h⟩
set_option maxRecDepth 100000 in
theorem binary_lt (W : World) : Calls Tryz.prog 21 #[.string ⟨#[60]⟩] W fun e w' => ∃ cp cq, e = .returned (.func (.func 165) #[] #[.pointer (some ⟨cp, 0, none⟩), .pointer (some ⟨cq, 0, none⟩)]) ∧ PF 120 w' cp ∧ Below W.heap.size W w' := by
  have hne := nil_neq
  go_enter Tryz.func21, Tryz.ntmps21
  go_wp2_with (first | (go_at_call 59; (with_reducible refine (bitwise_lt _).mono ?_); rintro e w' ⟨rfl, hw⟩; (have hw' := hw.symm); subst hw'; clear hw) | (go_at_call 60; (with_reducible refine (ordering_lt _).mono ?_); rintro e w2 ⟨cp, cq, rfl, h⟩))
  go_ret
  exact ⟨_, _, rfl, h⟩
set_option maxRecDepth 100000 in
theorem bitwise_le (W : World) : Calls Tryz.prog 59 #[.string ⟨#[60, 61]⟩] W fun e w' => e = .returned .nilFunc ∧ w' = W := by
  go_enter Tryz.func59, Tryz.ntmps59
  go_wp2
  go_ret
  exact ⟨rfl, rfl⟩
set_option maxRecDepth 100000 in
theorem ordering_le (W : World) : Calls Tryz.prog 60 #[.string ⟨#[60, 61]⟩] W fun e w' => ∃ cp cq, e = .returned (.func (.func 165) #[] #[.pointer (some ⟨cp, 0, none⟩), .pointer (some ⟨cq, 0, none⟩)]) ∧ PF 122 w' cp ∧ Below W.heap.size W w' := by
  go_enter Tryz.func60, Tryz.ntmps60
  go_wp2_with (go_at_call 119; (with_reducible refine (orders_c _ _ _ _).mono ?_); rintro e w2 ⟨cp, cq, rfl, h⟩)
  go_ret
  exact ⟨_, _, rfl, h⟩
set_option maxRecDepth 100000 in
theorem binary_le (W : World) : Calls Tryz.prog 21 #[.string ⟨#[60, 61]⟩] W fun e w' => ∃ cp cq, e = .returned (.func (.func 165) #[] #[.pointer (some ⟨cp, 0, none⟩), .pointer (some ⟨cq, 0, none⟩)]) ∧ PF 122 w' cp ∧ Below W.heap.size W w' := by
  have hne := nil_neq
  go_enter Tryz.func21, Tryz.ntmps21
  go_wp2_with (first | (go_at_call 59; (with_reducible refine (bitwise_le _).mono ?_); rintro e w' ⟨rfl, hw⟩; (have hw' := hw.symm); subst hw'; clear hw) | (go_at_call 60; (with_reducible refine (ordering_le _).mono ?_); rintro e w2 ⟨cp, cq, rfl, h⟩))
  go_ret
  exact ⟨_, _, rfl, h⟩
set_option maxRecDepth 100000 in
theorem bitwise_gt (W : World) : Calls Tryz.prog 59 #[.string ⟨#[62]⟩] W fun e w' => e = .returned .nilFunc ∧ w' = W := by
  go_enter Tryz.func59, Tryz.ntmps59
  go_wp2
  go_ret
  exact ⟨rfl, rfl⟩
set_option maxRecDepth 100000 in
theorem ordering_gt (W : World) : Calls Tryz.prog 60 #[.string ⟨#[62]⟩] W fun e w' => ∃ cp cq, e = .returned (.func (.func 165) #[] #[.pointer (some ⟨cp, 0, none⟩), .pointer (some ⟨cq, 0, none⟩)]) ∧ PS 120 w' cp ∧ Below W.heap.size W w' := by
  go_enter Tryz.func60, Tryz.ntmps60
  go_wp2_with (first | (go_at_call 124; (with_reducible refine (swapped_c _ _).mono ?_); rintro e w1 ⟨rfl, hs, hB1⟩; (replace hs := hid hs); (replace hB1 := hid hB1)) | (go_at_call 119; (with_reducible refine (orders_c _ _ _ _).mono ?_); rintro e w2 ⟨cp, cq, rfl, h, hB2⟩))
  go_ret
  exact ⟨_, _, rfl, ⟨_, h, cell_keep hB2 hs.out⟩, hB1.out.trans (hB2.mono hB1.out.size)⟩
set_option maxRecDepth 100000 in
theorem binary_gt (W : World) : Calls Tryz.prog 21 #[.string ⟨#[62]⟩] W fun e w' => ∃ cp cq, e = .returned (.func (.func 165) #[] #[.pointer (some ⟨cp, 0, none⟩), .pointer (some ⟨cq, 0, none⟩)]) ∧ PS 120 w' cp ∧ Below W.heap.size W w' := by
  have hne := nil_neq
  go_enter Tryz.func21, Tryz.ntmps21
  go_wp2_with (first | (go_at_call 59; (with_reducible refine (bitwise_gt _).mono ?_); rintro e w' ⟨rfl, hw⟩; (have hw' := hw.symm); subst hw'; clear hw) | (go_at_call 60; (with_reducible refine (ordering_gt _).mono ?_); rintro e w2 ⟨cp, cq, rfl, h⟩))
  go_ret
  exact ⟨_, _, rfl, h⟩
set_option maxRecDepth 100000 in
theorem bitwise_ge (W : World) : Calls Tryz.prog 59 #[.string ⟨#[62, 61]⟩] W fun e w' => e = .returned .nilFunc ∧ w' = W := by
  go_enter Tryz.func59, Tryz.ntmps59
  go_wp2
  go_ret
  exact ⟨rfl, rfl⟩
set_option maxRecDepth 100000 in
theorem ordering_ge (W : World) : Calls Tryz.prog 60 #[.string ⟨#[62, 61]⟩] W fun e w' => ∃ cp cq, e = .returned (.func (.func 165) #[] #[.pointer (some ⟨cp, 0, none⟩), .pointer (some ⟨cq, 0, none⟩)]) ∧ PS 122 w' cp ∧ Below W.heap.size W w' := by
  go_enter Tryz.func60, Tryz.ntmps60
  go_wp2_with (first | (go_at_call 124; (with_reducible refine (swapped_c _ _).mono ?_); rintro e w1 ⟨rfl, hs, hB1⟩; (replace hs := hid hs); (replace hB1 := hid hB1)) | (go_at_call 119; (with_reducible refine (orders_c _ _ _ _).mono ?_); rintro e w2 ⟨cp, cq, rfl, h, hB2⟩))
  go_ret
  exact ⟨_, _, rfl, ⟨_, h, cell_keep hB2 hs.out⟩, hB1.out.trans (hB2.mono hB1.out.size)⟩
set_option maxRecDepth 100000 in
theorem binary_ge (W : World) : Calls Tryz.prog 21 #[.string ⟨#[62, 61]⟩] W fun e w' => ∃ cp cq, e = .returned (.func (.func 165) #[] #[.pointer (some ⟨cp, 0, none⟩), .pointer (some ⟨cq, 0, none⟩)]) ∧ PS 122 w' cp ∧ Below W.heap.size W w' := by
  have hne := nil_neq
  go_enter Tryz.func21, Tryz.ntmps21
  go_wp2_with (first | (go_at_call 59; (with_reducible refine (bitwise_ge _).mono ?_); rintro e w' ⟨rfl, hw⟩; (have hw' := hw.symm); subst hw'; clear hw) | (go_at_call 60; (with_reducible refine (ordering_ge _).mono ?_); rintro e w2 ⟨cp, cq, rfl, h⟩))
  go_ret
  exact ⟨_, _, rfl, h⟩
theorem equates_c (b : Bool) (W : World) : Calls Tryz.prog 58 #[.bool b] W fun e w' => e = .returned (.func (.func 111) #[] #[.pointer (some ⟨W.heap.size, 0, none⟩)]) ∧ w'.cell? ⟨W.heap.size, 0, none⟩ = some (.bool b) ∧ Below W.heap.size W w' := by
  have hB : Below W.heap.size W (W.alloc (.cells #[.bool b] 4)) := (Below.refl _ W).alloc (Nat.le_refl _) _
  have hc : (W.alloc (.cells #[.bool b] 4)).cell? ⟨W.heap.size, 0, none⟩ = some (.bool b) := by rw [World.cell?_alloc_new]; rfl
  have H := hid (And.intro hc hB)
  clear hc hB
  go_enter Tryz.func58, Tryz.ntmps58
  go_wp2
  go_ret
  exact ⟨rfl, H.out⟩
set_option maxRecDepth 100000 in
theorem binary_eq (W : World) : Calls Tryz.prog 21 #[.string ⟨#[61, 61]⟩] W fun e w' => ∃ cp, e = .returned (.func (.func 111) #[] #[.pointer (some ⟨cp, 0, none⟩)]) ∧ w'.cell? ⟨cp, 0, none⟩ = some (.bool true) ∧ Below W.heap.size W w' := by
  go_enter Tryz.func21, Tryz.ntmps21
  go_wp2_with (go_at_call 58; (with_reducible refine (equates_c _ _).mono ?_); rintro e w2 ⟨rfl, h⟩)
  go_ret
  exact ⟨_, rfl, h⟩
set_option maxRecDepth 100000 in
theorem binary_ne (W : World) : Calls Tryz.prog 21 #[.string ⟨#[33, 61]⟩] W fun e w' => ∃ cp, e = .returned (.func (.func 111) #[] #[.pointer (some ⟨cp, 0, none⟩)]) ∧ w'.cell? ⟨cp, 0, none⟩ = some (.bool false) ∧ Below W.heap.size W w' := by
  go_enter Tryz.func21, Tryz.ntmps21
  go_wp2_with (go_at_call 58; (with_reducible refine (equates_c _ _).mono ?_); rintro e w2 ⟨rfl, h⟩)
  go_ret
  exact ⟨_, rfl, h⟩
/-- a number that stands in a word: whole, or a double (its own pattern) -/
def IsNum (H : List (Option Hc)) (w : Nat) (a : Bool) (i u : Int) : Prop := (a = true ∧ u = 0 ∧ IsInt H w i ∧ -9223372036854775808 ≤ i ∧ i < 9223372036854775808) ∨ (a = false ∧ i = 0 ∧ (w : Int) = u ∧ Go.Proofs.YtgmimmdojkoppaaGreatDoor.W.cls u = 1 ∧ w < 18446744073709551616)
def kV (a : Bool) : Int := if a = true then 2 else 3
theorem IsNum.lt {H : List (Option Hc)} {w : Nat} {a : Bool} {i u : Int} (h : IsNum H w a i u) : w < 18446744073709551616 := by
  rcases h with ⟨_, _, h, _⟩ | ⟨_, _, _, _, h⟩
  · exact IsInt.lt h
  · exact h
theorem IsNum.inN {H : List (Option Hc)} {w : Nat} {a : Bool} {i u : Int} (h : IsNum H w a i u) : inN i u := by
  rcases h with ⟨_, rfl, _, h⟩ | ⟨_, rfl, h1, _, h⟩
  · exact ⟨h, by omega, by omega⟩
  · exact ⟨by omega, by omega, by omega⟩
theorem IsNum.ext {H H' : List (Option Hc)} {w : Nat} {a : Bool} {i u : Int} (h : IsNum H w a i u) (he : Ext H H') : IsNum H' w a i u := by
  rcases h with ⟨h1, h2, h3, h4⟩ | h
  · exact .inl ⟨h1, h2, h3.ext he, h4⟩
  · exact .inr h
theorem unbox_n {W : World} {S : Nat → Prop} {hb : Nat} {H : List (Option Hc)} {u' : Nat} (q : HSt W S hb H u') (w : Nat) (a : Bool) (i u : Int) (h : IsNum H w a i u) :
    Calls Tryz.prog 18 #[.pointer (some ⟨hb, 0, none⟩), .int .u64 w] W fun e w' => e = .returned (.tuple #[.agg #[.int .i64 (kV a), .int .i64 i, .int .u64 u, .string ⟨#[]⟩, .int .u64 0], .int .i64 0]) ∧ Below W.heap.size W w' := by
  rcases h with ⟨rfl, rfl, h, _⟩ | ⟨rfl, rfl, h, hc, hl⟩
  · exact unbox_int q w i h
  · rw [h]
    exact unbox_flt u (by omega) (by omega) hc _ W
theorem number_n (a : Bool) (i u : Int) (h : (a = true ∧ u = 0) ∨ (a = false ∧ i = 0)) (w : World) : Calls Tryz.prog 93 #[.agg #[.int .i64 (kV a), .int .i64 i, .int .u64 u, .string ⟨#[]⟩, .int .u64 0]] w fun e w' => e = .returned (.tuple #[.agg #[.bool a, .int .i64 i, .int .u64 u], .bool true]) ∧ Gr w w' := by
  rcases h with ⟨rfl, rfl⟩ | ⟨rfl, rfl⟩
  · exact number_i i 0 0 _ w
  · exact number_f 0 u 0 _ w
theorem IsNum.shape {H : List (Option Hc)} {w : Nat} {a : Bool} {i u : Int} (h : IsNum H w a i u) : (a = true ∧ u = 0) ∨ (a = false ∧ i = 0) := by
  rcases h with ⟨h1, h2, _⟩ | ⟨h1, h2, _⟩
  · exact .inl ⟨h1, h2⟩
  · exact .inr ⟨h1, h2⟩
section
variable {W0 W : World} {hb : Nat} {H : List (Option Hc)} {u' : Nat} {K : Nat → Prop}
theorem bin_lt (q : Hf W0 W hb H u' K) (x y : Nat) (a b : Bool) (i u j v : Int) (hx : IsNum H x a i u) (hy : IsNum H y b j v) (vr : Value) (rs : List Nat) (hr : WordsAt W vr rs) (hl : rs.length ≤ 999000) : Calls Tryz.prog 10 #[.pointer (some ⟨hb, 0, none⟩), .string ⟨#[60]⟩, .int .u64 (x : Nat), .int .u64 (y : Nat), vr] W (fun e w' => e = .returned (.tuple #[.int .u64 (boolW (lessN a i u b j v)), .int .i64 0]) ∧ Below W.heap.size W w') := by
  have sx := hx.shape
  have sy := hy.shape
  refine Binary_k2 W hb _ x y _ eg_orders1 _ (PF.keep) vr rs hr hl (kV a) i u 0 ⟨#[]⟩ (kV b) j v 0 ⟨#[]⟩ hx.lt hy.lt (binary_lt W) (fun w' h => unbox_n (q.below' h).2.choose_spec.1 x a i u hx) (fun w' h => unbox_n (q.below' h).2.choose_spec.1 y b j v hy) (by rintro e w' ⟨rfl, _⟩; exact ⟨_, _, rfl⟩) (fun w' cp cq wb vb vr' h hc hw0 hw1 hv hw => ?_)
  refine (orders1_g cp cq _ eg_less hc a b (lessN a i u b j v) i u j v (fun w2 h2 => numbers_tt w2 hb vb 2 _ _ (by decide) (by decide) (kV a) i u 0 (kV b) j v 0 _ _ (fun k => by rw [h2.cell (p := ⟨vb, k, none⟩) (cell_lt (hv 0))]; exact hv k) a b i u j v (number_n a i u sx) (number_n b j v sy)) (fun w2 h2 => (numLess_c a b i u j v hx.inN hy.inN w2).mono (fun e w3 h3 => ⟨h3.1, h3.2.below⟩))).mono ?_
  rintro e w3 ⟨rfl, h3⟩
  exact ⟨rfl, h.trans (h3.mono h.size)⟩
theorem bin_le (q : Hf W0 W hb H u' K) (x y : Nat) (a b : Bool) (i u j v : Int) (hx : IsNum H x a i u) (hy : IsNum H y b j v) (vr : Value) (rs : List Nat) (hr : WordsAt W vr rs) (hl : rs.length ≤ 999000) : Calls Tryz.prog 10 #[.pointer (some ⟨hb, 0, none⟩), .string ⟨#[60, 61]⟩, .int .u64 (x : Nat), .int .u64 (y : Nat), vr] W (fun e w' => e = .returned (.tuple #[.int .u64 (boolW (lessEqN a i u b j v)), .int .i64 0]) ∧ Below W.heap.size W w') := by
  have sx := hx.shape
  have sy := hy.shape
  refine Binary_k2 W hb _ x y _ eg_orders1 _ (PF.keep) vr rs hr hl (kV a) i u 0 ⟨#[]⟩ (kV b) j v 0 ⟨#[]⟩ hx.lt hy.lt (binary_le W) (fun w' h => unbox_n (q.below' h).2.choose_spec.1 x a i u hx) (fun w' h => unbox_n (q.below' h).2.choose_spec.1 y b j v hy) (by rintro e w' ⟨rfl, _⟩; exact ⟨_, _, rfl⟩) (fun w' cp cq wb vb vr' h hc hw0 hw1 hv hw => ?_)
  refine (orders1_g cp cq _ eg_lessEq hc a b (lessEqN a i u b j v) i u j v (fun w2 h2 => numbers_tt w2 hb vb 2 _ _ (by decide) (by decide) (kV a) i u 0 (kV b) j v 0 _ _ (fun k => by rw [h2.cell (p := ⟨vb, k, none⟩) (cell_lt (hv 0))]; exact hv k) a b i u j v (number_n a i u sx) (number_n b j v sy)) (fun w2 h2 => (numLessEq_c a b i u j v hx.inN hy.inN w2).mono (fun e w3 h3 => ⟨h3.1, h3.2.below⟩))).mono ?_
  rintro e w3 ⟨rfl, h3⟩
  exact ⟨rfl, h.trans (h3.mono h.size)⟩
theorem bin_gt (q : Hf W0 W hb H u' K) (x y : Nat) (a b : Bool) (i u j v : Int) (hx : IsNum H x a i u) (hy : IsNum H y b j v) (vr : Value) (rs : List Nat) (hr : WordsAt W vr rs) (hl : rs.length ≤ 999000) : Calls Tryz.prog 10 #[.pointer (some ⟨hb, 0, none⟩), .string ⟨#[62]⟩, .int .u64 (x : Nat), .int .u64 (y : Nat), vr] W (fun e w' => e = .returned (.tuple #[.int .u64 (boolW (lessN b j v a i u)), .int .i64 0]) ∧ Below W.heap.size W w') := by
  have sx := hx.shape
  have sy := hy.shape
  refine Binary_k2 W hb _ x y _ eg_orders1 _ (PS.keep) vr rs hr hl (kV a) i u 0 ⟨#[]⟩ (kV b) j v 0 ⟨#[]⟩ hx.lt hy.lt (binary_gt W) (fun w' h => unbox_n (q.below' h).2.choose_spec.1 x a i u hx) (fun w' h => unbox_n (q.below' h).2.choose_spec.1 y b j v hy) (by rintro e w' ⟨rfl, _⟩; exact ⟨_, _, rfl⟩) (fun w' cp cq wb vb vr' h hc hw0 hw1 hv hw => ?_)
  obtain ⟨cs, hc1, hc2⟩ := hc
  refine (orders1_s cp cq _ cs eg_swapped1 hc1 a b (lessN b j v a i u) i u j v (fun w2 h2 => numbers_tt w2 hb vb 2 _ _ (by decide) (by decide) (kV a) i u 0 (kV b) j v 0 _ _ (fun k => by rw [h2.cell (p := ⟨vb, k, none⟩) (cell_lt (hv 0))]; exact hv k) a b i u j v (number_n a i u sx) (number_n b j v sy)) (fun w2 h2 => swapped1_g w2 cs _ eg_less (cell_keep h2 hc2) a b (lessN b j v a i u) i u j v (fun w => numLess_c b a j v i u hy.inN hx.inN w))).mono ?_
  rintro e w3 ⟨rfl, h3⟩
  exact ⟨rfl, h.trans (h3.mono h.size)⟩
theorem bin_ge (q : Hf W0 W hb H u' K) (x y : Nat) (a b : Bool) (i u j v : Int) (hx : IsNum H x a i u) (hy : IsNum H y b j v) (vr : Value) (rs : List Nat) (hr : WordsAt W vr rs) (hl : rs.length ≤ 999000) : Calls Tryz.prog 10 #[.pointer (some ⟨hb, 0, none⟩), .string ⟨#[62, 61]⟩, .int .u64 (x : Nat), .int .u64 (y : Nat), vr] W (fun e w' => e = .returned (.tuple #[.int .u64 (boolW (lessEqN b j v a i u)), .int .i64 0]) ∧ Below W.heap.size W w') := by
  have sx := hx.shape
  have sy := hy.shape
  refine Binary_k2 W hb _ x y _ eg_orders1 _ (PS.keep) vr rs hr hl (kV a) i u 0 ⟨#[]⟩ (kV b) j v 0 ⟨#[]⟩ hx.lt hy.lt (binary_ge W) (fun w' h => unbox_n (q.below' h).2.choose_spec.1 x a i u hx) (fun w' h => unbox_n (q.below' h).2.choose_spec.1 y b j v hy) (by rintro e w' ⟨rfl, _⟩; exact ⟨_, _, rfl⟩) (fun w' cp cq wb vb vr' h hc hw0 hw1 hv hw => ?_)
  obtain ⟨cs, hc1, hc2⟩ := hc
  refine (orders1_s cp cq _ cs eg_swapped1 hc1 a b (lessEqN b j v a i u) i u j v (fun w2 h2 => numbers_tt w2 hb vb 2 _ _ (by decide) (by decide) (kV a) i u 0 (kV b) j v 0 _ _ (fun k => by rw [h2.cell (p := ⟨vb, k, none⟩) (cell_lt (hv 0))]; exact hv k) a b i u j v (number_n a i u sx) (number_n b j v sy)) (fun w2 h2 => swapped1_g w2 cs _ eg_lessEq (cell_keep h2 hc2) a b (lessEqN b j v a i u) i u j v (fun w => numLessEq_c b a j v i u hy.inN hx.inN w))).mono ?_
  rintro e w3 ⟨rfl, h3⟩
  exact ⟨rfl, h.trans (h3.mono h.size)⟩
theorem bin_eq (q : Hf W0 W hb H u' K) (x y : Nat) (a b : Bool) (i u j v : Int) (hx : IsNum H x a i u) (hy : IsNum H y b j v) (vr : Value) (rs : List Nat) (hr : WordsAt W vr rs) (hl : rs.length ≤ 999000) : Calls Tryz.prog 10 #[.pointer (some ⟨hb, 0, none⟩), .string ⟨#[61, 61]⟩, .int .u64 (x : Nat), .int .u64 (y : Nat), vr] W (fun e w' => e = .returned (.tuple #[.int .u64 (boolW (equalN a i u b j v == true)), .int .i64 0]) ∧ Below W.heap.size W w') := by
  have sx := hx.shape
  have sy := hy.shape
  refine Binary_k W hb _ x y _ eg_equates1 _ vr rs hr hl (kV a) i u 0 ⟨#[]⟩ (kV b) j v 0 ⟨#[]⟩ hx.lt hy.lt (binary_eq W) (fun w' h => unbox_n (q.below' h).2.choose_spec.1 x a i u hx) (fun w' h => unbox_n (q.below' h).2.choose_spec.1 y b j v hy) (by rintro e w' ⟨rfl, _⟩; exact ⟨_, _, rfl⟩) (fun w' cp wb vb vr' h hc hw0 hw1 hv hw => ?_)
  refine (equates1_g cp true (equalN a i u b j v) hc (fun w2 h2 => same_g a b (equalN a i u b j v) i u j v (fun w3 h3 => numbers_tt w3 hb vb 2 _ _ (by decide) (by decide) (kV a) i u 0 (kV b) j v 0 _ _ (fun k => by rw [(h2.trans (h3.mono h2.size)).cell (p := ⟨vb, k, none⟩) (cell_lt (hv 0))]; exact hv k) a b i u j v (number_n a i u sx) (number_n b j v sy)) (fun w => numEqual_c a b i u j v hx.inN hy.inN w))).mono ?_
  rintro e w3 ⟨rfl, h3⟩
  exact ⟨rfl, h.trans (h3.mono h.size)⟩
theorem bin_ne (q : Hf W0 W hb H u' K) (x y : Nat) (a b : Bool) (i u j v : Int) (hx : IsNum H x a i u) (hy : IsNum H y b j v) (vr : Value) (rs : List Nat) (hr : WordsAt W vr rs) (hl : rs.length ≤ 999000) : Calls Tryz.prog 10 #[.pointer (some ⟨hb, 0, none⟩), .string ⟨#[33, 61]⟩, .int .u64 (x : Nat), .int .u64 (y : Nat), vr] W (fun e w' => e = .returned (.tuple #[.int .u64 (boolW (equalN a i u b j v == false)), .int .i64 0]) ∧ Below W.heap.size W w') := by
  have sx := hx.shape
  have sy := hy.shape
  refine Binary_k W hb _ x y _ eg_equates1 _ vr rs hr hl (kV a) i u 0 ⟨#[]⟩ (kV b) j v 0 ⟨#[]⟩ hx.lt hy.lt (binary_ne W) (fun w' h => unbox_n (q.below' h).2.choose_spec.1 x a i u hx) (fun w' h => unbox_n (q.below' h).2.choose_spec.1 y b j v hy) (by rintro e w' ⟨rfl, _⟩; exact ⟨_, _, rfl⟩) (fun w' cp wb vb vr' h hc hw0 hw1 hv hw => ?_)
  refine (equates1_g cp false (equalN a i u b j v) hc (fun w2 h2 => same_g a b (equalN a i u b j v) i u j v (fun w3 h3 => numbers_tt w3 hb vb 2 _ _ (by decide) (by decide) (kV a) i u 0 (kV b) j v 0 _ _ (fun k => by rw [(h2.trans (h3.mono h2.size)).cell (p := ⟨vb, k, none⟩) (cell_lt (hv 0))]; exact hv k) a b i u j v (number_n a i u sx) (number_n b j v sy)) (fun w => numEqual_c a b i u j v hx.inN hy.inN w))).mono ?_
  rintro e w3 ⟨rfl, h3⟩
  exact ⟨rfl, h.trans (h3.mono h.size)⟩
end
end Go.Proofs.YtgmimmdojkoppaaGreatDoor.W.Nu
