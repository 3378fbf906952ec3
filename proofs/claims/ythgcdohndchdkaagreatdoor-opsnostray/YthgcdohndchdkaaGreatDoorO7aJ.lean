import Derived.Test.YthgcdohndchdkaaGreatDoorBase35
import Derived.Test.YthgcdohndchdkaaGreatDoorNumNZJ
/- Package ops: two doubles under whatever operator. -/
namespace Go.Proofs.YthgcdohndchdkaaGreatDoor.W.Nu
open Go.ChangeShapes Go.WideShapes Go.RowKit Go.Shelf
set_option linter.unusedVariables false
theorem eg_sub : ∀ args w, (callFunc 47 args).run Tryz.prog w = .ok (.enter 47 args) w := enters_of Tryz.func47 (by kernel_rfl) rfl
set_option maxRecDepth 100000 in
theorem binary_sub (W : World) : Calls Tryz.prog 27 #[.string ⟨#[45]⟩] W fun e w' => ∃ cp, e = .returned (.func (.func 96) #[] #[.pointer (some ⟨cp, 0, none⟩)]) ∧ w'.cell? ⟨cp, 0, none⟩ = some (.func (.func 47) #[] #[]) ∧ Below W.heap.size W w' := by
  go_enter Tryz.func27, Tryz.ntmps27
  go_wp2_with (go_at_call 46; (with_reducible refine (reckons_c _ _).mono ?_); rintro e w2 ⟨rfl, h⟩)
  go_ret
  exact ⟨_, rfl, h⟩
theorem eg_mul : ∀ args w, (callFunc 48 args).run Tryz.prog w = .ok (.enter 48 args) w := enters_of Tryz.func48 (by kernel_rfl) rfl
set_option maxRecDepth 100000 in
theorem binary_mul (W : World) : Calls Tryz.prog 27 #[.string ⟨#[42]⟩] W fun e w' => ∃ cp, e = .returned (.func (.func 96) #[] #[.pointer (some ⟨cp, 0, none⟩)]) ∧ w'.cell? ⟨cp, 0, none⟩ = some (.func (.func 48) #[] #[]) ∧ Below W.heap.size W w' := by
  go_enter Tryz.func27, Tryz.ntmps27
  go_wp2_with (go_at_call 46; (with_reducible refine (reckons_c _ _).mono ?_); rintro e w2 ⟨rfl, h⟩)
  go_ret
  exact ⟨_, rfl, h⟩
theorem eg_div : ∀ args w, (callFunc 49 args).run Tryz.prog w = .ok (.enter 49 args) w := enters_of Tryz.func49 (by kernel_rfl) rfl
set_option maxRecDepth 100000 in
theorem binary_div (W : World) : Calls Tryz.prog 27 #[.string ⟨#[47]⟩] W fun e w' => ∃ cp, e = .returned (.func (.func 96) #[] #[.pointer (some ⟨cp, 0, none⟩)]) ∧ w'.cell? ⟨cp, 0, none⟩ = some (.func (.func 49) #[] #[]) ∧ Below W.heap.size W w' := by
  go_enter Tryz.func27, Tryz.ntmps27
  go_wp2_with (go_at_call 46; (with_reducible refine (reckons_c _ _).mono ?_); rintro e w2 ⟨rfl, h⟩)
  go_ret
  exact ⟨_, rfl, h⟩
theorem eg_fdiv : ∀ args w, (callFunc 50 args).run Tryz.prog w = .ok (.enter 50 args) w := enters_of Tryz.func50 (by kernel_rfl) rfl
set_option maxRecDepth 100000 in
theorem binary_fdiv (W : World) : Calls Tryz.prog 27 #[.string ⟨#[47, 47]⟩] W fun e w' => ∃ cp, e = .returned (.func (.func 96) #[] #[.pointer (some ⟨cp, 0, none⟩)]) ∧ w'.cell? ⟨cp, 0, none⟩ = some (.func (.func 50) #[] #[]) ∧ Below W.heap.size W w' := by
  go_enter Tryz.func27, Tryz.ntmps27
  go_wp2_with (go_at_call 46; (with_reducible refine (reckons_c _ _).mono ?_); rintro e w2 ⟨rfl, h⟩)
  go_ret
  exact ⟨_, rfl, h⟩
theorem eg_mod : ∀ args w, (callFunc 51 args).run Tryz.prog w = .ok (.enter 51 args) w := enters_of Tryz.func51 (by kernel_rfl) rfl
set_option maxRecDepth 100000 in
theorem binary_mod (W : World) : Calls Tryz.prog 27 #[.string ⟨#[37]⟩] W fun e w' => ∃ cp, e = .returned (.func (.func 96) #[] #[.pointer (some ⟨cp, 0, none⟩)]) ∧ w'.cell? ⟨cp, 0, none⟩ = some (.func (.func 51) #[] #[]) ∧ Below W.heap.size W w' := by
  go_enter Tryz.func27, Tryz.ntmps27
  go_wp2_with (go_at_call 46; (with_reducible refine (reckons_c _ _).mono ?_); rintro e w2 ⟨rfl, h⟩)
  go_ret
  exact ⟨_, rfl, h⟩
set_option maxRecDepth 100000 in
theorem bitwise_shl (W : World) : Calls Tryz.prog 53 #[.string ⟨#[60, 60]⟩] W fun e w' => ∃ cp, e = .returned (.func (.func 173) #[] #[.pointer (some ⟨cp, 0, none⟩)]) ∧ w'.cell? ⟨cp, 0, none⟩ = some (.func (.func 117) #[] #[]) ∧ Below W.heap.size W w' := by
  go_enter Tryz.func53, Tryz.ntmps53
  go_wp2_with (go_at_call 113; (with_reducible refine (joins_c _ _).mono ?_); rintro e w2 ⟨rfl, h⟩)
  go_ret
  exact ⟨_, rfl, h⟩
set_option maxRecDepth 100000 in
theorem binary_shl (W : World) : Calls Tryz.prog 27 #[.string ⟨#[60, 60]⟩] W fun e w' => ∃ cp, e = .returned (.func (.func 173) #[] #[.pointer (some ⟨cp, 0, none⟩)]) ∧ w'.cell? ⟨cp, 0, none⟩ = some (.func (.func 117) #[] #[]) ∧ Below W.heap.size W w' := by
  have hne := fn_neq
  go_enter Tryz.func27, Tryz.ntmps27
  go_wp2_with (go_at_call 53; (with_reducible refine (bitwise_shl _).mono ?_); rintro e w2 ⟨cp, rfl, h⟩)
  go_ret
  exact ⟨_, rfl, h⟩
set_option maxRecDepth 100000 in
theorem bitwise_shr (W : World) : Calls Tryz.prog 53 #[.string ⟨#[62, 62]⟩] W fun e w' => ∃ cp, e = .returned (.func (.func 173) #[] #[.pointer (some ⟨cp, 0, none⟩)]) ∧ w'.cell? ⟨cp, 0, none⟩ = some (.func (.func 118) #[] #[]) ∧ Below W.heap.size W w' := by
  go_enter Tryz.func53, Tryz.ntmps53
  go_wp2_with (go_at_call 113; (with_reducible refine (joins_c _ _).mono ?_); rintro e w2 ⟨rfl, h⟩)
  go_ret
  exact ⟨_, rfl, h⟩
set_option maxRecDepth 100000 in
theorem binary_shr (W : World) : Calls Tryz.prog 27 #[.string ⟨#[62, 62]⟩] W fun e w' => ∃ cp, e = .returned (.func (.func 173) #[] #[.pointer (some ⟨cp, 0, none⟩)]) ∧ w'.cell? ⟨cp, 0, none⟩ = some (.func (.func 118) #[] #[]) ∧ Below W.heap.size W w' := by
  have hne := fn_neq
  go_enter Tryz.func27, Tryz.ntmps27
  go_wp2_with (go_at_call 53; (with_reducible refine (bitwise_shr _).mono ?_); rintro e w2 ⟨cp, rfl, h⟩)
  go_ret
  exact ⟨_, rfl, h⟩
section
variable {W : World} {hb vb : Nat} {vw vr : Value}
set_option maxRecDepth 100000 in
theorem joins1_t (cp : Nat) (u v : Int) (hv : ∀ k, W.cell? ⟨vb, k, none⟩ = #[.int .i64 3, .int .i64 0, .int .u64 u, .string ⟨#[]⟩, .int .u64 0, .int .i64 3, .int .i64 0, .int .u64 v, .string ⟨#[]⟩, .int .u64 0][k]?) :
    Calls Tryz.prog 173 #[.agg #[.pointer (some ⟨hb, 0, none⟩), vw, .slice (some ⟨vb, 0, none⟩) 2 2, vr], .pointer (some ⟨cp, 0, none⟩)] W fun e w' => e = .returned (.tuple #[.int .u64 0, .int .i64 51]) ∧ Below W.heap.size W w' := by
  have hB1 : Below W.heap.size W (W.alloc (.cells #[.pointer (some ⟨hb, 0, none⟩), vw, .slice (some ⟨vb, 0, none⟩) 2 2, vr] 103)) := (Below.refl _ W).alloc (Nat.le_refl _) _
  have f1 := World.cell?_alloc_new W #[.pointer (some ⟨hb, 0, none⟩), vw, .slice (some ⟨vb, 0, none⟩) 2 2, vr] 103
  have vl : vb < W.heap.size := cell_lt (hv 0)
  go_enter Tryz.func173, Tryz.ntmps173
  go_upto_region 1 with fail
  generalize W.alloc (.cells #[.pointer (some ⟨hb, 0, none⟩), vw, .slice (some ⟨vb, 0, none⟩) 2 2, vr] 103) = W1 at *
  have hv1 : ∀ k, W1.cell? ⟨vb, k, none⟩ = #[.int .i64 3, .int .i64 0, .int .u64 u, .string ⟨#[]⟩, .int .u64 0, .int .i64 3, .int .i64 0, .int .u64 v, .string ⟨#[]⟩, .int .u64 0][k]? := fun k => by rw [hB1.cell (p := ⟨vb, k, none⟩) vl]; exact hv k
  have hB2 : Below W1.heap.size W1 (W1.alloc (.cells #[.int .i64 0, .int .i64 1] 3)) := (Below.refl _ W1).alloc (Nat.le_refl _) _
  have e2 := World.cell?_alloc_new W1 #[.int .i64 0, .int .i64 1] 3
  have cA := are2_c (W1.alloc (.cells #[.int .i64 0, .int .i64 1] 3)) hb vb W1.heap.size 2 vw vr 2 3 3 (by decide) (by decide) (e2 0) (e2 1) (cell_keep hB2 (hv1 0)) (cell_keep hB2 (hv1 5))
  rw [show (((3 : Int) == 2) && ((3 : Int) == 2)) = false from by decide] at cA
  have H := hid (hB1.trans (hB2.mono hB1.size))
  clear e2 hv hv1 hB2 vl hB1
  go_wp2_with (go_at_call 93; (with_reducible refine cA.mono ?_); rintro e W2 ⟨rfl, hB3⟩; (replace hB3 := hid hB3); clear cA)
  go_ret2
  exact ⟨rfl, H.out.trans (hB3.out.mono H.out.size)⟩
end
/-- what comes out of two doubles -/
def OKc (w c : Int) : Prop := (c = 0 ∧ 0 ≤ w ∧ w < 18446744073709551616 ∧ (Go.Proofs.YthgcdohndchdkaaGreatDoor.W.cls w = 1 ∨ Go.Proofs.YthgcdohndchdkaaGreatDoor.W.cls w = 4)) ∨ (w = 0 ∧ (c = 1 ∨ c = 51))
def NS (W : World) (e : Ending) (w' : World) : Prop := (∃ w c, e = .returned (.tuple #[.int .u64 w, .int .i64 c]) ∧ OKc w c) ∧ Below W.heap.size W w'
theorem NS.two {W : World} : ∀ e w', NS W e w' → ∃ x y, e = .returned (.tuple #[.int .u64 x, .int .i64 y]) := fun e w' ⟨⟨w, c, h, _⟩, _⟩ => ⟨w, c, h⟩
theorem NS.on {W W1 : World} {e : Ending} {w' : World} (hB : Below W.heap.size W W1) (h : NS W1 e w') : NS W e w' := ⟨h.1, hB.trans (h.2.mono hB.size)⟩
theorem ns_bool {W : World} {b : Bool} {e : Ending} {w' : World} (h : e = .returned (.tuple #[.int .u64 (boolW b), .int .i64 0]) ∧ Below W.heap.size W w') : NS W e w' :=
  ⟨⟨_, _, h.1, .inl ⟨rfl, by cases b <;> decide, by cases b <;> decide, .inr (by cases b <;> decide)⟩⟩, h.2⟩
/-- a double in a word -/
def Dbl (x : Nat) : Prop := Go.Proofs.YthgcdohndchdkaaGreatDoor.W.cls (x : Int) = 1 ∧ x < 18446744073709551616
theorem unbox_d (x : Nat) (h : Dbl x) (hb : Nat) (W : World) : Calls Tryz.prog 18 #[.pointer (some ⟨hb, 0, none⟩), .int .u64 (x : Nat)] W fun e w' => e = .returned (.tuple #[.agg #[.int .i64 3, .int .i64 0, .int .u64 (x : Nat), .string ⟨#[]⟩, .int .u64 0], .int .i64 0]) ∧ Below W.heap.size W w' :=
  unbox_flt (x : Int) (by omega) (by have := h.2; omega) h.1 _ W
theorem box_ns (vr : Value) (hb : Nat) (r : Int) (h : 0 ≤ r ∧ r < 18446744073709551616) (W : World) : Calls Tryz.prog 8 #[.pointer (some ⟨hb, 0, none⟩), .agg #[.int .i64 3, .int .i64 0, .int .u64 r, .string ⟨#[]⟩, .int .u64 0], vr] W (NS W) := by
  refine (box_float _ vr r h.1 h.2 W).mono ?_
  rintro e w' ⟨rfl, hB⟩
  have hbd := fltW_bd r h.1 h.2
  exact ⟨⟨_, _, rfl, .inl ⟨rfl, hbd.1, hbd.2, .inl (fltW_cls r)⟩⟩, hB⟩
section
variable {W : World} {hb : Nat} {x y : Nat} {vr : Value} {rs : List Nat}
theorem res_sub (x y : Nat) : subR false 0 x false 0 y = okD (opI .sub x y) := by unfold subR; rw [if_neg (by simp)]; rfl
theorem ns_sub (hx : Dbl x) (hy : Dbl y) (hr : WordsAt W vr rs) (hl : rs.length ≤ 999000) : Calls Tryz.prog 9 #[.pointer (some ⟨hb, 0, none⟩), .string ⟨#[45]⟩, .int .u64 (x : Nat), .int .u64 (y : Nat), vr] W (NS W) := by
  refine Binary_k W hb _ x y _ eg_reckons1 _ vr rs hr hl 3 0 x 0 ⟨#[]⟩ 3 0 y 0 ⟨#[]⟩ hx.2 hy.2 (binary_sub W) (fun w' h => unbox_d x hx hb w') (fun w' h => unbox_d y hy hb w') NS.two (fun w' cp wb vb vr' h hc hw0 hw1 hv hw => ?_)
  refine reckons1_g cp _ eg_sub hc false false false 0 x 0 y 0 (opI .sub x y) (fun w3 h3 => numbers_tt w3 hb vb 2 _ _ (by decide) (by decide) 3 0 x 0 3 0 y 0 _ _ (fun k => by rw [(h3).cell (p := ⟨vb, k, none⟩) (cell_lt (hv 0))]; exact hv k) false false 0 x 0 y (number_f 0 x 0 _) (number_f 0 y 0 _)) (fun w => ?_) (fun w3 h3 => ?_) NS.two
  · have := numSub_c false false 0 x 0 y (by decide) (by decide) (by decide) (by decide) w
    rw [res_sub] at this
    exact this
  · exact boxNum_f 0 _ (fun w4 h4 => (box_ns vr' hb _ (opI_range _ _ _) w4).mono (fun e w5 h5 => h5.on (h.trans ((h3.trans (h4.mono h3.size)).mono h.size)))) NS.two
theorem res_mul (x y : Nat) : mulR false 0 x false 0 y = okD (opI .mul x y) := by unfold mulR; rw [if_neg (by simp)]; rfl
theorem ns_mul (hx : Dbl x) (hy : Dbl y) (hr : WordsAt W vr rs) (hl : rs.length ≤ 999000) : Calls Tryz.prog 9 #[.pointer (some ⟨hb, 0, none⟩), .string ⟨#[42]⟩, .int .u64 (x : Nat), .int .u64 (y : Nat), vr] W (NS W) := by
  refine Binary_k W hb _ x y _ eg_reckons1 _ vr rs hr hl 3 0 x 0 ⟨#[]⟩ 3 0 y 0 ⟨#[]⟩ hx.2 hy.2 (binary_mul W) (fun w' h => unbox_d x hx hb w') (fun w' h => unbox_d y hy hb w') NS.two (fun w' cp wb vb vr' h hc hw0 hw1 hv hw => ?_)
  refine reckons1_g cp _ eg_mul hc false false false 0 x 0 y 0 (opI .mul x y) (fun w3 h3 => numbers_tt w3 hb vb 2 _ _ (by decide) (by decide) 3 0 x 0 3 0 y 0 _ _ (fun k => by rw [(h3).cell (p := ⟨vb, k, none⟩) (cell_lt (hv 0))]; exact hv k) false false 0 x 0 y (number_f 0 x 0 _) (number_f 0 y 0 _)) (fun w => ?_) (fun w3 h3 => ?_) NS.two
  · have := numMul_c false false 0 x 0 y (by decide) (by decide) (by decide) (by decide) w
    rw [res_mul] at this
    exact this
  · exact boxNum_f 0 _ (fun w4 h4 => (box_ns vr' hb _ (opI_range _ _ _) w4).mono (fun e w5 h5 => h5.on (h.trans ((h3.trans (h4.mono h3.size)).mono h.size)))) NS.two
theorem res_div (x y : Nat) : divR false 0 x false 0 y = okD (opI .quo x y) := rfl
theorem ns_div (hx : Dbl x) (hy : Dbl y) (hr : WordsAt W vr rs) (hl : rs.length ≤ 999000) : Calls Tryz.prog 9 #[.pointer (some ⟨hb, 0, none⟩), .string ⟨#[47]⟩, .int .u64 (x : Nat), .int .u64 (y : Nat), vr] W (NS W) := by
  refine Binary_k W hb _ x y _ eg_reckons1 _ vr rs hr hl 3 0 x 0 ⟨#[]⟩ 3 0 y 0 ⟨#[]⟩ hx.2 hy.2 (binary_div W) (fun w' h => unbox_d x hx hb w') (fun w' h => unbox_d y hy hb w') NS.two (fun w' cp wb vb vr' h hc hw0 hw1 hv hw => ?_)
  refine reckons1_g cp _ eg_div hc false false false 0 x 0 y 0 (opI .quo x y) (fun w3 h3 => numbers_tt w3 hb vb 2 _ _ (by decide) (by decide) 3 0 x 0 3 0 y 0 _ _ (fun k => by rw [(h3).cell (p := ⟨vb, k, none⟩) (cell_lt (hv 0))]; exact hv k) false false 0 x 0 y (number_f 0 x 0 _) (number_f 0 y 0 _)) (fun w => ?_) (fun w3 h3 => ?_) NS.two
  · have := numDiv_c false false 0 x 0 y w
    rw [res_div] at this
    exact this
  · exact boxNum_f 0 _ (fun w4 h4 => (box_ns vr' hb _ (opI_range _ _ _) w4).mono (fun e w5 h5 => h5.on (h.trans ((h3.trans (h4.mono h3.size)).mono h.size)))) NS.two
theorem res_fdiv (x y : Nat) : flR false 0 x false 0 y = okD (floorI (opI .quo x y)) := by unfold flR; rw [if_neg (by simp)]; rfl
theorem ns_fdiv (hx : Dbl x) (hy : Dbl y) (hr : WordsAt W vr rs) (hl : rs.length ≤ 999000) : Calls Tryz.prog 9 #[.pointer (some ⟨hb, 0, none⟩), .string ⟨#[47, 47]⟩, .int .u64 (x : Nat), .int .u64 (y : Nat), vr] W (NS W) := by
  refine Binary_k W hb _ x y _ eg_reckons1 _ vr rs hr hl 3 0 x 0 ⟨#[]⟩ 3 0 y 0 ⟨#[]⟩ hx.2 hy.2 (binary_fdiv W) (fun w' h => unbox_d x hx hb w') (fun w' h => unbox_d y hy hb w') NS.two (fun w' cp wb vb vr' h hc hw0 hw1 hv hw => ?_)
  refine reckons1_g cp _ eg_fdiv hc false false false 0 x 0 y 0 (floorI (opI .quo x y)) (fun w3 h3 => numbers_tt w3 hb vb 2 _ _ (by decide) (by decide) 3 0 x 0 3 0 y 0 _ _ (fun k => by rw [(h3).cell (p := ⟨vb, k, none⟩) (cell_lt (hv 0))]; exact hv k) false false 0 x 0 y (number_f 0 x 0 _) (number_f 0 y 0 _)) (fun w => ?_) (fun w3 h3 => ?_) NS.two
  · have := numFloorDiv_c false false 0 x 0 y (by decide) (by decide) (by decide) (by decide) w
    rw [res_fdiv] at this
    exact this
  · exact boxNum_f 0 _ (fun w4 h4 => (box_ns vr' hb _ (floorI_range _) w4).mono (fun e w5 h5 => h5.on (h.trans ((h3.trans (h4.mono h3.size)).mono h.size)))) NS.two
theorem res_mod (x y : Nat) : mdR false 0 x false 0 y = okD (modD x y) := by unfold mdR; rw [if_neg (by simp)]; rfl
theorem ns_mod (hx : Dbl x) (hy : Dbl y) (hr : WordsAt W vr rs) (hl : rs.length ≤ 999000) : Calls Tryz.prog 9 #[.pointer (some ⟨hb, 0, none⟩), .string ⟨#[37]⟩, .int .u64 (x : Nat), .int .u64 (y : Nat), vr] W (NS W) := by
  refine Binary_k W hb _ x y _ eg_reckons1 _ vr rs hr hl 3 0 x 0 ⟨#[]⟩ 3 0 y 0 ⟨#[]⟩ hx.2 hy.2 (binary_mod W) (fun w' h => unbox_d x hx hb w') (fun w' h => unbox_d y hy hb w') NS.two (fun w' cp wb vb vr' h hc hw0 hw1 hv hw => ?_)
  refine reckons1_g cp _ eg_mod hc false false false 0 x 0 y 0 (modD x y) (fun w3 h3 => numbers_tt w3 hb vb 2 _ _ (by decide) (by decide) 3 0 x 0 3 0 y 0 _ _ (fun k => by rw [(h3).cell (p := ⟨vb, k, none⟩) (cell_lt (hv 0))]; exact hv k) false false 0 x 0 y (number_f 0 x 0 _) (number_f 0 y 0 _)) (fun w => ?_) (fun w3 h3 => ?_) NS.two
  · have := numMod_c false false 0 x 0 y (by decide) (by decide) (by decide) (by decide) w
    rw [res_mod] at this
    exact this
  · exact boxNum_f 0 _ (fun w4 h4 => (box_ns vr' hb _ (opI_range _ _ _) w4).mono (fun e w5 h5 => h5.on (h.trans ((h3.trans (h4.mono h3.size)).mono h.size)))) NS.two
theorem res_add (x y : Nat) : addR false 0 x false 0 y = okD (opI .add x y) := by unfold addR; rw [if_neg (by simp)]; rfl
theorem ns_add (hx : Dbl x) (hy : Dbl y) (hr : WordsAt W vr rs) (hl : rs.length ≤ 999000) : Calls Tryz.prog 9 #[.pointer (some ⟨hb, 0, none⟩), .string ⟨#[43]⟩, .int .u64 (x : Nat), .int .u64 (y : Nat), vr] W (NS W) := by
  refine Binary_g W hb _ x y _ eg_plus vr rs hr hl 3 0 x 0 ⟨#[]⟩ 3 0 y 0 ⟨#[]⟩ hx.2 hy.2 (binary_plus W) (fun w' h => unbox_d x hx hb w') (fun w' h => unbox_d y hy hb w') NS.two (fun w' wb vb vr' h hw0 hw1 hv hw => ?_)
  refine plus_g 3 0 x 0 3 0 y 0 _ _ (by decide) hv (fun w2 cp h2 hc => ?_) NS.two
  refine reckons1_g cp _ eg_add hc false false false 0 x 0 y 0 (opI .add x y) (fun w3 h3 => numbers_tt w3 hb vb 2 _ _ (by decide) (by decide) 3 0 x 0 3 0 y 0 _ _ (fun k => by rw [(h2.trans (h3.mono h2.size)).cell (p := ⟨vb, k, none⟩) (cell_lt (hv 0))]; exact hv k) false false 0 x 0 y (number_f 0 x 0 _) (number_f 0 y 0 _)) (fun w => ?_) (fun w3 h3 => ?_) NS.two
  · have := numAdd_c false false 0 x 0 y (by decide) (by decide) (by decide) (by decide) w
    rw [res_add] at this
    exact this
  · have h23 := h2.trans (h3.mono h2.size)
    exact boxNum_f 0 _ (fun w4 h4 => (box_ns vr' hb _ (opI_range _ _ _) w4).mono (fun e w5 h5 => h5.on (h.trans ((h23.trans (h4.mono h23.size)).mono h.size)))) NS.two
theorem ns_and (hx : Dbl x) (hy : Dbl y) (hr : WordsAt W vr rs) (hl : rs.length ≤ 999000) : Calls Tryz.prog 9 #[.pointer (some ⟨hb, 0, none⟩), .string ⟨#[38]⟩, .int .u64 (x : Nat), .int .u64 (y : Nat), vr] W (NS W) := by
  refine Binary_k W hb _ x y _ eg_joins1 _ vr rs hr hl 3 0 x 0 ⟨#[]⟩ 3 0 y 0 ⟨#[]⟩ hx.2 hy.2 (binary_and W) (fun w' h => unbox_d x hx hb w') (fun w' h => unbox_d y hy hb w') NS.two (fun w' cp wb vb vr' h hc hw0 hw1 hv hw => ?_)
  exact (joins1_t cp x y hv).mono (fun e w3 h3 => ⟨⟨_, _, h3.1, .inr ⟨rfl, .inr rfl⟩⟩, h.trans (h3.2.mono h.size)⟩)
theorem ns_or (hx : Dbl x) (hy : Dbl y) (hr : WordsAt W vr rs) (hl : rs.length ≤ 999000) : Calls Tryz.prog 9 #[.pointer (some ⟨hb, 0, none⟩), .string ⟨#[124]⟩, .int .u64 (x : Nat), .int .u64 (y : Nat), vr] W (NS W) := by
  refine Binary_k W hb _ x y _ eg_joins1 _ vr rs hr hl 3 0 x 0 ⟨#[]⟩ 3 0 y 0 ⟨#[]⟩ hx.2 hy.2 (binary_or W) (fun w' h => unbox_d x hx hb w') (fun w' h => unbox_d y hy hb w') NS.two (fun w' cp wb vb vr' h hc hw0 hw1 hv hw => ?_)
  exact (joins1_t cp x y hv).mono (fun e w3 h3 => ⟨⟨_, _, h3.1, .inr ⟨rfl, .inr rfl⟩⟩, h.trans (h3.2.mono h.size)⟩)
theorem ns_xor (hx : Dbl x) (hy : Dbl y) (hr : WordsAt W vr rs) (hl : rs.length ≤ 999000) : Calls Tryz.prog 9 #[.pointer (some ⟨hb, 0, none⟩), .string ⟨#[94]⟩, .int .u64 (x : Nat), .int .u64 (y : Nat), vr] W (NS W) := by
  refine Binary_k W hb _ x y _ eg_joins1 _ vr rs hr hl 3 0 x 0 ⟨#[]⟩ 3 0 y 0 ⟨#[]⟩ hx.2 hy.2 (binary_xor W) (fun w' h => unbox_d x hx hb w') (fun w' h => unbox_d y hy hb w') NS.two (fun w' cp wb vb vr' h hc hw0 hw1 hv hw => ?_)
  exact (joins1_t cp x y hv).mono (fun e w3 h3 => ⟨⟨_, _, h3.1, .inr ⟨rfl, .inr rfl⟩⟩, h.trans (h3.2.mono h.size)⟩)
theorem ns_shl (hx : Dbl x) (hy : Dbl y) (hr : WordsAt W vr rs) (hl : rs.length ≤ 999000) : Calls Tryz.prog 9 #[.pointer (some ⟨hb, 0, none⟩), .string ⟨#[60, 60]⟩, .int .u64 (x : Nat), .int .u64 (y : Nat), vr] W (NS W) := by
  refine Binary_k W hb _ x y _ eg_joins1 _ vr rs hr hl 3 0 x 0 ⟨#[]⟩ 3 0 y 0 ⟨#[]⟩ hx.2 hy.2 (binary_shl W) (fun w' h => unbox_d x hx hb w') (fun w' h => unbox_d y hy hb w') NS.two (fun w' cp wb vb vr' h hc hw0 hw1 hv hw => ?_)
  exact (joins1_t cp x y hv).mono (fun e w3 h3 => ⟨⟨_, _, h3.1, .inr ⟨rfl, .inr rfl⟩⟩, h.trans (h3.2.mono h.size)⟩)
theorem ns_shr (hx : Dbl x) (hy : Dbl y) (hr : WordsAt W vr rs) (hl : rs.length ≤ 999000) : Calls Tryz.prog 9 #[.pointer (some ⟨hb, 0, none⟩), .string ⟨#[62, 62]⟩, .int .u64 (x : Nat), .int .u64 (y : Nat), vr] W (NS W) := by
  refine Binary_k W hb _ x y _ eg_joins1 _ vr rs hr hl 3 0 x 0 ⟨#[]⟩ 3 0 y 0 ⟨#[]⟩ hx.2 hy.2 (binary_shr W) (fun w' h => unbox_d x hx hb w') (fun w' h => unbox_d y hy hb w') NS.two (fun w' cp wb vb vr' h hc hw0 hw1 hv hw => ?_)
  exact (joins1_t cp x y hv).mono (fun e w3 h3 => ⟨⟨_, _, h3.1, .inr ⟨rfl, .inr rfl⟩⟩, h.trans (h3.2.mono h.size)⟩)
theorem ns_lt (hx : Dbl x) (hy : Dbl y) (hr : WordsAt W vr rs) (hl : rs.length ≤ 999000) : Calls Tryz.prog 9 #[.pointer (some ⟨hb, 0, none⟩), .string ⟨#[60]⟩, .int .u64 (x : Nat), .int .u64 (y : Nat), vr] W (NS W) := by
  have ix : inN 0 x := ⟨by decide, by omega, by have := hx.2; omega⟩
  have iy : inN 0 y := ⟨by decide, by omega, by have := hy.2; omega⟩
  refine Binary_k2 W hb _ x y _ eg_orders1 _ (PF.keep) vr rs hr hl 3 0 x 0 ⟨#[]⟩ 3 0 y 0 ⟨#[]⟩ hx.2 hy.2 (binary_lt W) (fun w' h => unbox_d x hx hb w') (fun w' h => unbox_d y hy hb w') NS.two (fun w' cp cq wb vb vr' h hc hw0 hw1 hv hw => ?_)
  exact (orders1_g cp cq _ eg_less hc false false (lessN false 0 x false 0 y) 0 x 0 y (fun w3 h3 => numbers_tt w3 hb vb 2 _ _ (by decide) (by decide) 3 0 x 0 3 0 y 0 _ _ (fun k => by rw [(h3).cell (p := ⟨vb, k, none⟩) (cell_lt (hv 0))]; exact hv k) false false 0 x 0 y (number_f 0 x 0 _) (number_f 0 y 0 _)) (fun w2 h2 => (numLess_c false false 0 x 0 y ix iy w2).mono (fun e w3 h3 => ⟨h3.1, h3.2.below⟩))).mono (fun e w3 h3 => (ns_bool h3).on h)
theorem ns_le (hx : Dbl x) (hy : Dbl y) (hr : WordsAt W vr rs) (hl : rs.length ≤ 999000) : Calls Tryz.prog 9 #[.pointer (some ⟨hb, 0, none⟩), .string ⟨#[60, 61]⟩, .int .u64 (x : Nat), .int .u64 (y : Nat), vr] W (NS W) := by
  have ix : inN 0 x := ⟨by decide, by omega, by have := hx.2; omega⟩
  have iy : inN 0 y := ⟨by decide, by omega, by have := hy.2; omega⟩
  refine Binary_k2 W hb _ x y _ eg_orders1 _ (PF.keep) vr rs hr hl 3 0 x 0 ⟨#[]⟩ 3 0 y 0 ⟨#[]⟩ hx.2 hy.2 (binary_le W) (fun w' h => unbox_d x hx hb w') (fun w' h => unbox_d y hy hb w') NS.two (fun w' cp cq wb vb vr' h hc hw0 hw1 hv hw => ?_)
  exact (orders1_g cp cq _ eg_lessEq hc false false (lessEqN false 0 x false 0 y) 0 x 0 y (fun w3 h3 => numbers_tt w3 hb vb 2 _ _ (by decide) (by decide) 3 0 x 0 3 0 y 0 _ _ (fun k => by rw [(h3).cell (p := ⟨vb, k, none⟩) (cell_lt (hv 0))]; exact hv k) false false 0 x 0 y (number_f 0 x 0 _) (number_f 0 y 0 _)) (fun w2 h2 => (numLessEq_c false false 0 x 0 y ix iy w2).mono (fun e w3 h3 => ⟨h3.1, h3.2.below⟩))).mono (fun e w3 h3 => (ns_bool h3).on h)
theorem ns_gt (hx : Dbl x) (hy : Dbl y) (hr : WordsAt W vr rs) (hl : rs.length ≤ 999000) : Calls Tryz.prog 9 #[.pointer (some ⟨hb, 0, none⟩), .string ⟨#[62]⟩, .int .u64 (x : Nat), .int .u64 (y : Nat), vr] W (NS W) := by
  have ix : inN 0 x := ⟨by decide, by omega, by have := hx.2; omega⟩
  have iy : inN 0 y := ⟨by decide, by omega, by have := hy.2; omega⟩
  refine Binary_k2 W hb _ x y _ eg_orders1 _ (PS.keep) vr rs hr hl 3 0 x 0 ⟨#[]⟩ 3 0 y 0 ⟨#[]⟩ hx.2 hy.2 (binary_gt W) (fun w' h => unbox_d x hx hb w') (fun w' h => unbox_d y hy hb w') NS.two (fun w' cp cq wb vb vr' h hc hw0 hw1 hv hw => ?_)
  obtain ⟨cs, hc1, hc2⟩ := hc
  exact (orders1_s cp cq _ cs eg_swapped1 hc1 false false (lessN false 0 y false 0 x) 0 x 0 y (fun w3 h3 => numbers_tt w3 hb vb 2 _ _ (by decide) (by decide) 3 0 x 0 3 0 y 0 _ _ (fun k => by rw [(h3).cell (p := ⟨vb, k, none⟩) (cell_lt (hv 0))]; exact hv k) false false 0 x 0 y (number_f 0 x 0 _) (number_f 0 y 0 _)) (fun w2 h2 => swapped1_g w2 cs _ eg_less (cell_keep h2 hc2) false false (lessN false 0 y false 0 x) 0 x 0 y (fun w => numLess_c false false 0 y 0 x iy ix w))).mono (fun e w3 h3 => (ns_bool h3).on h)
theorem ns_ge (hx : Dbl x) (hy : Dbl y) (hr : WordsAt W vr rs) (hl : rs.length ≤ 999000) : Calls Tryz.prog 9 #[.pointer (some ⟨hb, 0, none⟩), .string ⟨#[62, 61]⟩, .int .u64 (x : Nat), .int .u64 (y : Nat), vr] W (NS W) := by
  have ix : inN 0 x := ⟨by decide, by omega, by have := hx.2; omega⟩
  have iy : inN 0 y := ⟨by decide, by omega, by have := hy.2; omega⟩
  refine Binary_k2 W hb _ x y _ eg_orders1 _ (PS.keep) vr rs hr hl 3 0 x 0 ⟨#[]⟩ 3 0 y 0 ⟨#[]⟩ hx.2 hy.2 (binary_ge W) (fun w' h => unbox_d x hx hb w') (fun w' h => unbox_d y hy hb w') NS.two (fun w' cp cq wb vb vr' h hc hw0 hw1 hv hw => ?_)
  obtain ⟨cs, hc1, hc2⟩ := hc
  exact (orders1_s cp cq _ cs eg_swapped1 hc1 false false (lessEqN false 0 y false 0 x) 0 x 0 y (fun w3 h3 => numbers_tt w3 hb vb 2 _ _ (by decide) (by decide) 3 0 x 0 3 0 y 0 _ _ (fun k => by rw [(h3).cell (p := ⟨vb, k, none⟩) (cell_lt (hv 0))]; exact hv k) false false 0 x 0 y (number_f 0 x 0 _) (number_f 0 y 0 _)) (fun w2 h2 => swapped1_g w2 cs _ eg_lessEq (cell_keep h2 hc2) false false (lessEqN false 0 y false 0 x) 0 x 0 y (fun w => numLessEq_c false false 0 y 0 x iy ix w))).mono (fun e w3 h3 => (ns_bool h3).on h)
theorem ns_eq (hx : Dbl x) (hy : Dbl y) (hr : WordsAt W vr rs) (hl : rs.length ≤ 999000) : Calls Tryz.prog 9 #[.pointer (some ⟨hb, 0, none⟩), .string ⟨#[61, 61]⟩, .int .u64 (x : Nat), .int .u64 (y : Nat), vr] W (NS W) := by
  have ix : inN 0 x := ⟨by decide, by omega, by have := hx.2; omega⟩
  have iy : inN 0 y := ⟨by decide, by omega, by have := hy.2; omega⟩
  refine Binary_k W hb _ x y _ eg_equates1 _ vr rs hr hl 3 0 x 0 ⟨#[]⟩ 3 0 y 0 ⟨#[]⟩ hx.2 hy.2 (binary_eq W) (fun w' h => unbox_d x hx hb w') (fun w' h => unbox_d y hy hb w') NS.two (fun w' cp wb vb vr' h hc hw0 hw1 hv hw => ?_)
  exact (equates1_g cp true (equalN false 0 x false 0 y) hc (fun w2 h2 => same_g false false (equalN false 0 x false 0 y) 0 x 0 y (fun w3 h3 => numbers_tt w3 hb vb 2 _ _ (by decide) (by decide) 3 0 x 0 3 0 y 0 _ _ (fun k => by rw [(h2.trans (h3.mono h2.size)).cell (p := ⟨vb, k, none⟩) (cell_lt (hv 0))]; exact hv k) false false 0 x 0 y (number_f 0 x 0 _) (number_f 0 y 0 _)) (fun w => numEqual_c false false 0 x 0 y ix iy w))).mono (fun e w3 h3 => (ns_bool h3).on h)
theorem ns_ne (hx : Dbl x) (hy : Dbl y) (hr : WordsAt W vr rs) (hl : rs.length ≤ 999000) : Calls Tryz.prog 9 #[.pointer (some ⟨hb, 0, none⟩), .string ⟨#[33, 61]⟩, .int .u64 (x : Nat), .int .u64 (y : Nat), vr] W (NS W) := by
  have ix : inN 0 x := ⟨by decide, by omega, by have := hx.2; omega⟩
  have iy : inN 0 y := ⟨by decide, by omega, by have := hy.2; omega⟩
  refine Binary_k W hb _ x y _ eg_equates1 _ vr rs hr hl 3 0 x 0 ⟨#[]⟩ 3 0 y 0 ⟨#[]⟩ hx.2 hy.2 (binary_ne W) (fun w' h => unbox_d x hx hb w') (fun w' h => unbox_d y hy hb w') NS.two (fun w' cp wb vb vr' h hc hw0 hw1 hv hw => ?_)
  exact (equates1_g cp false (equalN false 0 x false 0 y) hc (fun w2 h2 => same_g false false (equalN false 0 x false 0 y) 0 x 0 y (fun w3 h3 => numbers_tt w3 hb vb 2 _ _ (by decide) (by decide) 3 0 x 0 3 0 y 0 _ _ (fun k => by rw [(h2.trans (h3.mono h2.size)).cell (p := ⟨vb, k, none⟩) (cell_lt (hv 0))]; exact hv k) false false 0 x 0 y (number_f 0 x 0 _) (number_f 0 y 0 _)) (fun w => numEqual_c false false 0 x 0 y ix iy w))).mono (fun e w3 h3 => (ns_bool h3).on h)
end
end Go.Proofs.YthgcdohndchdkaaGreatDoor.W.Nu
