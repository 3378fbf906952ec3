import Derived.Test.YtgmimmdojkoppaaGreatDoorBase19
import Derived.Test.YtgmimmdojkoppaaGreatDoorBase16
import Derived.Lib.ConvBytes
import Derived.Laws.Strings
import Derived.Test.YtgmimmdojkoppaaGreatDoorBase12
import Derived.Test.YtgmimmdojkoppaaGreatDoorBase0
/- Package heap: Put, of a number and of a row. -/
namespace Go.Proofs.YtgmimmdojkoppaaGreatDoor.W
open Go.ChangeShapes Go.WideShapes Go.RowKit Go.Shelf
set_option linter.unusedVariables false
section
variable {W W' : World} {hb sb : Nat} {vc : Value} {T S : Nat → Prop} {H : List (Option Hc)} {u h : Nat}
theorem words_nil (W : World) (o : Option Addr) (cap : Nat) : WordsAt W (.slice o 0 cap) [] := ⟨o, cap, rfl, by simp, by simp, fun i hi => by simp at hi⟩
theorem HSt.lay (g : HSt W S hb H u) : ∃ sb vc T, HLay W hb sb vc T H u (sumH H) := by
  obtain ⟨sb, vc, T, g1, _⟩ := g
  exact ⟨sb, vc, T, g1⟩
theorem put_num (g : HSt W S hb H u) (hS : ∀ k, S k → k < W.heap.size) (i : Int) (h0 : -9223372036854775808 ≤ i) (h1 : i < 9223372036854775808) (ob ow : Option Addr) (bc wc : Nat) (vr : Value) (rs : List Nat) (hr : WordsAt W vr rs) :
    Calls Tryz.prog 63 #[.pointer (some ⟨hb, 0, none⟩), .agg #[.int .i64 2, .bool false, .int .i64 i, .string ByteArray.empty, .slice ob 0 bc, .slice ow 0 wc, .int .u64 0, .int .i64 0, .int .i64 0], vr] W (PutPost W S hb (roomH H u (.num i) rs) u (.num i)) := by
  obtain ⟨sb, vc, T, g1⟩ := g.lay
  refine hput_c g hS (.num i) ⟨h0, h1⟩ i ByteArray.empty ob ow 0 bc 0 wc (by decide) (by decide) (by decide) ?_ (words_nil W ow wc) (show 0 < _ by decide) ?_ ?_ vr rs hr
  · show sizeV 2 false 0 0 0 = (le8 _).length
    rw [le8_len]; decide
  · intro w hB
    exact right_num (g1.below hB) i ob ow bc wc
  · intro sb h W' T' vc' H' id hl hi hT hU
    exact save_num hl id i 0 hi h0 h1 ob ow bc wc
end
end Go.Proofs.YtgmimmdojkoppaaGreatDoor.W
/- Package heap: save and Put, of a string. -/
namespace Go.Proofs.YtgmimmdojkoppaaGreatDoor.W
open Go.ChangeShapes Go.WideShapes Go.RowKit Go.Shelf
set_option linter.unusedVariables false
section
variable {W W' : World} {hb sb : Nat} {vc : Value} {T : Nat → Prop} {H : List (Option Hc)} {u h : Nat}
theorem mkc_text (n : Nat) (h : n ≤ 8388608) : Mkc Hc.text n := ⟨fun b => rfl, fun b b' => rfl, fun b hb hl => ⟨hb, by omega⟩⟩
theorem save_text (g : HLay W hb sb vc T H u h) (id : Nat) (t : ByteArray) (hc : H[id]? = some (some (.text (List.replicate t.size 0)))) (hl : t.size ≤ 8388608) (ob ow : Option Addr) (bc wc : Nat) :
    Calls Tryz.prog 182 #[.pointer (some ⟨hb, 0, none⟩), .int .i64 id, .agg #[.int .i64 4, .bool false, .int .i64 0, .string t, .slice ob 0 bc, .slice ow 0 wc, .int .u64 0, .int .i64 0, .int .i64 0]] W fun e w' => e = .returned (.tuple #[]) ∧ Upd T W w' ∧ HLay w' hb sb vc T (H.set id (some (.text (t.data.toList.map UInt8.toNat)))) u h := by
  have hBa : Below W.heap.size W (W.alloc (.cells #[.int .i64 4, .bool false, .int .i64 0, .string t, .slice ob 0 bc, .slice ow 0 wc, .int .u64 0, .int .i64 0, .int .i64 0] 99)) := (Below.refl _ W).alloc (Nat.le_refl _) _
  have ga := g.below hBa
  have cs : ∀ w, Calls Tryz.prog 170 #[.int .i64 4, .bool false] w fun e w' => e = .returned (.int .i64 2) ∧ w' = w := fun w => shape_c 4 false w
  go_enter Tryz.func182, Tryz.ntmps182
  go_upto_region 5 with (go_at_call 170; (with_reducible refine (cs _).mono ?_); rintro e w' ⟨rfl, hw⟩; (have hw' := hw.symm); subst hw'; clear hw)
  have c3 := World.cell?_alloc_new W #[.int .i64 4, .bool false, .int .i64 0, .string t, .slice ob 0 bc, .slice ow 0 wc, .int .u64 0, .int .i64 0, .int .i64 0] 99 3
  simp only [List.getElem?_toArray, List.getElem?_cons_succ, List.getElem?_cons_zero] at c3
  have hsa : (W.alloc (.cells #[.int .i64 4, .bool false, .int .i64 0, .string t, .slice ob 0 bc, .slice ow 0 wc, .int .u64 0, .int .i64 0, .int .i64 0] 99)).heap.size = W.heap.size + 1 := World.size_alloc ..
  generalize W.alloc (.cells #[.int .i64 4, .bool false, .int .i64 0, .string t, .slice ob 0 bc, .slice ow 0 wc, .int .u64 0, .int .i64 0, .int .i64 0] 99) = Wa at *
  have hcv : (convert 9 66 (.string t)).run Tryz.prog Wa = .ok (.slice (some ⟨Wa.heap.size, 0, none⟩) t.size (grownCap Wa t.size 0 5)) (Lib.bytesWorld Wa 5 t) := Lib.run_convert_string_bytes Wa _ _ _ t Tryz.underlying9 Tryz.underlying66 Tryz.underlying5
  have hBb : Below Wa.heap.size Wa (Lib.bytesWorld Wa 5 t) := ⟨rfl, rfl, rfl, by rw [Lib.bytesWorld_size]; omega, fun k hk => Lib.bytesWorld_at_old Wa _ t k hk⟩
  have hsb := Lib.bytesWorld_size Wa 5 t
  have hbl : (t.data.toList.map UInt8.toNat).length = t.size := by rw [List.length_map]; rfl
  have hrow : ByteRow (Lib.bytesWorld Wa 5 t) (some ⟨Wa.heap.size, 0, none⟩) (t.data.toList.map UInt8.toNat) := by
    refine .inr ⟨_, _, rfl, fun i hi => ?_⟩
    rw [Nat.zero_add, Lib.bytesWorld_cell Wa _ t i (by omega)]
    have hi2 : i < t.data.size := by simpa using hi
    rw [List.getElem_map]
    simp
    rw [Array.getElem?_eq_getElem hi2]
    rfl
  have hcp : t.size ≤ grownCap Wa t.size 0 5 := grownCap_ge Wa t.size 0 _
  have cb := saveBytes_c (ga.below hBb) Hc.text (t.data.toList.map UInt8.toNat) (by rw [hbl]; exact mkc_text _ hl) (fun x hx => by obtain ⟨y, _, rfl⟩ := List.mem_map.1 hx; exact y.toNat_lt) (by omega) id (by rw [hbl]; exact hc) (some ⟨Wa.heap.size, 0, none⟩) (grownCap Wa t.size 0 5) (by omega) hrow (fun x e => by cases e; exact ⟨fun e2 => by have h9 := g.tlt Wa.heap.size e2; omega, by show Wa.heap.size < _; omega⟩)
  rw [hbl] at cb
  have fin : Hid (∀ w2, Upd T (Lib.bytesWorld Wa 5 t) w2 → Upd T W w2) := by
    show ∀ w2, _
    intro w2 hU
    exact ((Upd.of_below hBa).trans' (Upd.of_below hBb)).trans' hU
  generalize grownCap Wa t.size 0 5 = cp at *
  generalize Lib.bytesWorld Wa 5 t = Wb at *
  clear hrow hBb hsb ga g hBa hsa
  go_wp2_with (go_at_call 224; (with_reducible refine cb.mono ?_); rintro e w2 ⟨rfl, hU2, hL2⟩; clear cb)
  go_end0
  exact ⟨rfl, fin.out _ hU2, hL2⟩
/-- the bytes of a string -/
def strB (t : ByteArray) : List Nat := t.data.toList.map UInt8.toNat
theorem strB_len (t : ByteArray) : (strB t).length = t.size := by unfold strB; rw [List.length_map]; rfl
theorem strB_ok (t : ByteArray) (h : t.size ≤ 8388608) : (Hc.text (strB t)).ok := ⟨fun x hx => by obtain ⟨y, _, rfl⟩ := List.mem_map.1 hx; exact y.toNat_lt, by rw [strB_len]; exact h⟩
theorem text_need (t : ByteArray) : (Hc.text (strB t)).need = 1 + (t.size + 7) / 8 := by
  unfold Hc.need
  rw [show (Hc.text (strB t)).bytes.length = t.size from strB_len t]
theorem put_text {S : Nat → Prop} (g : HSt W S hb H u) (hS : ∀ k, S k → k < W.heap.size) (t : ByteArray) (hl : t.size ≤ 8388608) (ob ow : Option Addr) (bc wc : Nat) (vr : Value) (rs : List Nat) (hr : WordsAt W vr rs) :
    Calls Tryz.prog 63 #[.pointer (some ⟨hb, 0, none⟩), .agg #[.int .i64 4, .bool false, .int .i64 0, .string t, .slice ob 0 bc, .slice ow 0 wc, .int .u64 0, .int .i64 0, .int .i64 0], vr] W (PutPost W S hb (roomH H u (.text (strB t)) rs) u (.text (strB t))) := by
  refine hput_c g hS (.text (strB t)) (strB_ok t hl) 0 t ob ow 0 bc 0 wc hl (by decide) (by decide) ?_ (words_nil W ow wc) (show 0 < _ by decide) ?_ ?_ vr rs hr
  · show sizeV 4 false t.size 0 0 = (strB t).length
    rw [strB_len]; rfl
  · intro w hB
    exact right_text t ob ow bc wc hl hb w
  · intro sb h W' T' vc' H' id hl' hi hT hU
    have e : (Hc.text (strB t)).zero = .text (List.replicate t.size 0) := by show Hc.text (List.replicate (strB t).length 0) = _; rw [strB_len]
    rw [e] at hi
    exact save_text hl' id t hi hl ob ow bc wc
end
end Go.Proofs.YtgmimmdojkoppaaGreatDoor.W
/- casketlaw7's plain; plain values. -/
namespace Go.Proofs.YtgmimmdojkoppaaGreatDoor.W
open Go.ChangeShapes Go.WideShapes Go.RowKit Go.Shelf
set_option linter.unusedVariables false
/-- a right value that is no thing -/
def PV (kd i bi re : Int) (t : ByteArray) : Prop := (kd = 0 ∧ i = 0 ∧ bi = 0 ∧ t = ⟨#[]⟩ ∧ re = 0) ∨ (kd = 1 ∧ (i = 0 ∨ i = 1) ∧ bi = 0 ∧ t = ⟨#[]⟩ ∧ re = 0) ∨ (kd = 2 ∧ bi = 0 ∧ t = ⟨#[]⟩ ∧ re = 0) ∨ (kd = 3 ∧ i = 0 ∧ t = ⟨#[]⟩ ∧ re = 0) ∨ (kd = 4 ∧ i = 0 ∧ bi = 0 ∧ re = 0)
end Go.Proofs.YtgmimmdojkoppaaGreatDoor.W
/- Contracts of package word's FromText and of the statements' awake. -/
namespace Go.Proofs.YtgmimmdojkoppaaGreatDoor.W
open Go.ChangeShapes Go.WideShapes Go.RowKit

theorem take_snoc (s : ByteArray) (k : Nat) (h : k < s.size) : s.data.toList.take (k + 1) = s.data.toList.take k ++ [s[k]] := by
  rw [List.take_succ_eq_append_getElem (by simpa using h)]; rfl
theorem pow8 (k : Nat) : 2 ^ (8 * k) = 256 ^ k := by rw [Nat.pow_mul]
theorem pow_lt5 (k : Nat) (h : k ≤ 5) : 256 ^ k ≤ 1099511627776 := by
  have := Nat.pow_le_pow_right (n := 256) (by decide) h
  have e : 256 ^ 5 = 1099511627776 := by decide
  omega
theorem or_byte (z k b e : Nat) (hz : z ≤ 5) (hk : k < 5) (he : e < 256 ^ k) (hb : b < 256) :
    bits .or .u64 ((z : Int) * 1099511627776 + (e : Int)) (IntKind.u64.wrap (IntKind.u64.wrap (b : Int) * 2 ^ (8 * k))) = (z : Int) * 1099511627776 + ((e + b * 256 ^ k : Nat) : Int) := by
  have e1 : IntKind.u64.wrap (b : Int) = b := by rw [IntKind.wrap_u64]; omega
  have hp := pow_lt5 (k + 1) (by omega)
  rw [Nat.pow_succ] at hp
  have hbk : b * 256 ^ k ≤ 255 * 256 ^ k := Nat.mul_le_mul_right _ (by omega)
  have e2 : (b : Int) * 2 ^ (8 * k) = ((b * 256 ^ k : Nat) : Int) := by rw [← pow8]; simp
  have e3 : IntKind.u64.wrap ((b * 256 ^ k : Nat) : Int) = ((b * 256 ^ k : Nat) : Int) := by rw [IntKind.wrap_u64]; exact Int.emod_eq_of_lt (Int.natCast_nonneg _) (by omega)
  have e4 : (z : Int) * 1099511627776 + (e : Int) = ((z * 1099511627776 + e : Nat) : Int) := by omega
  rw [e1, e2, e3, e4, u64_or_nat _ _ (by omega) (by omega)]
  have j1 : z * 1099511627776 + e = z * 1099511627776 ||| e := (nat_join 40 _ _ (by omega) (by omega)).symm
  have j2 : e ||| b * 256 ^ k = b * 256 ^ k + e := by
    rw [Nat.or_comm, ← pow8]
    exact nat_join (8 * k) _ _ (Nat.mul_mod_left _ _) (by rw [pow8]; exact he)
  rw [j1, Nat.or_assoc, j2, nat_join 40 _ _ (by omega) (by omega)]
  omega
theorem enc_step (s : ByteArray) (k : Nat) (hs : s.size ≤ 5) (h : k < s.size) :
    bits .or .u64 ((s.size : Int) * 1099511627776 + (encN (s.data.toList.take k) : Int)) (IntKind.u64.wrap (IntKind.u64.wrap (s[k].toNat : Int) * 2 ^ (8 * k))) = (s.size : Int) * 1099511627776 + (encN (s.data.toList.take (k + 1)) : Int) := by
  have hl : (s.data.toList.take k).length = k := by
    have : k < s.data.toList.length := by simpa using h
    rw [List.length_take]; omega
  have he := encN_lt (s.data.toList.take k)
  rw [take_snoc s k h, encN_snoc]
  rw [hl] at he ⊢
  exact or_byte s.size k s[k].toNat _ hs (by omega) he s[k].toNat_lt
theorem enc_all (s : ByteArray) (k : Nat) (h : ¬ k < s.size) : s.data.toList.take k = s.data.toList := List.take_of_length_le (by simp; omega)
theorem enc_lt (s : ByteArray) (hs : s.size ≤ 5) : (s.size : Int) * 1099511627776 + (encN s.data.toList : Int) < 281474976710656 := by
  have he := encN_lt s.data.toList
  have hl : s.data.toList.length = s.size := by simp
  rw [hl] at he
  have := pow_lt5 s.size hs
  omega
set_option maxHeartbeats 400000 in
theorem fromText_c (s : ByteArray) (hs : s.size ≤ maxLen) (w : World) :
    Calls Tryz.prog 65 #[.string s] w fun e w' => e = .returned (.tuple #[.int .u64 (txtW s), .bool (decide (s.size ≤ 5))]) ∧ w' = w := by
  unfold maxLen at hs
  by_cases c : s.size ≤ 5
  · have H := hid (show txtW s = 18445055223849287680 + s.size * 1099511627776 + encN s.data.toList by simp [txtW, c])
    go_enter Tryz.func65, Tryz.ntmps65
    go_wp2
    go_loop [4, 15] (fun l i => ∃ k : Nat, k ≤ s.size ∧ i = .int .i64 k ∧ l = .int .u64 (s.size * 1099511627776 + encN (s.data.toList.take k))) (fun _ i => s.size - (intOf i).toNat)
    case atStart => exact ⟨0, Nat.zero_le _, rfl, int_eq (by simp [encN])⟩
    case round =>
      obtain ⟨k, hk, rfl, rfl⟩ := hrel
      by_cases hlt : k < s.size
      · go_wp2
        go_round
        case rel => exact ⟨k + 1, hlt, by go_num, int_eq (enc_step s k c hlt)⟩
        case measure => simp [intOf]; omega
      · have hb := enc_lt s c
        have he := enc_all s k hlt
        rw [he]
        clear he
        go_wp2_with (go_at_call 61; refine (join_c _ _ (by omega) (by omega) (by omega) (by omega) _).mono ?_; rintro e w' ⟨rfl, rfl⟩)
        go_ret2
        exact ⟨ret_ib (by rw [H.out]; omega) (by simpa using c), rfl⟩
  · have H := hid (show txtW s = 0 by simp [txtW, c])
    go_enter Tryz.func65, Tryz.ntmps65
    go_wp2
    go_ret2
    exact ⟨ret_ib H.out.symm (by simpa using c), rfl⟩
end Go.Proofs.YtgmimmdojkoppaaGreatDoor.W
/- What each class says of a pattern, as numbers. -/
namespace Go.Proofs.YtgmimmdojkoppaaGreatDoor.W

theorem cls_is5 (n : Int) (h : cls n = 5) : 18445055223849287680 ≤ n ∧ n < 18445336698825998336 ∧ txtOk (n % 281474976710656) = true := by
  unfold cls at h
  (repeat' split at h) <;> first | (exfalso; revert h; decide) | exact ⟨by omega, by omega, by assumption⟩
end Go.Proofs.YtgmimmdojkoppaaGreatDoor.W
/- Plain facts on what is put into a word and comes out of it: no Go in sight. -/
namespace Go.Proofs.YtgmimmdojkoppaaGreatDoor.W

theorem cls_mk2 (n : Int) (a : 18444773748872577024 ≤ n) (b : n < 18445055223849287680) : cls n = 2 := cls_t1 n (by omega) (by omega) (by omega)
theorem intW_bd (i : Int) (h : smallB i = true) : 18444773748872577024 ≤ intW i ∧ intW i < 18445055223849287680 := by
  simp only [intW, h, if_true]; omega
theorem intW_cls (i : Int) (h : smallB i = true) : cls (intW i) = 2 := by
  have := intW_bd i h
  exact cls_mk2 _ this.1 this.2
theorem toInt_intW (i : Int) (h : smallB i = true) : toInt (intW i) = i := by
  have hc := intW_cls i h
  simp only [toInt, hc, if_true]
  have hs := h
  simp only [smallB, decide_eq_true_eq] at hs
  simp only [intW, h, if_true]
  split <;> omega
theorem fltW_bd (n : Int) (h0 : 0 ≤ n) (h1 : n < 18446744073709551616) : 0 ≤ fltW n ∧ fltW n < 18446744073709551616 := by
  unfold fltW; split <;> omega
theorem fltW_cls (n : Int) : cls (fltW n) = 1 := by
  unfold fltW
  split
  · exact cls_canon
  · rename_i h
    exact cls_dbl n (by simpa using h)
theorem txtW_rest (s : ByteArray) (h : s.size ≤ 5) : txtW s % 281474976710656 / 1099511627776 = s.size ∧ txtW s % 1099511627776 = encN s.data.toList := by
  have he := encN_lt s.data.toList
  have hl : s.data.toList.length = s.size := by simp
  rw [hl] at he
  have := pow_lt5 s.size h
  simp only [txtW, if_pos h]
  omega
theorem txtW_cls (s : ByteArray) (h : s.size ≤ 5) : cls (txtW s) = 5 := by
  have he := encN_lt s.data.toList
  have hl : s.data.toList.length = s.size := by simp
  rw [hl] at he
  have hp := pow_lt5 s.size h
  obtain ⟨r1, r2⟩ := txtW_rest s h
  have hb : 18445055223849287680 ≤ txtW s ∧ txtW s < 18445336698825998336 := by
    have := enc_lt s h
    simp only [txtW, if_pos h]; omega
  rw [cls_t2 (txtW s) (by omega) (by omega) (by omega)]
  unfold textCls
  rw [if_pos]
  simp only [txtOk, decide_eq_true_eq]
  have e : txtW s % 281474976710656 % 1099511627776 = txtW s % 1099511627776 := by omega
  rw [r1, e, r2]
  refine ⟨by omega, ?_⟩
  have e8 : (8 * (s.size : Int)).toNat = 8 * s.size := by omega
  rw [e8]
  have e2 : (2 : Int) ^ (8 * s.size) = ((256 ^ s.size : Nat) : Int) := by rw [← pow8]; simp
  rw [e2]
  omega
theorem toTxt_txtW (s : ByteArray) (h : s.size ≤ 5) : toTxt (txtW s) = s := by
  obtain ⟨r1, r2⟩ := txtW_rest s h
  simp only [toTxt, txtW_cls s h, if_true]
  rw [r1, r2, Int.toNat_natCast, Int.toNat_natCast]
  have hl : s.data.toList.length = s.size := by simp
  rw [← hl, decN_encN]
end Go.Proofs.YtgmimmdojkoppaaGreatDoor.W
/- Chains of rows, in plain words. -/
namespace Go.Proofs.YtgmimmdojkoppaaGreatDoor.W
open Go.ChangeShapes Go.WideShapes Go.RowKit Go.Shelf
set_option linter.unusedVariables false
/-- the word of handle i -/
def hw (i : Nat) : Nat := 18445336698825998336 + i
theorem cls_hw (i : Nat) (h : i < 281474976710656) : cls ((hw i : Nat) : Int) = 6 := by
  unfold hw
  exact cls_t3 _ (by omega) (by omega) (by omega)
theorem hw_mod (i : Nat) (h : i < 281474976710656) : hw i % 281474976710656 = i := by unfold hw; omega
theorem hw_lt (i : Nat) (h : i < 281474976710656) : hw i < 18446744073709551616 := by unfold hw; omega
theorem hit_hw {H : List (Option Hc)} {i : Nat} {c : Hc} (hi : i < 281474976710656) (h : H[i]? = some (some c)) : hit H (hw i) = some i := by
  unfold hit
  rw [hw_mod i hi, h]
  rw [if_pos ⟨cls_hw i hi, rfl⟩]
end Go.Proofs.YtgmimmdojkoppaaGreatDoor.W
/- A heap that a statement made itself: what Put and Reach do to it. -/
namespace Go.Proofs.YtgmimmdojkoppaaGreatDoor.W
open Go.ChangeShapes Go.WideShapes Go.RowKit Go.Shelf
set_option linter.unusedVariables false
/-- a heap that was made behind W0 -/
def Hs (W0 W : World) (hb : Nat) (H : List (Option Hc)) (u : Nat) : Prop := Below W0.heap.size W0 W ∧ HSt W (fun k => W0.heap.size ≤ k ∧ k < W.heap.size) hb H u
section
variable {W0 W W1 W' : World} {hb : Nat} {H : List (Option Hc)} {u : Nat}
theorem Hs.bel (q : Hs W0 W hb H u) : Below W0.heap.size W0 W := q.1
theorem Hs.below (q : Hs W0 W hb H u) (hB : Below W.heap.size W W') : Hs W0 W' hb H u := by
  have h1 := q.1.size
  have h2 := hB.size
  exact ⟨q.1.trans (hB.mono h1), (q.2.below hB).mono (fun k e => ⟨e.1, by omega⟩)⟩
theorem Hs.upd {H' : List (Option Hc)} (q : Hs W0 W hb H u) (hB : Below W.heap.size W W1) (hU : Upd (fun k => W0.heap.size ≤ k ∧ k < W.heap.size) W1 W') (g : HSt W' (Nx (fun k => W0.heap.size ≤ k ∧ k < W.heap.size) W1 W') hb H' u) : Hs W0 W' hb H' u := by
  have h1 := q.1.size
  have h2 := hB.size
  have h3 := hU.size
  have b1 : Below W0.heap.size W1 W' := hU.below (by omega) (fun k e => e.1)
  refine ⟨(q.1.trans (hB.mono h1)).trans b1, g.mono ?_⟩
  rintro k (e | e)
  · exact ⟨e.1, by omega⟩
  · exact ⟨by omega, e.2⟩
/-- what Put answers and leaves -/
def HsPost (W0 : World) (hb : Nat) (H1 : List (Option Hc)) (u : Nat) (c : Hc) (e : Ending) (w' : World) : Prop := (sumH H1 + c.need ≤ u ∧ e = .returned (.tuple #[.int .u64 (hw (lid H1) : Nat), .int .i64 0]) ∧ Hs W0 w' hb (putH H1 (lid H1) (some c)) u) ∨ (u < sumH H1 + c.need ∧ e = .returned (.tuple #[.int .u64 0, .int .i64 40]) ∧ Hs W0 w' hb H1 u)
theorem Hs.post {c : Hc} {H1 : List (Option Hc)} {e : Ending} (q : Hs W0 W hb H u) (hB : Below W.heap.size W W1) (h : PutPost W1 (fun k => W0.heap.size ≤ k ∧ k < W.heap.size) hb H1 u c e W') : HsPost W0 hb H1 u c e W' := by
  obtain ⟨hU, ⟨a, b, c⟩ | ⟨a, b, c⟩⟩ := h
  · exact .inl ⟨a, b, q.upd hB hU c⟩
  · exact .inr ⟨a, b, q.upd hB hU c⟩
end
end Go.Proofs.YtgmimmdojkoppaaGreatDoor.W
/- Package value: Box, of plain values. -/
namespace Go.Proofs.YtgmimmdojkoppaaGreatDoor.W
open Go.ChangeShapes Go.WideShapes Go.RowKit Go.Shelf
set_option linter.unusedVariables false
theorem vright_c (kd i bi re : Int) (t : ByteArray) (h : PV kd i bi re t) (W : World) : Calls Tryz.prog 22 #[.agg #[.int .i64 kd, .int .i64 i, .int .u64 bi, .string t, .int .u64 re]] W fun e w' => e = .returned (.bool true) ∧ Below W.heap.size W w' := by
  rcases h with ⟨rfl, rfl, rfl, rfl, rfl⟩ | ⟨rfl, hi, rfl, rfl, rfl⟩ | ⟨rfl, rfl, rfl, rfl⟩ | ⟨rfl, rfl, rfl, rfl⟩ | ⟨rfl, rfl, rfl, rfl⟩
  · go_enter Tryz.func22, Tryz.ntmps22
    go_wp2
    go_ret
    exact ⟨rfl, ((Below.refl _ W).alloc (Nat.le_refl _) _).alloc (by simp) _⟩
  · rcases hi with rfl | rfl
    · go_enter Tryz.func22, Tryz.ntmps22
      go_wp2
      go_ret
      exact ⟨rfl, ((Below.refl _ W).alloc (Nat.le_refl _) _).alloc (by simp) _⟩
    · go_enter Tryz.func22, Tryz.ntmps22
      go_wp2
      go_ret
      exact ⟨rfl, ((Below.refl _ W).alloc (Nat.le_refl _) _).alloc (by simp) _⟩
  · go_enter Tryz.func22, Tryz.ntmps22
    go_wp2
    go_ret
    exact ⟨rfl, ((Below.refl _ W).alloc (Nat.le_refl _) _).alloc (by simp) _⟩
  · go_enter Tryz.func22, Tryz.ntmps22
    go_wp2
    go_ret
    exact ⟨rfl, ((Below.refl _ W).alloc (Nat.le_refl _) _).alloc (by simp) _⟩
  · go_enter Tryz.func22, Tryz.ntmps22
    go_wp2
    go_ret
    exact ⟨rfl, ((Below.refl _ W).alloc (Nat.le_refl _) _).alloc (by simp) _⟩
theorem boxInt_small (hp vr : Value) (i : Int) (h0 : -9223372036854775808 ≤ i) (h1 : i ≤ 9223372036854775807) (hs : smallB i = true) (W : World) : Calls Tryz.prog 25 #[hp, .int .i64 i, vr] W fun e w' => e = .returned (.tuple #[.int .u64 (intW i), .int .i64 0]) ∧ w' = W := by
  have cf := fromInt_c i h0 h1 W
  rw [hs] at cf
  go_enter Tryz.func25, Tryz.ntmps25
  go_wp2_with (go_at_call 62; (with_reducible refine cf.mono ?_); rintro e w' ⟨rfl, hw⟩; (have hw' := hw.symm); subst hw'; clear hw)
  go_ret2
  exact ⟨rfl, rfl⟩
theorem boxText_small (hp vr : Value) (t : ByteArray) (hs : t.size ≤ 5) (W : World) : Calls Tryz.prog 27 #[hp, .string t, vr] W fun e w' => e = .returned (.tuple #[.int .u64 (txtW t), .int .i64 0]) ∧ w' = W := by
  have cf := fromText_c t (by simp [maxLen]; omega) W
  rw [decide_eq_true hs] at cf
  have h1 : ¬ (t.size : Int) > 8388608 := by omega
  go_enter Tryz.func27, Tryz.ntmps27
  go_wp2_with (go_at_call 65; (with_reducible refine cf.mono ?_); rintro e w' ⟨rfl, hw⟩; (have hw' := hw.symm); subst hw'; clear hw)
  go_ret2
  exact ⟨rfl, rfl⟩
section
variable {W0 W W1 : World} {hb : Nat} {H : List (Option Hc)} {u : Nat}
end
end Go.Proofs.YtgmimmdojkoppaaGreatDoor.W
