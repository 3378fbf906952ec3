import Derived.Test.YtbgabpgohkcahaaIsJ
import Derived.Test.YtbgabpgohkcahaaTxtJ
/- Plain facts on what is put into a word and comes out of it: no Go in sight. -/
namespace Go.Proofs.Ytbgabpgohkcahaa.W

theorem cls_mk2 (n : Int) (a : 18444773748872577024 ≤ n) (b : n < 18445055223849287680) : cls n = 2 := cls_t1 n (by omega) (by omega) (by omega)
theorem cls_mk6 (n : Int) (a : 18445336698825998336 ≤ n) (b : n < 18445618173802708992) : cls n = 6 := cls_t3 n (by omega) (by omega) (by omega)
theorem intW_bd (i : Int) (h : smallB i = true) : 18444773748872577024 ≤ intW i ∧ intW i < 18445055223849287680 := by
  simp only [intW, h, if_true]; omega
theorem intW_cls (i : Int) (h : smallB i = true) : cls (intW i) = 2 := by
  have := intW_bd i h
  exact cls_mk2 _ this.1 this.2
theorem toInt_intW (i : Int) (h : smallB i = true) : toInt (intW i) = i := by
  have hc := intW_cls i h
  simp only [toInt, hc, if_true]
  have hs := h
  simp only [smallB, decide_eq_true_eq] at hs
  simp only [intW, h, if_true]
  split <;> omega
theorem hdlW_cls (h : Int) (h0 : 0 ≤ h) (h1 : h < 281474976710656) : cls (hdlW h) = 6 := by
  simp only [hdlW, if_pos h1]
  exact cls_mk6 _ (by omega) (by omega)
theorem toHdl_hdlW (h : Int) (h0 : 0 ≤ h) (h1 : h < 281474976710656) : toHdl (hdlW h) = h := by
  unfold toHdl
  rw [if_pos (hdlW_cls h h0 h1)]
  simp only [hdlW, if_pos h1]
  omega
theorem fltW_bd (n : Int) (h0 : 0 ≤ n) (h1 : n < 18446744073709551616) : 0 ≤ fltW n ∧ fltW n < 18446744073709551616 := by
  unfold fltW; split <;> omega
theorem fltW_cls (n : Int) : cls (fltW n) = 1 := by
  unfold fltW
  split
  · exact cls_canon
  · rename_i h
    exact cls_dbl n (by simpa using h)
theorem fltW_fltW (n : Int) : fltW (fltW n) = fltW n := by
  cases h : nanB n
  · have e : fltW n = n := by simp [fltW, h]
    rw [e, e]
  · have e : fltW n = 9221120237041090560 := by simp [fltW, h]
    rw [e]; decide
theorem back1 (n : Int) (h : cls n = 1) : fltW n = n := by
  rcases cls_is1 n h with c | c
  · have : nanB n = false := by simp [nanB]; omega
    simp [fltW, this]
  · subst c; decide
theorem back2 (n : Int) (h : cls n = 2) : intW (toInt n) = n ∧ smallB (toInt n) = true ∧ -140737488355328 ≤ toInt n ∧ toInt n ≤ 140737488355327 := by
  have hb := cls_is2 n h
  have hs : -140737488355328 ≤ toInt n ∧ toInt n ≤ 140737488355327 := by
    simp only [toInt, h, if_true]; split <;> omega
  have hs' : smallB (toInt n) = true := by simp only [smallB, decide_eq_true_eq]; exact hs
  refine ⟨?_, hs', hs.1, hs.2⟩
  simp only [intW, hs', if_true]
  simp only [toInt, h, if_true]
  split <;> omega
theorem back4 (n : Int) (h : cls n = 4) : boolW (toBool n) = n := by
  rcases cls_is4 n h with c | c <;> subst c <;> decide
theorem back6 (n : Int) (h : cls n = 6) : hdlW (toHdl n) = n ∧ 0 ≤ toHdl n ∧ toHdl n < 281474976710656 := by
  have hb := cls_is6 n h
  have hs : 0 ≤ toHdl n ∧ toHdl n < 281474976710656 := by simp only [toHdl, h, if_true]; omega
  refine ⟨?_, hs⟩
  simp only [hdlW, if_pos hs.2]
  simp only [toHdl, h, if_true]
  omega
theorem back7 (n : Int) (h : cls n = 7) : fltW n = 9221120237041090560 := by
  have := cls_is7 n h
  have hn : nanB n = true := by simp [nanB]; omega
  simp [fltW, hn]
theorem txtW_rest (s : ByteArray) (h : s.size ≤ 5) : txtW s % 281474976710656 / 1099511627776 = s.size ∧ txtW s % 1099511627776 = encN s.data.toList := by
  have he := encN_lt s.data.toList
  have hl : s.data.toList.length = s.size := by simp
  rw [hl] at he
  have := pow_lt5 s.size h
  simp only [txtW, if_pos h]
  omega
theorem txtW_cls (s : ByteArray) (h : s.size ≤ 5) : cls (txtW s) = 5 := by
  have he := encN_lt s.data.toList
  have hl : s.data.toList.length = s.size := by simp
  rw [hl] at he
  have hp := pow_lt5 s.size h
  obtain ⟨r1, r2⟩ := txtW_rest s h
  have hb : 18445055223849287680 ≤ txtW s ∧ txtW s < 18445336698825998336 := by
    have := enc_lt s h
    simp only [txtW, if_pos h]; omega
  rw [cls_t2 (txtW s) (by omega) (by omega) (by omega)]
  unfold textCls
  rw [if_pos]
  simp only [txtOk, decide_eq_true_eq]
  have e : txtW s % 281474976710656 % 1099511627776 = txtW s % 1099511627776 := by omega
  rw [r1, e, r2]
  refine ⟨by omega, ?_⟩
  have e8 : (8 * (s.size : Int)).toNat = 8 * s.size := by omega
  rw [e8]
  have e2 : (2 : Int) ^ (8 * s.size) = ((256 ^ s.size : Nat) : Int) := by rw [← pow8]; simp
  rw [e2]
  omega
theorem toTxt_txtW (s : ByteArray) (h : s.size ≤ 5) : toTxt (txtW s) = s := by
  obtain ⟨r1, r2⟩ := txtW_rest s h
  simp only [toTxt, txtW_cls s h, if_true]
  rw [r1, r2, Int.toNat_natCast, Int.toNat_natCast]
  have hl : s.data.toList.length = s.size := by simp
  rw [← hl, decN_encN]
theorem back5 (n : Int) (h : cls n = 5) : txtW (toTxt n) = n ∧ (toTxt n).size ≤ 5 := by
  obtain ⟨h1, h2, h3⟩ := cls_is5 n h
  simp only [txtOk, decide_eq_true_eq] at h3
  obtain ⟨k5, hr⟩ := h3
  obtain ⟨k, hk⟩ : ∃ k : Nat, n % 281474976710656 / 1099511627776 = k := Int.eq_ofNat_of_zero_le (by omega)
  obtain ⟨r, hr'⟩ : ∃ r : Nat, n % 1099511627776 = r := Int.eq_ofNat_of_zero_le (by omega)
  have e : n % 281474976710656 % 1099511627776 = r := by omega
  rw [hk, e] at hr
  rw [hk] at k5
  have e8 : (8 * (k : Int)).toNat = 8 * k := by omega
  have e2 : (2 : Int) ^ (8 * k) = ((256 ^ k : Nat) : Int) := by rw [← pow8]; simp
  rw [e8, e2] at hr
  have ht : toTxt n = ⟨(decN k r).toArray⟩ := by simp only [toTxt, h, if_true, hk, hr', Int.toNat_natCast]
  have hsz : (toTxt n).size = k := by rw [ht]; simp [ByteArray.size, decN_length]
  refine ⟨?_, by omega⟩
  have hd : encN (toTxt n).data.toList = r := by
    rw [ht]
    simp only
    exact encN_decN k r (by omega)
  simp only [txtW, hsz, hd]
  rw [if_pos (by omega)]
  omega
end Go.Proofs.Ytbgabpgohkcahaa.W
