/- Plain facts for the reference's reading of doubles: where the digits end; bits of digits; the power behind them. -/
import Derived.Test.YtdoojooepkdlhaaDoorRE4
import Derived.Test.YtdoojooepkdlhaaDoorZ4
namespace Go.Proofs.YtdoojooepkdlhaaDoor.W
open Go.ChangeShapes Go.WideShapes Go.RowKit

def bitsOf (l : List UInt8) : List Nat := l.flatMap fun c => nib (hexV c).toNat
theorem bitsOf_snoc (l : List UInt8) (c : UInt8) : bitsOf (l ++ [c]) = bitsOf l ++ nib (hexV c).toNat := by simp [bitsOf]
theorem bitsOf_append (l m : List UInt8) : bitsOf (l ++ m) = bitsOf l ++ bitsOf m := by simp [bitsOf]
theorem bitsOf_len (l : List UInt8) : (bitsOf l).length = 4 * l.length := by
  induction l with
  | nil => rfl
  | cons c l ih =>
    have : bitsOf (c :: l) = nib (hexV c).toNat ++ bitsOf l := by simp [bitsOf]
    rw [this, List.length_append, ih, List.length_cons]
    simp [nib]; omega
theorem bitsOf_val (l : List UInt8) : valB (bitsOf l) = valH l := by
  have go : ∀ (m : List UInt8), valB (bitsOf m.reverse) = valH m.reverse := by
    intro m
    induction m with
    | nil => rfl
    | cons c m ih =>
      rw [List.reverse_cons, bitsOf_snoc, valH_snoc]
      have := valB_nibble (bitsOf m.reverse) (hexV c).toNat
      rw [show nib (hexV c).toNat = [(hexV c).toNat / 8, (hexV c).toNat / 4 % 2, (hexV c).toNat / 2 % 2, (hexV c).toNat % 2] from rfl, this, ih]
  have := go l.reverse
  rw [List.reverse_reverse] at this
  exact this
theorem bitsOf_bit (l : List UInt8) : ∀ b ∈ bitsOf l, b ≤ 1 := by
  intro b hb
  simp only [bitsOf, List.mem_flatMap] at hb
  obtain ⟨c, -, hb⟩ := hb
  have := hexV_range c
  exact nib_bits _ (by omega) b hb
/-- digits from a place on -/
def seg (T : ByteArray) (a k : Nat) : List UInt8 := (T.data.toList.drop a).take (k - a)
theorem seg_nil (T : ByteArray) (a : Nat) : seg T a a = [] := by simp [seg]
theorem seg_snoc (T : ByteArray) (a k : Nat) (h : a ≤ k) (hk : k < T.size) : seg T a (k + 1) = seg T a k ++ [T[k]] := by
  unfold seg
  have h1 : k - a < (T.data.toList.drop a).length := by rw [List.length_drop, size_list]; omega
  rw [show k + 1 - a = (k - a) + 1 by omega, List.take_succ_eq_append_getElem h1]
  congr 2
  rw [List.getElem_drop]
  have : a + (k - a) = k := by omega
  simp only [this]
  rfl
theorem seg_len (T : ByteArray) (a k : Nat) (h : a ≤ k) (hk : k ≤ T.size) : (seg T a k).length = k - a := by
  unfold seg
  rw [List.length_take, List.length_drop, size_list]
  omega
/-- where the digits end -/
structure Stop (T : ByteArray) (a e : Nat) : Prop where
  le : a ≤ e
  size : e ≤ T.size
  hex : ∀ k (h : k < T.size), a ≤ k → k < e → 0 ≤ hexV T[k]
  no : ∀ h : e < T.size, hexV T[e] = -1
  take : (T.data.toList.drop a).takeWhile hexB = seg T a e
  drop : (T.data.toList.drop a).dropWhile hexB = T.data.toList.drop e
theorem tw_all (p : UInt8 → Bool) (l : List UInt8) : ∀ c ∈ l.takeWhile p, p c = true := by
  induction l with
  | nil => intro c hc; cases hc
  | cons a l ih =>
    intro c hc
    cases h : p a with
    | true =>
      rw [List.takeWhile_cons, h, if_pos rfl] at hc
      rcases List.mem_cons.1 hc with rfl | hc
      · exact h
      · exact ih c hc
    | false => rw [List.takeWhile_cons, h] at hc; cases hc
theorem tw_take (p : UInt8 → Bool) (l : List UInt8) : l.take (l.takeWhile p).length = l.takeWhile p ∧ l.drop (l.takeWhile p).length = l.dropWhile p := by
  induction l with
  | nil => exact ⟨rfl, rfl⟩
  | cons a l ih =>
    cases h : p a with
    | true =>
      rw [List.takeWhile_cons, List.dropWhile_cons, h, if_pos rfl, if_pos rfl]
      simp only [List.length_cons, List.take_succ_cons, List.drop_succ_cons]
      exact ⟨by rw [ih.1], ih.2⟩
    | false =>
      rw [List.takeWhile_cons, List.dropWhile_cons, h]
      exact ⟨rfl, rfl⟩
theorem get_list (T : ByteArray) (k : Nat) (h : k < T.size) : T.data.toList[k]'(by rw [size_list]; exact h) = T[k] := rfl
theorem stop_at (T : ByteArray) (a : Nat) (ha : a ≤ T.size) : ∃ e, Stop T a e := by
  have hl : T.data.toList.length = T.size := size_list T
  generalize hr : T.data.toList.drop a = r
  have hrl : r.length = T.size - a := by rw [← hr, List.length_drop, hl]
  have ht : r = r.takeWhile hexB ++ r.dropWhile hexB := List.takeWhile_append_dropWhile.symm
  have hle : (r.takeWhile hexB).length ≤ r.length := by
    have := congrArg List.length ht
    rw [List.length_append] at this
    omega
  refine ⟨a + (r.takeWhile hexB).length, by omega, by omega, ?_, ?_, ?_, ?_⟩
  · intro k h h1 h2
    have hk : k - a < (r.takeWhile hexB).length := by omega
    have hm := List.getElem_mem hk
    have hx := tw_all hexB r _ hm
    have e1 : (r.takeWhile hexB)[k - a] = r[k - a]'(by omega) := by
      have : r[k - a]'(by omega) = (r.takeWhile hexB ++ r.dropWhile hexB)[k - a]'(by rw [← ht]; omega) := by simp only [← ht]
      rw [this, List.getElem_append_left hk]
    have e2 : r[k - a]'(by omega) = T[k] := by
      have : r[k - a]'(by omega) = (T.data.toList.drop a)[k - a]'(by rw [hr]; omega) := by simp only [hr]
      rw [this, List.getElem_drop]
      have h3 : a + (k - a) = k := by omega
      simp only [h3]
      rfl
    rw [e1, e2] at hx
    exact of_decide_eq_true hx
  · intro h
    have hd : r.dropWhile hexB ≠ [] := by
      intro e
      have := congrArg List.length ht
      rw [e, List.append_nil] at this
      omega
    have hx := List.head_dropWhile_not hexB (l := r) hd
    have e1 : (r.dropWhile hexB).head hd = T[a + (r.takeWhile hexB).length] := by
      have h0 : 0 < (r.dropWhile hexB).length := List.length_pos_iff.2 hd
      rw [List.head_eq_getElem]
      have : (r.dropWhile hexB)[0] = (r.takeWhile hexB ++ r.dropWhile hexB)[(r.takeWhile hexB).length]'(by rw [List.length_append]; omega) := by
        rw [List.getElem_append_right (Nat.le_refl _)]
        simp
      rw [this]
      have : (r.takeWhile hexB ++ r.dropWhile hexB)[(r.takeWhile hexB).length]'(by rw [List.length_append]; omega) = r[(r.takeWhile hexB).length]'(by omega) := by simp only [← ht]
      rw [this]
      have : r[(r.takeWhile hexB).length]'(by omega) = (T.data.toList.drop a)[(r.takeWhile hexB).length]'(by rw [hr]; omega) := by simp only [hr]
      rw [this, List.getElem_drop]
      rfl
    rw [e1] at hx
    have hr1 := hexV_range T[a + (r.takeWhile hexB).length]
    have : ¬ 0 ≤ hexV T[a + (r.takeWhile hexB).length] := by
      intro h2
      rw [hex_some h2] at hx
      cases hx
    omega
  · unfold seg
    rw [hr, show a + (r.takeWhile hexB).length - a = (r.takeWhile hexB).length by omega]
    exact (tw_take hexB r).1.symm
  · rw [← List.drop_drop, hr]
    exact (tw_take hexB r).2.symm
/-! ### the power behind the digits -/
theorem drop_two (T : ByteArray) (k : Nat) (h : k + 1 < T.size) : T.data.toList.drop k = T[k] :: T[k + 1] :: T.data.toList.drop (k + 2) := by
  rw [List.drop_eq_getElem_cons (by rw [size_list]; omega), List.drop_eq_getElem_cons (by rw [size_list]; omega)]
  rfl
theorem pow_short (T : ByteArray) (k : Nat) (h : T.size ≤ k + 1) : powR (T.data.toList.drop k) = none := by
  have hl : (T.data.toList.drop k).length ≤ 1 := by rw [List.length_drop, size_list]; omega
  refine powR_no _ ?_ ?_ <;> (intro d e; rw [e] at hl; simp at hl)
theorem pow_noP (T : ByteArray) (k : Nat) (h : k + 1 < T.size) (hp : T[k] ≠ 112) : powR (T.data.toList.drop k) = none := by
  rw [drop_two T k h]
  refine powR_no _ ?_ ?_ <;> (intro d e; injection e with e1; exact hp e1)
theorem pow_noSign (T : ByteArray) (k : Nat) (h : k + 1 < T.size) (h1 : T[k + 1] ≠ 43) (h2 : T[k + 1] ≠ 45) : powR (T.data.toList.drop k) = none := by
  rw [drop_two T k h]
  refine powR_no _ ?_ ?_ <;> (intro d e; injection e with e1 e2; injection e2 with e3; first | exact h1 e3 | exact h2 e3)
theorem pow_ds (T : ByteArray) (k : Nat) (h : k + 1 < T.size) (hp : T[k] = 112) (hs : T[k + 1] = 43 ∨ T[k + 1] = 45) :
    powR (T.data.toList.drop k) = if allD (T.data.toList.drop (k + 2)) = true ∧ (T.data.toList.drop (k + 2)).length ≤ 5 then some (if T[k + 1] = 45 then -(valD (T.data.toList.drop (k + 2)) : Int) else valD (T.data.toList.drop (k + 2))) else none := by
  rw [drop_two T k h, hp]
  exact powR_ok _ _ hs
/-- digits of the power, counted up to a place -/
theorem seg_all (T : ByteArray) (a : Nat) : seg T a T.size = T.data.toList.drop a := by
  unfold seg
  exact List.take_of_length_le (by rw [List.length_drop, size_list]; omega)
theorem seg_val (T : ByteArray) (a k : Nat) (h : a ≤ k) (hk : k < T.size) : valD (seg T a (k + 1)) = 10 * valD (seg T a k) + (T[k].toNat - 48) := by
  rw [seg_snoc T a k h hk, valD_snoc]
theorem seg_dig (T : ByteArray) (a k : Nat) (h : a ≤ k) (hk : k < T.size) (hd : digB T[k] = true) (ha : (seg T a k).all digB = true) : (seg T a (k + 1)).all digB = true := by
  rw [seg_snoc T a k h hk, List.all_append, ha]
  simp [hd]
theorem seg_not (T : ByteArray) (a k : Nat) (h : a ≤ k) (hk : k < T.size) (hd : digB T[k] = false) : allD (T.data.toList.drop a) = false := by
  have hm : T[k] ∈ T.data.toList.drop a := by
    rw [← List.take_append_drop (k + 1 - a) (T.data.toList.drop a)]
    have := seg_snoc T a k h hk
    unfold seg at this
    rw [this]; simp
  have e : (T.data.toList.drop a).all digB = false := by
    rw [List.all_eq_false]
    exact ⟨T[k], hm, by rw [hd]; decide⟩
  unfold allD
  rw [e, Bool.and_false]
theorem seg_small (T : ByteArray) (a k : Nat) (ha : (seg T a k).all digB = true) (hl : (seg T a k).length ≤ 5) : valD (seg T a k) < 100000 := by
  have h2 := valD_le (seg T a k) (fun c hc => of_decide_eq_true (List.all_eq_true.1 ha c hc))
  have h3 : 10 ^ (seg T a k).length ≤ 10 ^ 5 := Nat.pow_le_pow_right (by decide) hl
  have h4 : (10 : Nat) ^ 5 = 100000 := by decide
  omega
/-! ### the body -/
theorem body_mark (T : ByteArray) (h2 : 1 < T.size) (h0 : T[0] = 48) (h1 : T[1] = 120) : bodyR T.data.toList = readBody (T.data.toList.drop 2) := by
  have := drop_two T 0 h2
  rw [List.drop_zero, h0] at this
  rw [this]
  have h1' : T[0 + 1] = 120 := h1
  rw [h1']
  rfl
theorem body_noMark (T : ByteArray) (h : T.size < 2 ∨ ∃ h : 1 < T.size, T[0] ≠ 48 ∨ T[1] ≠ 120) : bodyR T.data.toList = none := by
  unfold bodyR
  split
  · rename_i r e
    have hl := congrArg List.length e
    rw [size_list] at hl
    simp only [List.length_cons] at hl
    rcases h with h | ⟨h, g⟩
    · omega
    · have hd := drop_two T 0 h
      rw [List.drop_zero, e] at hd
      injection hd with e1 e2
      injection e2 with e3
      rcases g with g | g
      · exact absurd e1.symm g
      · exact absurd e3.symm g
  · rfl
theorem body_none (T : ByteArray) (e : Nat) (hs : Stop T 2 e) (h : e = 2) : readBody (T.data.toList.drop 2) = none := by
  unfold readBody
  rw [hs.take, h, seg_nil, if_pos rfl]
theorem seg_ne (T : ByteArray) (a e : Nat) (hs : Stop T a e) (h : e ≠ a) : seg T a e ≠ [] := by
  intro g
  have := seg_len T a e hs.le hs.size
  rw [g] at this
  have := hs.le
  simp at *
  omega
theorem body_plain (T : ByteArray) (e : Nat) (hs : Stop T 2 e) (h : e ≠ 2) (hd : ∀ h : e < T.size, T[e] ≠ 46) : readBody (T.data.toList.drop 2) = readPow (valH (seg T 2 e)) 0 (T.data.toList.drop e) := by
  unfold readBody
  rw [hs.take, hs.drop, if_neg (seg_ne T 2 e hs h)]
  split
  · rename_i r1 g
    have hl := congrArg List.length g
    rw [List.length_drop, size_list] at hl
    simp only [List.length_cons] at hl
    have he : e < T.size := by omega
    rw [List.drop_eq_getElem_cons (by rw [size_list]; exact he)] at g
    injection g with g1 g2
    exact absurd g1 (hd he)
  · rfl
theorem body_point (T : ByteArray) (e f : Nat) (hs : Stop T 2 e) (h : e ≠ 2) (he : e < T.size) (hd : T[e] = 46) (hf : Stop T (e + 1) f) :
    readBody (T.data.toList.drop 2) = if f = e + 1 then none else readPow (valH (seg T 2 e ++ seg T (e + 1) f)) (f - (e + 1)) (T.data.toList.drop f) := by
  unfold readBody
  rw [hs.take, hs.drop, if_neg (seg_ne T 2 e hs h)]
  have g : T.data.toList.drop e = 46 :: T.data.toList.drop (e + 1) := by
    rw [List.drop_eq_getElem_cons (by rw [size_list]; exact he)]
    have : T.data.toList[e]'(by rw [size_list]; exact he) = T[e] := rfl
    rw [this, hd]
  rw [g]
  simp only [hf.take, hf.drop]
  by_cases q : f = e + 1
  · rw [if_pos q, q, seg_nil, if_pos rfl]
  · rw [if_neg q, if_neg (seg_ne T (e + 1) f hf q), seg_len T (e + 1) f hf.le hf.size]
theorem lt48b (c : UInt8) : digB c = (!(decide ((c.toNat : Int) < 48) || decide (57 < (c.toNat : Int)))) := by
  unfold digB
  rw [Bool.eq_iff_iff]
  simp only [decide_eq_true_eq, Bool.not_eq_true', Bool.or_eq_false_iff, decide_eq_false_iff_not]
  omega
def exN (sg : Int) (o : Option Int) : Int × Int := match o with | none => (0, 21) | some a => (sg + a, 0)
theorem ansX_exN (sg : Int) (o : Option Int) : ansX sg o = .tuple #[.int .u64 (exN sg o).1, .int .i64 (exN sg o).2] := by cases o <;> rfl
theorem ansF_exN (sg : Int) (N : Nat) (low : Int) : ansF sg (some (N, low)) = exN sg (exactP N low) := by
  cases h : exactP N low with
  | none => simp only [ansF, h, exN]
  | some a => simp only [ansF, h, exN]
end Go.Proofs.YtdoojooepkdlhaaDoor.W
