/- Contracts of package numtext: a double read; numbers of either kind printed and read. -/
import Derived.Test.YtdoojooepkdlhaaDoorY4
namespace Go.Proofs.YtdoojooepkdlhaaDoor.W
open Go.ChangeShapes Go.WideShapes Go.RowKit

/-- a double that has a name -/
def namD (l : List UInt8) : Option Int := if l = nanT then some 9221120237041090560 else if l = infT then some 9218868437227405312 else if l = 45 :: infT then some 18442240474082181120 else none
def namV (o : Option Int) : Value := .tuple #[.int .u64 (o.getD 0), .bool o.isSome]
theorem named_c (s : ByteArray) (w : World) :
    Calls Tryd.prog 50 #[.string s] w fun e w' => e = .returned (namV (namD s.data.toList)) ∧ w' = w := by
  have es : s.toList = s.data.toList := toList_eq s
  by_cases h1 : s.data.toList = nanT
  · have H := hid (show namD s.data.toList = some 9221120237041090560 by unfold namD; rw [if_pos h1])
    have q : (s.toList == [110, 97, 110]) = true := by rw [es, h1]; rfl
    clear es h1
    go_enter Tryd.func50, Tryd.ntmps50
    go_wp2_with fail
    go_ret2
    exact ⟨by rw [H.out]; rfl, rfl⟩
  · have q : (s.toList == [110, 97, 110]) = false := by rw [es, beq_eq_false_iff_ne]; exact h1
    by_cases h2 : s.data.toList = infT
    · have H := hid (show namD s.data.toList = some 9218868437227405312 by unfold namD; rw [if_neg h1, if_pos h2])
      have q2 : (s.toList == [105, 110, 102]) = true := by rw [es, h2]; rfl
      clear es h1 h2
      go_enter Tryd.func50, Tryd.ntmps50
      go_wp2_with fail
      go_ret2
      exact ⟨by rw [H.out]; rfl, rfl⟩
    · have q2 : (s.toList == [105, 110, 102]) = false := by rw [es, beq_eq_false_iff_ne]; exact h2
      by_cases h3 : s.data.toList = 45 :: infT
      · have H := hid (show namD s.data.toList = some 18442240474082181120 by unfold namD; rw [if_neg h1, if_neg h2, if_pos h3])
        have q3 : (s.toList == [45, 105, 110, 102]) = true := by rw [es, h3]; rfl
        clear es h1 h2 h3
        go_enter Tryd.func50, Tryd.ntmps50
        go_wp2_with fail
        go_ret2
        exact ⟨by rw [H.out]; rfl, rfl⟩
      · have H := hid (show namD s.data.toList = none by unfold namD; rw [if_neg h1, if_neg h2, if_neg h3])
        have q3 : (s.toList == [45, 105, 110, 102]) = false := by rw [es, beq_eq_false_iff_ne]; exact h3
        clear es h1 h2 h3
        go_enter Tryd.func50, Tryd.ntmps50
        go_wp2_with fail
        go_ret2
        exact ⟨by rw [H.out]; rfl, rfl⟩
theorem readF_named (l : List UInt8) (x : Int) (h : namD l = some x) : readF l = (x, 0) := by
  have nl : l = nanT ∨ l = infT ∨ l = 45 :: infT := by
    unfold namD at h
    by_cases h1 : l = nanT
    · exact Or.inl h1
    · by_cases h2 : l = infT
      · exact Or.inr (Or.inl h2)
      · by_cases h3 : l = 45 :: infT
        · exact Or.inr (Or.inr h3)
        · rw [if_neg h1, if_neg h2, if_neg h3] at h; cases h
  rcases nl with rfl | rfl | rfl <;> (have e : some x = _ := h.symm; injection e with e; subst e; rfl)
theorem readF_nameless (l : List UInt8) (h64 : l.length ≤ 64) (h : namD l = none) : readF l = ansF (sgI (minus1 l)) (bodyR (rest1 l)) := by
  unfold namD at h
  by_cases h1 : l = nanT
  · rw [if_pos h1] at h; cases h
  · rw [if_neg h1] at h
    by_cases h2 : l = infT
    · rw [if_pos h2] at h; cases h
    · rw [if_neg h2] at h
      by_cases h3 : l = 45 :: infT
      · rw [if_pos h3] at h; cases h
      · exact readF_ans l h64 h1 h2 h3
theorem or_sign (m : Bool) (a : Int) (a0 : 0 ≤ a) (a1 : a < 9218868437227405312) : bits .or .u64 (sgI m) a = sgI m + a := by
  obtain ⟨n, rfl⟩ := Int.eq_ofNat_of_zero_le a0
  cases m with
  | false =>
    have := u64_or_nat 0 n (by decide) (by omega)
    rw [Nat.zero_or] at this
    show bits .or .u64 ((0 : Nat) : Int) (n : Int) = 0 + (n : Int)
    rw [this]; omega
  | true =>
    show bits .or .u64 ((9223372036854775808 : Nat) : Int) (n : Int) = 9223372036854775808 + (n : Int)
    rw [u64_or_nat _ _ (by decide) (by omega), nat_join 63 _ _ (by decide) (by omega)]
    omega
set_option maxHeartbeats 400000 in
theorem parseFloat_c (s : ByteArray) (hs : s.size ≤ maxLen) (w : World) (ht : Tabs w) :
    Calls Tryd.prog 41 #[.string s] w fun e w' => e = .returned (.tuple #[.int .u64 (readF s.data.toList).1, .int .i64 (readF s.data.toList).2]) ∧ Below w.heap.size w w' := by
  unfold maxLen at hs
  have sl := size_list s
  by_cases c : s.size ≤ 64
  · cases hn : namD s.data.toList with
    | some x =>
      have H := hid (readF_named _ _ hn)
      have cn := named_c s
      rw [hn] at cn
      clear hn sl
      go_enter Tryd.func41, Tryd.ntmps41
      go_wp2_with (first | (go_at_call 50; refine (cn _).mono ?_; rintro e w' ⟨rfl, rfl⟩; simp only [namV, Option.getD_some, Option.isSome_some]))
      go_ret2
      exact ⟨ret_ii (by rw [H.out]) (by rw [H.out]), Below.refl _ _⟩
    | none =>
      have H := hid (readF_nameless _ (by omega) hn)
      have cn := named_c s
      rw [hn] at cn
      clear hn sl
      go_enter Tryd.func41, Tryd.ntmps41
      go_upto_region 7 with (first | (go_at_call 50; refine (cn _).mono ?_; rintro e w' ⟨rfl, rfl⟩; simp only [namV, Option.getD_none, Option.isSome_none]) | (go_at_call 51; refine (readDouble_c s c _).mono ?_; rintro e w2 ⟨⟨sg, v, p, wd, ok, rfl, hans⟩, hb⟩))
      have ht3 : Tabs (w2.alloc (Obj.cells #[Value.int .u64 v, .int .i64 p, .bool wd] 70)) := (ht.below hb).below ((Below.refl _ _).alloc (Nat.le_refl _) _)
      have b3 := hb.alloc hb.size (Obj.cells #[Value.int .u64 v, .int .i64 p, .bool wd] 70)
      cases ok with
      | false =>
        have hn : bodyR (rest1 s.data.toList) = none := by
          rcases hans with ⟨-, h⟩ | ⟨h, -⟩
          · exact h
          · cases h
        have H2 := hid (show readF s.data.toList = (0, 20) by rw [H.out, hn]; rfl)
        clear hn hans ht3
        go_wp2_with fail
        go_ret2
        exact ⟨ret_ii (by rw [H2.out]) (by rw [H2.out]), b3⟩
      | true =>
        rcases hans with ⟨h, -⟩ | ⟨-, hsg, v0, v1, p0, p1, N, low, hbd, hex⟩
        · cases h
        have cp := numPattern_c v p wd v0 v1 p0 p1 _ ht3
        cases ho : numP v.toNat wd p with
        | none =>
          have H2 := hid (show readF s.data.toList = (0, 21) by rw [H.out, hbd]; unfold ansF; simp only [hex, ho])
          rw [ho] at cp
          clear hex ho hbd hsg ht3
          go_wp2_with (first | (go_at_call 52; refine cp.mono ?_; rintro e w4 ⟨rfl, hb4⟩; simp only [patV, Option.getD_none, Option.isSome_none]))
          go_ret2
          exact ⟨ret_ii (by rw [H2.out]) (by rw [H2.out]), bel_trans b3 hb4⟩
        | some a =>
          obtain ⟨a0, a1⟩ := exact_range N low a (hex.trans ho)
          have H2 := hid (show readF s.data.toList = (sg + a, 0) by rw [H.out, hbd, ← hsg]; unfold ansF; simp only [hex, ho])
          have ho2 : bits .or .u64 sg a = sg + a := by rw [hsg]; exact or_sign _ a a0 a1
          rw [ho] at cp
          clear hex ho hbd hsg ht3
          go_wp2_with (first | (go_at_call 52; refine cp.mono ?_; rintro e w4 ⟨rfl, hb4⟩; simp only [patV, Option.getD_some, Option.isSome_some]))
          go_ret2
          exact ⟨ret_ii (by rw [H2.out]) (by rw [H2.out]), bel_trans b3 hb4⟩
  · have E : readF s.data.toList = (0, 2) := by unfold readF; rw [if_pos (by omega)]
    have H := hid E
    clear E
    go_enter Tryd.func41, Tryd.ntmps41
    go_wp2_with fail
    go_ret2
    exact ⟨ret_ii (by rw [H.out]) (by rw [H.out]), Below.refl _ _⟩

/-! ### numbers of either kind -/
def markB (l : List UInt8) : Bool := match l with | 45 :: 48 :: 120 :: _ => true | 48 :: 120 :: _ => true | _ => false
theorem float_looks (l : List UInt8) : floatB l = ((namD l).isSome || Lib.hasPrefix (rest1 l) [48, 120]) := by
  have hx : Lib.hasPrefix (rest1 l) [48, 120] = markB l := by
    rcases prefix_two (rest1 l) 48 120 with ⟨h1, h2⟩ | ⟨h1, h2, h3⟩
    · rw [h1]
      generalize Lib.trimPrefix (rest1 l) [48, 120] = d at h2
      cases l with
      | nil => cases h2
      | cons c r =>
        by_cases hc : c = 45
        · subst hc
          have : r = 48 :: 120 :: d := h2
          rw [this]; rfl
        · have e := (rest_not (c :: r) (fun d e => hc (by injection e))).2
          rw [e] at h2
          rw [h2]; rfl
    · rw [h1]
      unfold markB
      split
      · exact absurd rfl (h3 _)
      · rename_i r
        have e := (rest_not (48 :: 120 :: r) (fun d e => by injection e with e1; revert e1; decide)).2
        exact absurd e (h3 r)
      · rfl
  have hf : floatB l = (markB l || l == nanT || l == infT || l == 45 :: infT) := rfl
  rw [hx, hf]
  unfold namD
  have d1 : (l == nanT) = decide (l = nanT) := by rw [Bool.eq_iff_iff]; simp
  have d2 : (l == infT) = decide (l = infT) := by rw [Bool.eq_iff_iff]; simp
  have d3 : (l == 45 :: infT) = decide (l = 45 :: infT) := by rw [Bool.eq_iff_iff]; simp
  rw [d1, d2, d3]
  generalize markB l = q
  by_cases h1 : l = nanT
  · rw [if_pos h1, decide_eq_true h1]; simp
  · rw [if_neg h1, decide_eq_false h1]
    by_cases h2 : l = infT
    · rw [if_pos h2, decide_eq_true h2]; simp
    · rw [if_neg h2, decide_eq_false h2]
      by_cases h3 : l = 45 :: infT
      · rw [if_pos h3, decide_eq_true h3]; simp
      · rw [if_neg h3, decide_eq_false h3]; simp
theorem readF_err (l : List UInt8) (h : (readF l).2 ≠ 0) : (readF l).1 = 0 := by
  have go : ∀ s b, (readS s b).2 ≠ 0 → (readS s b).1 = 0 := by
    intro s b
    rw [readS_ans]
    intro h
    cases hb : bodyR b with
    | none => rfl
    | some q =>
      obtain ⟨N, low⟩ := q
      rw [hb] at h
      unfold ansF at h ⊢
      cases he : exactP N low with
      | none => simp only [he]
      | some a => simp only [he] at h; exact absurd rfl h
  unfold readF at h ⊢
  by_cases c0 : 64 < l.length
  · rw [if_pos c0]
  · rw [if_neg c0] at h ⊢
    by_cases c1 : l = nanT
    · rw [if_pos c1] at h; exact absurd rfl h
    · rw [if_neg c1] at h ⊢
      by_cases c2 : l = infT
      · rw [if_pos c2] at h; exact absurd rfl h
      · rw [if_neg c2] at h ⊢
        by_cases c3 : l = 45 :: infT
        · rw [if_pos c3] at h; exact absurd rfl h
        · rw [if_neg c3] at h ⊢
          split at h
          · exact go _ _ h
          · exact go _ _ h
theorem readI_err (l : List UInt8) (h : (readI l).2 ≠ 0) : (readI l).1 = 0 := by
  by_cases c0 : 64 < l.length
  · unfold readI; rw [if_pos c0]
  · rw [readI_rest l (by omega)] at h ⊢
    unfold readD at h ⊢
    by_cases c1 : formI (minus1 l) (rest1 l) = true
    · rw [if_pos c1] at h ⊢
      by_cases c2 : (if minus1 l = true then valD (rest1 l) ≤ 9223372036854775808 else valD (rest1 l) < 9223372036854775808)
      · rw [if_pos c2] at h; exact absurd rfl h
      · rw [if_neg c2]
    · rw [if_neg c1]
/-- a number, and the error, as values -/
def numV (n : Bool × Int × Int × Int) : Value := .tuple #[.agg #[.bool n.1, .int .i64 n.2.1, .int .u64 n.2.2.1], .int .i64 n.2.2.2]
theorem readN_float (l : List UInt8) (h : floatB l = true) : readN l = (false, 0, (readF l).1, (readF l).2) := by
  unfold readN
  by_cases c : 64 < l.length
  · rw [if_pos c]
    have : readF l = (0, 2) := by unfold readF; rw [if_pos c]
    rw [this]
  · rw [if_neg c, if_pos h]
    by_cases e : (readF l).2 = 0
    · rw [if_pos e, e]
    · rw [if_neg e, readF_err l e]
theorem readN_whole (l : List UInt8) (h : floatB l = false) : readN l = ((readI l).2 == 0, (readI l).1, 0, (readI l).2) := by
  unfold readN
  by_cases c : 64 < l.length
  · rw [if_pos c]
    have : readI l = (0, 2) := by unfold readI; rw [if_pos c]
    rw [this]; rfl
  · rw [if_neg c, if_neg (by rw [h]; decide)]
    by_cases e : (readI l).2 = 0
    · rw [if_pos e, e]; rfl
    · rw [if_neg e, readI_err l e, beq_eq_false_iff_ne.2 e]
/-- a number's text -/
def numT (b : Bool) (i u : Int) : List UInt8 := if b = true then intT i else fltT u
end Go.Proofs.YtdoojooepkdlhaaDoor.W
