/- Contracts of package numtext: a sign, the mark, digits and a power; a double read. -/
import Derived.Test.YtdoojooepkdlhaaDoorU4
import Derived.Test.YtdoojooepkdlhaaDoorV4
import Derived.Test.YtdoojooepkdlhaaDoorG4
import Derived.RegionTactic
namespace Go.Proofs.YtdoojooepkdlhaaDoor.W
open Go.ChangeShapes Go.WideShapes Go.RowKit

/-- the number behind the mark -/
def bodyR (l : List UInt8) : Option (Nat × Int) := match l with | 48 :: 120 :: r => readBody r | _ => none
def sgI (m : Bool) : Int := if m = true then 9223372036854775808 else 0
/-- what is answered of a text that has no name -/
def ansF (s : Int) (o : Option (Nat × Int)) : Int × Int := match o with | none => (0, 20) | some (N, low) => match exactP N low with | none => (0, 21) | some a => (s + a, 0)
theorem readS_ans (s : Int) (l : List UInt8) : readS s l = ansF s (bodyR l) := by
  unfold readS bodyR ansF
  split
  · rfl
  · rename_i hn
    split
    · rename_i h
      split at h
      · exact (hn _ rfl).elim
      · rfl
    · rename_i h
      split at h
      · exact (hn _ rfl).elim
      · cases h
theorem readF_ans (l : List UInt8) (h64 : l.length ≤ 64) (h1 : l ≠ nanT) (h2 : l ≠ infT) (h3 : l ≠ 45 :: infT) : readF l = ansF (sgI (minus1 l)) (bodyR (rest1 l)) := by
  unfold readF
  rw [if_neg (by omega), if_neg h1, if_neg h2, if_neg h3]
  split
  · exact readS_ans _ _
  · rename_i hn
    obtain ⟨e1, e2⟩ := rest_not l hn
    rw [e1, e2]
    exact readS_ans _ _
def DblAns (l : List UInt8) (sg v p : Int) (wd ok : Bool) : Prop :=
  (ok = false ∧ bodyR (rest1 l) = none) ∨
  (ok = true ∧ sg = sgI (minus1 l) ∧ 0 ≤ v ∧ v < 18446744073709551616 ∧ -200000 ≤ p ∧ p ≤ 200000 ∧ ∃ N low, bodyR (rest1 l) = some (N, low) ∧ exactP N low = numP v.toNat wd p)
theorem powR_range (r : List UInt8) (p : Int) (h : powR r = some p) : -100000 ≤ p ∧ p ≤ 100000 := by
  unfold powR at h
  split at h
  · rename_i sg ds
    by_cases c : (sg = 43 ∨ sg = 45) ∧ ds ≠ [] ∧ ds.length ≤ 5 ∧ ds.all digB = true
    · rw [if_pos c] at h
      obtain ⟨-, -, c3, c4⟩ := c
      have h2 := valD_le ds (fun c hc => of_decide_eq_true (List.all_eq_true.1 c4 c hc))
      have h3 : 10 ^ ds.length ≤ 10 ^ 5 := Nat.pow_le_pow_right (by decide) c3
      have h4 : (10 : Nat) ^ 5 = 100000 := by decide
      injection h with h
      by_cases g : sg = 45
      · rw [if_pos g] at h; omega
      · rw [if_neg g] at h; omega
    · rw [if_neg c] at h; cases h
  · cases h
/-- digits and a power -/
theorem dbl_ok (l d r : List UInt8) (sg v p pw : Int) (wd : Bool) (hd : rest1 l = 48 :: 120 :: d) (hs : sg = sgI (minus1 l)) (hD : DigAns d v p wd r true) (hp : powR r = some pw) : DblAns l sg v (p + pw) wd true := by
  have hr := powR_range r pw hp
  rcases hD with ⟨h, -⟩ | ⟨-, v0, v1, p0, p1, -, D, b, hb, he⟩
  · cases h
  · refine Or.inr ⟨rfl, hs, v0, v1, by omega, by omega, valH D, pw - 4 * b, ?_, ?_⟩
    · rw [hd]
      show readBody d = _
      rw [hb, readPow_powR, hp]; rfl
    · rw [he pw]
      congr 1; omega
theorem dbl_noPow (l d r : List UInt8) (sg v p : Int) (wd : Bool) (hd : rest1 l = 48 :: 120 :: d) (hD : DigAns d v p wd r true) (hp : powR r = none) : DblAns l sg 0 0 false false := by
  rcases hD with ⟨h, -⟩ | ⟨-, v0, v1, p0, p1, -, D, b, hb, he⟩
  · cases h
  · refine Or.inl ⟨rfl, ?_⟩
    rw [hd]
    show readBody d = _
    rw [hb, readPow_powR, hp]; rfl
theorem dbl_noDig (l d : List UInt8) (sg : Int) (hd : rest1 l = 48 :: 120 :: d) (hD : readBody d = none) : DblAns l sg 0 0 false false :=
  Or.inl ⟨rfl, by rw [hd]; exact hD⟩
theorem dbl_noMark (l : List UInt8) (sg : Int) (hd : ∀ d, rest1 l ≠ 48 :: 120 :: d) : DblAns l sg 0 0 false false := by
  refine Or.inl ⟨rfl, ?_⟩
  unfold bodyR
  split
  · rename_i r e; exact absurd e (hd r)
  · rfl
theorem after_alloc {w w2 : World} {x y z : Value} {t : TypeId} (hb : Below (w.alloc (.cells #[x, y, z] t)).heap.size (w.alloc (.cells #[x, y, z] t)) w2) :
    (∀ i, w2.cell? ⟨w.heap.size, i, none⟩ = #[x, y, z][i]?) ∧ (∀ i, w2.frozen? ⟨w.heap.size, i, none⟩ = false) ∧ Below w.heap.size w w2 := by
  have lt : w.heap.size < (w.alloc (.cells #[x, y, z] t)).heap.size := by simp
  refine ⟨fun i => ?_, fun i => ?_, bel_trans ((Below.refl _ _).alloc (Nat.le_refl _) _) hb⟩
  · rw [hb.cell lt]
    exact World.cell?_alloc_new w _ _ _
  · rw [hb.frozen lt, frozen?_alloc_cells, World.frozen?]
    have : w.heap[w.heap.size]? = none := Array.getElem?_eq_none (Nat.le_refl _)
    rw [this]
set_option maxHeartbeats 1000000 in
theorem readDouble_core (s U G : ByteArray) (m mk : Bool) (w : World) (hG : G.size ≤ 64)
    (c1 : ∀ w, Calls Tryd.prog 53 #[.string s, .string ⟨#[45]⟩] w fun e w' => e = .returned (.tuple #[.string U, .bool m]) ∧ w' = w)
    (c2 : ∀ w, Calls Tryd.prog 53 #[.string U, .string ⟨#[48, 120]⟩] w fun e w' => e = .returned (.tuple #[.string G, .bool mk]) ∧ w' = w)
    (l : List UInt8) (hm : m = minus1 l) (hmk : (mk = true ∧ rest1 l = 48 :: 120 :: G.data.toList) ∨ (mk = false ∧ ∀ d, rest1 l ≠ 48 :: 120 :: d)) :
    Calls Tryd.prog 51 #[.string s] w fun e w' => (∃ sg v p wd ok, e = .returned (.tuple #[.int .u64 sg, .agg #[.int .u64 v, .int .i64 p, .bool wd], .bool ok]) ∧ DblAns l sg v p wd ok) ∧ Below w.heap.size w w' := by
  have HM := hid hm
  clear hm
  rcases hmk with ⟨rfl, hd⟩ | ⟨rfl, hd⟩
  · have HD := hid hd
    clear hd
    cases m with
    | false =>
      go_enter Tryd.func51, Tryd.ntmps51
      go_upto_region 8 with (first | (go_at_call 53; (first | (with_reducible refine (c1 _).mono ?_) | (with_reducible refine (c2 _).mono ?_)); rintro e w' ⟨rfl, rfl⟩) | (go_at_call 58; refine (readDigits_c G hG _).mono ?_; rintro e w2 ⟨⟨v, p, wd, r, ok, rfl, hans⟩, hb⟩; obtain ⟨hc, hf, hB⟩ := after_alloc hb; (have a0 := hc 0); (have a1 := hc 1); (have a2 := hc 2); (have f0 := hf 0); (have f1 := hf 1); (have f2 := hf 2); simp at a0 a1 a2))
      generalize hW : World.setCell (World.setCell (World.setCell w2 _ _) _ _) _ _ = W3
      obtain ⟨c3, g3⟩ := stored3 hW hc (Nat.le_refl _) hB
      have z3 : ∀ i, W3.frozen? ⟨w.heap.size, i, none⟩ = false := by
        rw [← hW]; intro i; rw [World.frozen?_setCell, World.frozen?_setCell, World.frozen?_setCell]; exact hf i
      clear hW hb a0 a1 a2 f0 f1 f2 hc hf hB
      have a0 := c3 0
      have a1 := c3 1
      have a2 := c3 2
      have f0 := z3 0
      have f1 := z3 1
      have f2 := z3 2
      simp at a0 a1 a2
      have C3 := hid c3
      have Z3 := hid z3
      clear c3 z3
      cases ok with
      | false =>
        have hn : readBody G.data.toList = none := by
          rcases hans with ⟨-, h⟩ | ⟨h, -⟩
          · exact h
          · cases h
        have R := hid (dbl_noDig l G.data.toList 0 HD.out hn)
        clear hn hans
        go_wp2_with fail
        generalize hV : World.setCell (World.setCell (World.setCell _ _ _) _ _) _ _ = V
        obtain ⟨fR, gR⟩ := stored3 hV C3.out (Nat.le_refl _) g3
        exact bodyPost_ret (v := .tuple #[.int .u64 0, .agg #[.int .u64 0, .int .i64 0, .bool false], .bool false]) (by simp [results, Tryd.results51, go_sem, fR]) rfl ⟨⟨_, _, _, _, _, rfl, R.out⟩, gR⟩
      | true =>
        have rb : -1000 ≤ p ∧ p ≤ 1000 ∧ r.length ≤ G.data.toList.length := by
          rcases hans with ⟨h, -⟩ | ⟨-, -, -, h1, h2, h3, -⟩
          · cases h
          · exact ⟨h1, h2, h3⟩
        obtain ⟨p0, p1, rl⟩ := rb
        have hsz : (⟨r.toArray⟩ : ByteArray).size = r.length := by rw [← size_list]
        have gl := size_list G
        have cp := readPower_c ⟨r.toArray⟩ (by unfold maxLen; omega)
        clear hsz gl rl
        cases hp : powR r with
        | none =>
          have R := hid (dbl_noPow l G.data.toList r 0 v p wd HD.out hans hp)
          have ep : powR (⟨r.toArray⟩ : ByteArray).data.toList = none := hp
          rw [ep] at cp
          clear hans hp ep
          go_wp2_with (first | (go_at_call 59; (with_reducible refine (cp _).mono ?_); rintro e w' ⟨rfl, rfl⟩))
          generalize hV : World.setCell (World.setCell (World.setCell _ _ _) _ _) _ _ = V
          obtain ⟨fR, gR⟩ := stored3 hV C3.out (Nat.le_refl _) g3
          exact bodyPost_ret (v := .tuple #[.int .u64 0, .agg #[.int .u64 0, .int .i64 0, .bool false], .bool false]) (by simp [results, Tryd.results51, go_sem, fR]) rfl ⟨⟨_, _, _, _, _, rfl, R.out⟩, gR⟩
        | some pw =>
          obtain ⟨q0, q1⟩ := powR_range r pw hp
          have R := hid (dbl_ok l G.data.toList r 0 v p pw wd HD.out (by rw [← HM.out]; rfl) hans hp)
          have ep : powR (⟨r.toArray⟩ : ByteArray).data.toList = some pw := hp
          rw [ep] at cp
          clear hans hp ep
          go_upto_region 14 with (first | (go_at_call 59; (with_reducible refine (cp _).mono ?_); rintro e w' ⟨rfl, rfl⟩))
          generalize hV : World.setCell _ _ _ = V
          have cV : ∀ i, V.cell? ⟨w.heap.size, i, none⟩ = #[Value.int .u64 v, .int .i64 (p + pw), .bool wd][i]? := by rw [← hV]; exact set_at C3.out _ (show 1 < 3 by decide)
          have gV : Below w.heap.size w V := by rw [← hV]; exact g3.setCell (p := ⟨w.heap.size, 1, none⟩) (Nat.le_refl _) _
          have zV : ∀ i, V.frozen? ⟨w.heap.size, i, none⟩ = false := by rw [← hV]; intro i; rw [World.frozen?_setCell]; exact Z3.out i
          have b0 := cV 0
          have b1 := cV 1
          have b2 := cV 2
          have y0 := zV 0
          have y1 := zV 1
          have y2 := zV 2
          simp at b0 b1 b2
          have CV := hid cV
          clear a0 a1 a2 f0 f1 f2 hV cV zV
          go_region
          go_wp2_with fail
          generalize hX : World.setCell (World.setCell (World.setCell _ _ _) _ _) _ _ = X
          obtain ⟨fR, gR⟩ := stored3 hX CV.out (Nat.le_refl _) gV
          exact bodyPost_ret (v := .tuple #[.int .u64 0, .agg #[.int .u64 v, .int .i64 (p + pw), .bool wd], .bool true]) (by simp [results, Tryd.results51, go_sem, fR]) rfl ⟨⟨_, _, _, _, _, rfl, R.out⟩, gR.drew⟩
    | true =>
      go_enter Tryd.func51, Tryd.ntmps51
      go_upto_region 8 with (first | (go_at_call 53; (first | (with_reducible refine (c1 _).mono ?_) | (with_reducible refine (c2 _).mono ?_)); rintro e w' ⟨rfl, rfl⟩) | (go_at_call 58; refine (readDigits_c G hG _).mono ?_; rintro e w2 ⟨⟨v, p, wd, r, ok, rfl, hans⟩, hb⟩; obtain ⟨hc, hf, hB⟩ := after_alloc hb; (have a0 := hc 0); (have a1 := hc 1); (have a2 := hc 2); (have f0 := hf 0); (have f1 := hf 1); (have f2 := hf 2); simp at a0 a1 a2))
      generalize hW : World.setCell (World.setCell (World.setCell w2 _ _) _ _) _ _ = W3
      obtain ⟨c3, g3⟩ := stored3 hW hc (Nat.le_refl _) hB
      have z3 : ∀ i, W3.frozen? ⟨w.heap.size, i, none⟩ = false := by
        rw [← hW]; intro i; rw [World.frozen?_setCell, World.frozen?_setCell, World.frozen?_setCell]; exact hf i
      clear hW hb a0 a1 a2 f0 f1 f2 hc hf hB
      have a0 := c3 0
      have a1 := c3 1
      have a2 := c3 2
      have f0 := z3 0
      have f1 := z3 1
      have f2 := z3 2
      simp at a0 a1 a2
      have C3 := hid c3
      have Z3 := hid z3
      clear c3 z3
      cases ok with
      | false =>
        have hn : readBody G.data.toList = none := by
          rcases hans with ⟨-, h⟩ | ⟨h, -⟩
          · exact h
          · cases h
        have R := hid (dbl_noDig l G.data.toList 0 HD.out hn)
        clear hn hans
        go_wp2_with fail
        generalize hV : World.setCell (World.setCell (World.setCell _ _ _) _ _) _ _ = V
        obtain ⟨fR, gR⟩ := stored3 hV C3.out (Nat.le_refl _) g3
        exact bodyPost_ret (v := .tuple #[.int .u64 0, .agg #[.int .u64 0, .int .i64 0, .bool false], .bool false]) (by simp [results, Tryd.results51, go_sem, fR]) rfl ⟨⟨_, _, _, _, _, rfl, R.out⟩, gR⟩
      | true =>
        have rb : -1000 ≤ p ∧ p ≤ 1000 ∧ r.length ≤ G.data.toList.length := by
          rcases hans with ⟨h, -⟩ | ⟨-, -, -, h1, h2, h3, -⟩
          · cases h
          · exact ⟨h1, h2, h3⟩
        obtain ⟨p0, p1, rl⟩ := rb
        have hsz : (⟨r.toArray⟩ : ByteArray).size = r.length := by rw [← size_list]
        have gl := size_list G
        have cp := readPower_c ⟨r.toArray⟩ (by unfold maxLen; omega)
        clear hsz gl rl
        cases hp : powR r with
        | none =>
          have R := hid (dbl_noPow l G.data.toList r 0 v p wd HD.out hans hp)
          have ep : powR (⟨r.toArray⟩ : ByteArray).data.toList = none := hp
          rw [ep] at cp
          clear hans hp ep
          go_wp2_with (first | (go_at_call 59; (with_reducible refine (cp _).mono ?_); rintro e w' ⟨rfl, rfl⟩))
          generalize hV : World.setCell (World.setCell (World.setCell _ _ _) _ _) _ _ = V
          obtain ⟨fR, gR⟩ := stored3 hV C3.out (Nat.le_refl _) g3
          exact bodyPost_ret (v := .tuple #[.int .u64 0, .agg #[.int .u64 0, .int .i64 0, .bool false], .bool false]) (by simp [results, Tryd.results51, go_sem, fR]) rfl ⟨⟨_, _, _, _, _, rfl, R.out⟩, gR⟩
        | some pw =>
          obtain ⟨q0, q1⟩ := powR_range r pw hp
          have R := hid (dbl_ok l G.data.toList r 9223372036854775808 v p pw wd HD.out (by rw [← HM.out]; rfl) hans hp)
          have ep : powR (⟨r.toArray⟩ : ByteArray).data.toList = some pw := hp
          rw [ep] at cp
          clear hans hp ep
          go_upto_region 14 with (first | (go_at_call 59; (with_reducible refine (cp _).mono ?_); rintro e w' ⟨rfl, rfl⟩))
          generalize hV : World.setCell _ _ _ = V
          have cV : ∀ i, V.cell? ⟨w.heap.size, i, none⟩ = #[Value.int .u64 v, .int .i64 (p + pw), .bool wd][i]? := by rw [← hV]; exact set_at C3.out _ (show 1 < 3 by decide)
          have gV : Below w.heap.size w V := by rw [← hV]; exact g3.setCell (p := ⟨w.heap.size, 1, none⟩) (Nat.le_refl _) _
          have zV : ∀ i, V.frozen? ⟨w.heap.size, i, none⟩ = false := by rw [← hV]; intro i; rw [World.frozen?_setCell]; exact Z3.out i
          have b0 := cV 0
          have b1 := cV 1
          have b2 := cV 2
          have y0 := zV 0
          have y1 := zV 1
          have y2 := zV 2
          simp at b0 b1 b2
          have CV := hid cV
          clear a0 a1 a2 f0 f1 f2 hV cV zV
          go_region
          go_wp2_with fail
          generalize hX : World.setCell (World.setCell (World.setCell _ _ _) _ _) _ _ = X
          obtain ⟨fR, gR⟩ := stored3 hX CV.out (Nat.le_refl _) gV
          exact bodyPost_ret (v := .tuple #[.int .u64 9223372036854775808, .agg #[.int .u64 v, .int .i64 (p + pw), .bool wd], .bool true]) (by simp [results, Tryd.results51, go_sem, fR]) rfl ⟨⟨_, _, _, _, _, rfl, R.out⟩, gR.drew⟩
  · have R := hid (dbl_noMark l 0 hd)
    clear hd
    cases m <;>
    · go_enter Tryd.func51, Tryd.ntmps51
      go_wp2_with (go_at_call 53; (first | (with_reducible refine (c1 _).mono ?_) | (with_reducible refine (c2 _).mono ?_)); rintro e w' ⟨rfl, rfl⟩)
      exact bodyPost_ret (v := .tuple #[.int .u64 0, .agg #[.int .u64 0, .int .i64 0, .bool false], .bool false]) (by simp [results, Tryd.results51, go_sem]) rfl ⟨⟨_, _, _, _, _, rfl, R.out⟩, (Below.refl _ _).alloc (Nat.le_refl _) _⟩
theorem readDouble_c (s : ByteArray) (hs : s.size ≤ 64) (w : World) :
    Calls Tryd.prog 51 #[.string s] w fun e w' => (∃ sg v p wd ok, e = .returned (.tuple #[.int .u64 sg, .agg #[.int .u64 v, .int .i64 p, .bool wd], .bool ok]) ∧ DblAns s.data.toList sg v p wd ok) ∧ Below w.heap.size w w' := by
  have sz := size_list s
  have rl := rest_len s.data.toList
  have hsz : ∀ x : List UInt8, (⟨x.toArray⟩ : ByteArray).size = x.length := fun x => by rw [← size_list]
  have c2 := fun w => cutPrefix_c ⟨(rest1 s.data.toList).toArray⟩ ⟨#[48, 120]⟩ w
  rcases prefix_two (rest1 s.data.toList) 48 120 with ⟨h1, h2⟩ | ⟨h1, h2, h3⟩
  · have e1 : Lib.hasPrefix (⟨(rest1 s.data.toList).toArray⟩ : ByteArray).data.toList (⟨#[48, 120]⟩ : ByteArray).data.toList = true := h1
    generalize hd : Lib.trimPrefix (rest1 s.data.toList) [48, 120] = d at h2
    have e2 : Lib.trimPrefix (⟨(rest1 s.data.toList).toArray⟩ : ByteArray).data.toList (⟨#[48, 120]⟩ : ByteArray).data.toList = d := hd
    rw [e1, e2] at c2
    have dl : d.length ≤ (rest1 s.data.toList).length := by rw [h2]; simp; omega
    exact readDouble_core s _ _ _ _ w (by rw [hsz]; omega) (cutMinus_c s) c2 s.data.toList rfl (Or.inl ⟨rfl, h2⟩)
  · have e1 : Lib.hasPrefix (⟨(rest1 s.data.toList).toArray⟩ : ByteArray).data.toList (⟨#[48, 120]⟩ : ByteArray).data.toList = false := h1
    have e2 : Lib.trimPrefix (⟨(rest1 s.data.toList).toArray⟩ : ByteArray).data.toList (⟨#[48, 120]⟩ : ByteArray).data.toList = rest1 s.data.toList := h2
    rw [e1, e2] at c2
    exact readDouble_core s _ _ _ _ w (by rw [hsz]; omega) (cutMinus_c s) c2 s.data.toList rfl (Or.inr ⟨rfl, h3⟩)
end Go.Proofs.YtdoojooepkdlhaaDoor.W
