/- Package lex: doubles; marks. -/
import Derived.Test.YtdoojooepkdlhaaDoorX1c
namespace Go.Proofs.YtdoojooepkdlhaaDoor.W
open Go.ChangeShapes Go.WideShapes Go.RowKit Go.Shelf
set_option linter.unusedVariables false
theorem pre1 (l : List UInt8) (c : UInt8) : Lib.hasPrefix l [c] = true ↔ ∃ q, l = c :: q := by
  unfold Lib.hasPrefix
  cases l with
  | nil => simp [List.isPrefixOf]
  | cons d q =>
    simp [List.isPrefixOf]
    constructor
    · intro h; exact h.symm
    · intro h; exact h.symm
theorem powN_not (l : List UInt8) (h : Lib.hasPrefix l [112] = false) : powN l = 0 := by
  cases l with
  | nil => rfl
  | cons c q =>
    have hc : c ≠ 112 := by rintro rfl; rw [(pre1 _ _).2 ⟨q, rfl⟩] at h; cases h
    unfold powN
    split <;> first | rfl | (rename_i e; injection e with e1; exact absurd e1 hc)
theorem powN_bare (q : List UInt8) (h1 : Lib.hasPrefix q [43] = false) (h2 : Lib.hasPrefix q [45] = false) : powN (112 :: q) = 1 + runN digB q := by
  cases q with
  | nil => rfl
  | cons c d =>
    have c1 : c ≠ 43 := by rintro rfl; rw [(pre1 _ _).2 ⟨d, rfl⟩] at h1; cases h1
    have c2 : c ≠ 45 := by rintro rfl; rw [(pre1 _ _).2 ⟨d, rfl⟩] at h2; cases h2
    unfold powN
    split
    · rename_i e; injection e with _ e; injection e with e; exact absurd e c1
    · rename_i e; injection e with _ e; injection e with e; exact absurd e c2
    · rename_i e; injection e with _ e; rw [e]
    · rename_i e; exact absurd rfl (e _)
theorem drop_at (s : ByteArray) (k : Nat) (q : List UInt8) (h : s.data.toList.drop k = q) : s.extract k s.size = ⟨q.toArray⟩ := by rw [cut_from, h]
set_option maxHeartbeats 400000 in
theorem power_core (s t u : ByteArray) (b2 b3 : Bool) (n k : Nat) (h1 : 1 ≤ s.size) (hs : s.size ≤ 1000000) (ht : s.extract 1 s.size = t) (hu : s.extract k s.size = u) (hk : k = if (b2 || b3) = true then 2 else 1) (hk2 : k ≤ s.size) (hn : n ≤ s.size)
    (c1 : ∀ w, Calls Tryd.prog 38 #[.string s, .string ⟨#[112]⟩] w fun e w' => e = .returned (.bool true) ∧ w' = w) (c2 : ∀ w, Calls Tryd.prog 38 #[.string t, .string ⟨#[43]⟩] w fun e w' => e = .returned (.bool b2) ∧ w' = w) (c3 : ∀ w, Calls Tryd.prog 38 #[.string t, .string ⟨#[45]⟩] w fun e w' => e = .returned (.bool b3) ∧ w' = w)
    (cr : ∀ w, Calls Tryd.prog 31 #[.string u, .func (.func 35) #[] #[]] w fun e w' => e = .returned (.int .i64 (n : Nat)) ∧ w' = w) (w : World) : Calls Tryd.prog 40 #[.string s] w fun e w' => e = .returned (.int .i64 ((k + n : Nat) : Int)) ∧ w' = w := by
  have R := hid (show ((k + n : Nat) : Int) = (k : Int) + n by omega)
  have e1 : IntKind.i64.wrap (1 + (n : Int)) = 1 + (n : Int) := by rw [IntKind.wrap_i64]; omega
  have e2 : IntKind.i64.wrap (2 + (n : Int)) = 2 + (n : Int) := by rw [IntKind.wrap_i64]; omega
  have g1 : (1 : Int) ≤ s.size := by omega
  rw [R.out]
  cases b2 <;> cases b3 <;> simp only [Bool.or_false, Bool.or_true, Bool.false_eq_true, if_true, if_false] at hk <;> subst hk
  all_goals (
    first | (have g2 : (2 : Int) ≤ s.size := by omega) | skip
    first | (have hut : t = u := ht.symm.trans hu; subst hut; clear hu) | skip
    clear R hn h1
    go_enter Tryd.func40, Tryd.ntmps40
    go_wp2_with (first | (go_at_call 38; (with_reducible refine (c1 _).mono ?_); rintro e w' ⟨rfl, rfl⟩) | (go_at_call 38; (with_reducible refine (c2 _).mono ?_); rintro e w' ⟨rfl, rfl⟩) | (go_at_call 38; (with_reducible refine (c3 _).mono ?_); rintro e w' ⟨rfl, rfl⟩) | (go_at_call 31; (with_reducible refine (cr _).mono ?_); rintro e w' ⟨rfl, rfl⟩))
    go_ret
    exact ⟨rfl, rfl⟩)
theorem powerSize_c (s : ByteArray) (hs : s.size ≤ 1000000) (w : World) : Calls Tryd.prog 40 #[.string s] w fun e w' => e = .returned (.int .i64 (powN s.data.toList : Nat)) ∧ w' = w := by
  have sl := size_list s
  have c1 := fun w => hasPrefix_c s ⟨#[112]⟩ w
  cases hp : Lib.hasPrefix s.data.toList [112] with
  | false =>
    rw [powN_not _ hp]
    have e : Lib.hasPrefix s.data.toList (⟨#[112]⟩ : ByteArray).data.toList = false := hp
    rw [e] at c1
    clear hp e sl hs
    go_enter Tryd.func40, Tryd.ntmps40
    go_wp2_with (go_at_call 38; (with_reducible refine (c1 _).mono ?_); rintro e w' ⟨rfl, rfl⟩)
    go_ret
    exact ⟨rfl, rfl⟩
  | true =>
    have e : Lib.hasPrefix s.data.toList (⟨#[112]⟩ : ByteArray).data.toList = true := hp
    rw [e] at c1
    obtain ⟨q, hq⟩ := (pre1 _ _).1 hp
    have t1 := drop_at s 1 q (by rw [hq]; rfl)
    have z1 : 1 ≤ s.size := by rw [hq] at sl; simp at sl; omega
    have tl : (⟨q.toArray⟩ : ByteArray).data.toList = q := by simp
    have c2 := fun w => hasPrefix_c ⟨q.toArray⟩ ⟨#[43]⟩ w
    have c3 := fun w => hasPrefix_c ⟨q.toArray⟩ ⟨#[45]⟩ w
    rw [tl] at c2 c3
    have el : ∀ k, s.data.toList.drop k = (112 :: q).drop k := fun k => by rw [hq]
    have lq : q.length + 1 = s.size := by rw [hq] at sl; simpa using sl
    have fin : ∀ (k : Nat) (d : List UInt8), (112 :: q).drop k = d → k ≤ s.size → ∀ w, Calls Tryd.prog 31 #[.string ⟨d.toArray⟩, .func (.func 35) #[] #[]] w fun e w' => e = .returned (.int .i64 (runN digB d : Nat)) ∧ w' = w := fun k d hd hk w => by
      have hz : (⟨d.toArray⟩ : ByteArray).size = d.length := rfl
      have : d.length ≤ s.size := by rw [← hd, List.length_drop]; simp; omega
      have := run_g ⟨d.toArray⟩ (by rw [hz]; unfold maxLen; omega) 35 digB eg_isDigit isDigit_c w
      simpa using this
    have hl : ∀ (k : Nat) (d : List UInt8), (112 :: q).drop k = d → runN digB d ≤ s.size := fun k d hd => by
      have h1 := runN_le digB d
      have h2 : d.length ≤ s.size := by rw [← hd, List.length_drop]; simp; omega
      omega
    rw [hq]
    cases h2 : Lib.hasPrefix q [43] with
    | true =>
      obtain ⟨d, hd⟩ := (pre1 _ _).1 h2
      have e2 : Lib.hasPrefix q (⟨#[43]⟩ : ByteArray).data.toList = true := h2
      rw [e2] at c2
      have hpw : powN (112 :: q) = 2 + runN digB d := by rw [hd]; rfl
      have hdr : (112 :: q).drop 2 = d := by rw [hd]; rfl
      have hz : 2 ≤ s.size := by rw [hd] at lq; simp at lq; omega
      rw [hpw]
      exact power_core s ⟨q.toArray⟩ ⟨d.toArray⟩ true _ _ 2 z1 hs t1 (drop_at s 2 d (by rw [el, hdr])) rfl hz (hl 2 d hdr) c1 c2 c3 (fin 2 d hdr hz) w
    | false =>
      have e2 : Lib.hasPrefix q (⟨#[43]⟩ : ByteArray).data.toList = false := h2
      rw [e2] at c2
      cases h3 : Lib.hasPrefix q [45] with
      | true =>
        obtain ⟨d, hd⟩ := (pre1 _ _).1 h3
        have e3 : Lib.hasPrefix q (⟨#[45]⟩ : ByteArray).data.toList = true := h3
        rw [e3] at c3
        have hpw : powN (112 :: q) = 2 + runN digB d := by rw [hd]; rfl
        have hdr : (112 :: q).drop 2 = d := by rw [hd]; rfl
        have hz : 2 ≤ s.size := by rw [hd] at lq; simp at lq; omega
        rw [hpw]
        exact power_core s ⟨q.toArray⟩ ⟨d.toArray⟩ false true _ 2 z1 hs t1 (drop_at s 2 d (by rw [el, hdr])) rfl hz (hl 2 d hdr) c1 c2 c3 (fin 2 d hdr hz) w
      | false =>
        have e3 : Lib.hasPrefix q (⟨#[45]⟩ : ByteArray).data.toList = false := h3
        rw [e3] at c3
        rw [powN_bare q h2 h3]
        exact power_core s ⟨q.toArray⟩ ⟨q.toArray⟩ false false _ 1 z1 hs t1 t1 rfl z1 (hl 1 q rfl) c1 c2 c3 (fin 1 q rfl z1) w
theorem Tabs.on {w : World} (h : Tabs w) (o : Obj) : Tabs (w.alloc o) := h.below ((Below.refl _ w).alloc (Nat.le_refl _) o)
theorem pre2 (l : List UInt8) : Lib.hasPrefix l hexT = decide (l.take 2 = hexT) := by
  unfold Lib.hasPrefix hexT
  rw [Bool.eq_iff_iff, List.isPrefixOf_iff_prefix, decide_eq_true_eq]
  constructor
  · rintro ⟨r, rfl⟩; rfl
  · intro h; exact ⟨l.drop 2, by rw [← h, List.take_append_drop]⟩
theorem row_keepX {w w' : World} {b : Nat} {o : Obj} (h : w.heap[b]? = some o) (hB : Below w.heap.size w w') : w'.heap[b]? = some o := (hB.block b (Array.getElem?_eq_some_iff.1 h).1).trans h
theorem row_cellsX {w : World} {b : Nat} {l : Array Value} {t : TypeId} (h : w.heap[b]? = some (.cells l t (0, 0))) : ∀ j, w.cell? ⟨b, j, none⟩ = l[j]? := fun j => cell_of_row _ b j _ _ _ h
theorem row_thawX {w : World} {b : Nat} {l : Array Value} {t : TypeId} (h : w.heap[b]? = some (.cells l t (0, 0))) : ∀ j, w.frozen? ⟨b, j, none⟩ = false := fun j => by simp only [World.frozen?, h]; simp
set_option maxHeartbeats 1000000 in
theorem double_core (s t u v : ByteArray) (a b n : Nat) (x y : Int) (hs : s.size ≤ 1000000) (h2 : 2 ≤ s.size) (ha : 2 + a ≤ s.size) (hb : 2 + a + b ≤ s.size) (ht : s.extract 2 s.size = t) (hu : s.extract (2 + a) s.size = u) (hv : s.extract 0 (2 + a + b) = v) (hn : n = 2 + a + b)
    (c1 : ∀ w, Calls Tryd.prog 38 #[.string s, .string ⟨#[48, 120]⟩] w fun e w' => e = .returned (.bool true) ∧ w' = w) (cr : ∀ w, Calls Tryd.prog 31 #[.string t, .func (.func 39) #[] #[]] w fun e w' => e = .returned (.int .i64 (a : Nat)) ∧ w' = w)
    (cw : ∀ w, Calls Tryd.prog 40 #[.string u] w fun e w' => e = .returned (.int .i64 (b : Nat)) ∧ w' = w) (w : World)
    (cp : Calls Tryd.prog 41 #[.string v] (w.alloc (.cells #[.int .i64 0, .int .i64 0, .string ⟨#[]⟩, .int .i64 0, .int .u64 0, .int .i64 0, .int .i64 0] 45)) fun e w' => e = .returned (.tuple #[.int .u64 x, .int .i64 y]) ∧ Below (w.alloc (.cells #[.int .i64 0, .int .i64 0, .string ⟨#[]⟩, .int .i64 0, .int .u64 0, .int .i64 0, .int .i64 0] 45)).heap.size (w.alloc (.cells #[.int .i64 0, .int .i64 0, .string ⟨#[]⟩, .int .i64 0, .int .u64 0, .int .i64 0, .int .i64 0] 45)) w') :
    Calls Tryd.prog 22 #[.string s] w fun e w' => e = .returned (pv (if y = 0 then okPc ⟨5, ⟨#[]⟩, 0, x⟩ n else badPc n 62)) ∧ Below w.heap.size w w' := by
  have hB1 : Below w.heap.size w (w.alloc (.cells #[.int .i64 0, .int .i64 0, .string ⟨#[]⟩, .int .i64 0, .int .u64 0, .int .i64 0, .int .i64 0] 45)) := (Below.refl _ w).alloc (Nat.le_refl _) _
  have FR := hid (World.alloc_heap_new w (.cells #[.int .i64 0, .int .i64 0, .string ⟨#[]⟩, .int .i64 0, .int .u64 0, .int .i64 0, .int .i64 0] 45))
  have HB := hid hB1
  have HZ := hid (show w.heap.size < (w.alloc (.cells #[.int .i64 0, .int .i64 0, .string ⟨#[]⟩, .int .i64 0, .int .u64 0, .int .i64 0, .int .i64 0] 45)).heap.size by rw [World.size_alloc]; omega)
  have e1 : IntKind.i64.wrap (2 + (a : Int)) = ((2 + a : Nat) : Int) := by rw [IntKind.wrap_i64]; omega
  have e2 : IntKind.i64.wrap (((2 + a : Nat) : Int) + (b : Int)) = ((2 + a + b : Nat) : Int) := by rw [IntKind.wrap_i64]; omega
  clear hB1
  subst hn
  generalize 2 + a + b = n at *
  generalize 2 + a = m at *
  by_cases c : y = 0
  · subst c
    rw [if_pos rfl]
    unfold pv okPc
    go_enter Tryd.func22, Tryd.ntmps22
    go_wp2_with (first | (go_at_call 38; (with_reducible refine (c1 _).mono ?_); rintro e w' ⟨rfl, rfl⟩) | (go_at_call 31; (with_reducible refine (cr _).mono ?_); rintro e w' ⟨rfl, rfl⟩) | (go_at_call 40; (with_reducible refine (cw _).mono ?_); rintro e w' ⟨rfl, rfl⟩) | (go_at_call 41; (with_reducible refine cp.mono ?_); rintro e w2 ⟨rfl, hB2⟩; (have hr := row_keepX FR.out hB2); (have ec := row_cellsX hr); (have ef := row_thawX hr); (have HR := hid hr); (replace HB := hid (HB.out.trans (hB2.mono HB.out.size))); clear hr hB2 cp FR))
    refine bodyPost_ret (pc_ret rfl _ _ w.heap.size _ _ _ _ _ _ _ (0, 0) rfl (seven_set HR.out _ _ _ _ _ _ _)) rfl ?_
    exact ⟨rfl, seven_below HB.out (Nat.le_refl _) _ _ _ _ _ _ _⟩
  · rw [if_neg c]
    unfold pv badPc
    go_enter Tryd.func22, Tryd.ntmps22
    go_wp2_with (first | (go_at_call 38; (with_reducible refine (c1 _).mono ?_); rintro e w' ⟨rfl, rfl⟩) | (go_at_call 31; (with_reducible refine (cr _).mono ?_); rintro e w' ⟨rfl, rfl⟩) | (go_at_call 40; (with_reducible refine (cw _).mono ?_); rintro e w' ⟨rfl, rfl⟩) | (go_at_call 41; (with_reducible refine cp.mono ?_); rintro e w2 ⟨rfl, hB2⟩; (have hr := row_keepX FR.out hB2); (have ec := row_cellsX hr); (have ef := row_thawX hr); (have HR := hid hr); (replace HB := hid (HB.out.trans (hB2.mono HB.out.size))); clear hr hB2 cp FR))
    refine bodyPost_ret (pc_ret rfl _ _ w.heap.size _ _ _ _ _ _ _ (0, 0) rfl (seven_set HR.out _ _ _ _ _ _ _)) rfl ?_
    exact ⟨rfl, seven_below HB.out (Nat.le_refl _) _ _ _ _ _ _ _⟩
end Go.Proofs.YtdoojooepkdlhaaDoor.W
