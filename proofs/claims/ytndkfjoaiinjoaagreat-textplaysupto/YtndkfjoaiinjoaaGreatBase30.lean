import Derived.Test.YtndkfjoaiinjoaaGreatBase26
import Derived.Test.YtndkfjoaiinjoaaGreatBase29
/- Strings: parts of what was put together; how they compare. -/
namespace Go.Proofs.YtndkfjoaiinjoaaGreat.W
open Go.ChangeShapes Go.WideShapes Go.RowKit Go.Shelf
set_option linter.unusedVariables false
theorem part_left (s t : ByteArray) : (s ++ t).extract 0 s.size = s := by
  apply ByteArray.ext
  rw [ByteArray.data_extract, ByteArray.data_append]
  show (s.data ++ t.data).extract 0 s.data.size = s.data
  simp
theorem part_right (s t : ByteArray) : (s ++ t).extract s.size (s.size + t.size) = t := by
  apply ByteArray.ext
  rw [ByteArray.data_extract, ByteArray.data_append]
  generalize hx : s.data = x
  generalize hy : t.data = y
  have e1 : s.size = x.size := by rw [← hx]; rfl
  have e2 : t.size = y.size := by rw [← hy]; rfl
  rw [e1, e2]
  apply Array.toList_inj.1
  simp
theorem ba_toList (s : ByteArray) : s.toList = s.data.toList := by
  have := ByteArray.toList_eq s
  exact this
theorem less_ord (x : List UInt8) : ∀ y, Op.bytesLess x y = decide (ordL (x.map UInt8.toNat) (y.map UInt8.toNat) < 0) := by
  induction x with
  | nil => intro y; cases y <;> simp [Op.bytesLess, ordL]
  | cons a x ih => intro y; cases y with
    | nil => simp [Op.bytesLess, ordL]
    | cons b y =>
      simp only [Op.bytesLess, List.map_cons, ordL]
      by_cases c : a = b
      · subst c
        have : ¬ a < a := by simp
        simp [ih]
      · have c' : ¬ a.toNat = b.toNat := fun e => c (UInt8.toNat_inj.1 e)
        rw [if_neg c']
        by_cases d : a < b
        · have d' : a.toNat < b.toNat := UInt8.lt_iff_toNat_lt.1 d
          simp [d, d']
        · have d' : ¬ a.toNat < b.toNat := fun e => d (UInt8.lt_iff_toNat_lt.2 e)
          simp [d, d', c]
theorem eq_ord (s t : ByteArray) : (s.toList == t.toList) = decide (ordL (byL s) (byL t) = 0) := by
  by_cases c : s = t
  · subst c
    simp [ordL_self]
  · have h1 : s.toList ≠ t.toList := by
      intro e
      rw [ba_toList, ba_toList] at e
      exact c (ByteArray.ext (Array.toList_inj.1 e))
    have h2 : ordL (byL s) (byL t) ≠ 0 := by
      intro e
      have e2 := ordL_eq _ _ e
      unfold byL at e2
      have e3 : s.data.toList = t.data.toList := by
        refine List.map_inj_right (f := UInt8.toNat) (fun a b h => UInt8.toNat_inj.1 h) |>.1 e2
      exact c (ByteArray.ext (Array.toList_inj.1 e3))
    simp [h1, h2]
theorem lt_ord (s t : ByteArray) : Op.bytesLess s.toList t.toList = decide (ordL (byL s) (byL t) < 0) := by
  rw [less_ord, ba_toList, ba_toList]; rfl
theorem ordL_range (x : List Nat) : ∀ y, ordL x y = -1 ∨ ordL x y = 0 ∨ ordL x y = 1 := by
  induction x with
  | nil => intro y; cases y <;> simp [ordL]
  | cons a x ih => intro y; cases y with
    | nil => simp [ordL]
    | cons b y =>
      unfold ordL
      split
      · exact ih y
      · split <;> simp
/-- behind a string that was boxed, what is wanted of it -/
def TPost (W0 : World) (hb : Nat) (H : List (Option Hc)) (u : Nat) (K : Nat → Prop) (t : ByteArray) (e : Ending) (w' : World) : Prop := ∃ (w : Nat) (H' : List (Option Hc)), e = .returned (.tuple #[.int .u64 (w : Nat), .int .i64 0]) ∧ Hf W0 w' hb H' u K ∧ Ext H H' ∧ IsTxt H' w t ∧ sumH H' ≤ sumH H + tneed t ∧ H'.length ≤ H.length + 1
section
variable {W0 W W1 W' : World} {hb : Nat} {H : List (Option Hc)} {u : Nat} {K K' : Nat → Prop}
theorem TxtPost.t {t : ByteArray} {e : Ending} (h : TxtPost W0 W1 hb H u K t e W') : TPost W0 hb H u K t e W' := by
  obtain ⟨w, H', h1, h2, h3, h4, h5, h6, _⟩ := h
  exact ⟨w, H', h1, h2, h3, h4, h5, h6⟩
theorem box0 (q : Hf W0 W1 hb H u K) (t : ByteArray) (hl : t.size ≤ 8388608) (hf : sumH H + tneed t ≤ u) (hH : H.length ≤ 1000000) : Calls Tryz.prog 16 #[.pointer (some ⟨hb, 0, none⟩), .agg #[.int .i64 4, .int .i64 0, .int .u64 0, .string t, .int .u64 0], .slice none 0 0] W1 (TPost W0 hb H u K t) :=
  (boxT q _ [] (words_nil' W1) t hl hf hH).mono (fun e w' h => h.t)
theorem box1 (q : Hf W0 W1 hb H u K) (x : Nat) (hx : x < 18446744073709551616) (t : ByteArray) (hl : t.size ≤ 8388608) (hf : sumH H + tneed t ≤ u) (hH : H.length ≤ 1000000) : Calls Tryz.prog 16 #[.pointer (some ⟨hb, 0, none⟩), .agg #[.int .i64 4, .int .i64 0, .int .u64 0, .string t, .int .u64 0], .slice (some ⟨W1.heap.size, 0, none⟩) 1 1] (W1.alloc (.cells #[.int .u64 (x : Nat)] 26)) (TPost W0 hb H u K t) :=
  (boxT (q.below' ((Below.refl _ W1).alloc (Nat.le_refl _) _)) _ [x] (words_lit W1 [x] (by simp) (by intro z hz; simp at hz; rw [hz]; exact hx)) t hl hf hH).mono (fun e w' h => h.t)
theorem sub2 (q : Hf W0 W1 hb H u K) (x y : Nat) (hx : x < 18446744073709551616) (hy : y < 18446744073709551616) (a : Nat) (r : ByteArray) (hr : IsTxt H a r) (i j : Nat) (hij : i ≤ j) (hj : j ≤ r.size) (hl : r.size ≤ 8388608) (p : ByteArray) (hp : r.extract i j = p) (hl2 : p.size ≤ 8388608) (hf : sumH H + tneed p ≤ u) (hH : H.length ≤ 1000000) : Calls Tryz.prog 17 #[.pointer (some ⟨hb, 0, none⟩), .int .u64 a, .int .i64 i, .int .i64 j, .slice (some ⟨W1.heap.size, 0, none⟩) 2 2] (W1.alloc (.cells #[.int .u64 (x : Nat), .int .u64 (y : Nat)] 26)) (TPost W0 hb H u K p) := by
  subst hp
  exact (sub_c (q.below' ((Below.refl _ W1).alloc (Nat.le_refl _) _)) _ [x, y] (words_lit W1 [x, y] (by simp) (by intro z hz; simp at hz; rcases hz with rfl | rfl; exact hx; exact hy)) (by simp) a r hr i j hij hj hl hl2 hf hH).mono (fun e w' h => h.t)
theorem sub3 (q : Hf W0 W1 hb H u K) (x y z : Nat) (hx : x < 18446744073709551616) (hy : y < 18446744073709551616) (hz : z < 18446744073709551616) (a : Nat) (r : ByteArray) (hr : IsTxt H a r) (i j : Nat) (hij : i ≤ j) (hj : j ≤ r.size) (hl : r.size ≤ 8388608) (p : ByteArray) (hp : r.extract i j = p) (hl2 : p.size ≤ 8388608) (hf : sumH H + tneed p ≤ u) (hH : H.length ≤ 1000000) : Calls Tryz.prog 17 #[.pointer (some ⟨hb, 0, none⟩), .int .u64 a, .int .i64 i, .int .i64 j, .slice (some ⟨W1.heap.size, 0, none⟩) 3 3] (W1.alloc (.cells #[.int .u64 (x : Nat), .int .u64 (y : Nat), .int .u64 (z : Nat)] 26)) (TPost W0 hb H u K p) := by
  subst hp
  exact (sub_c (q.below' ((Below.refl _ W1).alloc (Nat.le_refl _) _)) _ [x, y, z] (words_lit W1 [x, y, z] (by simp) (by intro v hv; simp at hv; rcases hv with rfl | rfl | rfl; exact hx; exact hy; exact hz)) (by simp) a r hr i j hij hj hl hl2 hf hH).mono (fun e w' h => h.t)
end
end Go.Proofs.YtndkfjoaiinjoaaGreat.W
/- TextPlays in plain words: the reference's cells and values, and what a heap of strings and numbers has of them. -/
namespace Go.Proofs.YtndkfjoaiinjoaaGreat.W
open Go.ChangeShapes Go.WideShapes Go.RowKit Go.Shelf
set_option linter.unusedVariables false
/-- a cell of the reference's -/
inductive Rc where
  | gone
  | num
  | txt (n : Nat)
def Rc.need : Rc → Nat
  | .gone => 1
  | .num => 2
  | .txt n => 1 + (n + 7) / 8
def Rc.held : Rc → Bool
  | .gone => false
  | _ => true
/-- is a cell held for sure -/
def hd (L : List Rc) (k : Nat) : Prop := ((L[k]?).getD .gone).held = true
theorem hd_lt {L : List Rc} {k : Nat} (h : hd L k) : k < L.length := by
  apply Nat.lt_of_not_le
  intro hle
  unfold hd at h
  rw [List.getElem?_eq_none hle] at h
  cases h
/-- a value of the reference's: whole, or a string; the cell that it stands in, or -1 -/
structure Tv where
  whole : Bool
  i : Int
  t : ByteArray
  cell : Int
def Tv.hc (v : Tv) : Hc := if v.whole = true then .num v.i else .text (strB v.t)
def Tv.rc (v : Tv) : Rc := if v.whole = true then .num else .txt v.t.size
theorem Tv.need_eq (v : Tv) : v.hc.need = v.rc.need := by
  unfold Tv.hc Tv.rc
  split
  · exact num_need v.i
  · exact text_need v.t
theorem Tv.succ_eq (v : Tv) : ∀ w ∈ v.hc.succ, w = 0 := by
  unfold Tv.hc
  split <;> intro w hw <;> cases hw
theorem Tv.seeds_eq (v : Tv) : ∀ w ∈ v.hc.seeds, w = 0 := by
  unfold Tv.hc
  split <;> intro w hw <;> simp [Hc.seeds, Hc.ws, Hc.cl] at hw <;> exact hw
theorem Tv.rc_held (v : Tv) : v.rc.held = true := by
  unfold Tv.rc
  split <;> rfl
/-- a value that needs no cell, in its word -/
def Tv.small (v : Tv) (w : Nat) : Prop := (v.whole = true ∧ smallB v.i = true ∧ (w : Int) = intW v.i) ∨ (v.whole = false ∧ v.t.size ≤ 5 ∧ (w : Int) = txtW v.t)
/-- is it sure that a value is there -/
def Tv.alive (L : List Rc) (v : Tv) : Prop := v.cell = -1 ∨ ∃ k : Nat, v.cell = k ∧ hd L k
/-- what a heap has of the reference's cells and values -/
structure Tl (H : List (Option Hc)) (L : List Rc) (ws : List Nat) (vs : List Tv) (f : Nat → Nat) : Prop where
  len : ws.length = vs.length
  leaf : ∀ (i : Nat) (c : Hc), H[i]? = some (some c) → ∀ w ∈ c.succ, w = 0
  hlen : H.length ≤ L.length
  llen : L.length ≤ 500000
  cell : ∀ k, hd L k → ∃ d, H[f k]? = some (some d) ∧ d.need = ((L[k]?).getD .gone).need
  inj : ∀ j k, hd L j → hd L k → f j = f k → j = k
  val : ∀ (n : Nat) (v : Tv) (w : Nat), vs[n]? = some v → ws[n]? = some w → (v.cell = -1 ∧ v.small w) ∨ (∃ k : Nat, v.cell = k ∧ k < L.length ∧ (hd L k → w = hw (f k) ∧ H[f k]? = some (some v.hc)))
  rng : ∀ v ∈ vs, v.t.size ≤ 10000 ∧ -9223372036854775808 ≤ v.i ∧ v.i ≤ 9223372036854775807
  wlt : ∀ w ∈ ws, w < 18446744073709551616
/-- the needs of those among the first n that are roots -/
def sumK (L : List Rc) (ks : List Int) : Nat → Nat
  | 0 => 0
  | n + 1 => sumK L ks n + (if (n : Int) ∈ ks then ((L[n]?).getD .gone).need else 0)
/-- those among the first n that are no roots are gone -/
def keepK (L : List Rc) (ks : List Int) : Nat → List Rc
  | 0 => L
  | n + 1 => if (n : Int) ∈ ks then keepK L ks n else (keepK L ks n).set n .gone
theorem keepK_len (L : List Rc) (ks : List Int) (n : Nat) : (keepK L ks n).length = L.length := by
  induction n with
  | zero => rfl
  | succ n ih =>
    unfold keepK
    split
    · exact ih
    · rw [List.length_set]; exact ih
theorem keepK_get (L : List Rc) (ks : List Int) (n k : Nat) : (keepK L ks n)[k]? = if k < n ∧ k < L.length ∧ ¬ (k : Int) ∈ ks then some .gone else L[k]? := by
  induction n with
  | zero =>
    rw [if_neg (fun h => by have := h.1; omega)]
    rfl
  | succ n ih =>
    unfold keepK
    split
    · rename_i hn
      rw [ih]
      by_cases e : k = n
      · subst e
        rw [if_neg (fun h => by have := h.1; omega), if_neg (fun h => h.2.2 hn)]
      · by_cases c : k < n ∧ k < L.length ∧ ¬ (k : Int) ∈ ks
        · rw [if_pos c, if_pos ⟨by omega, c.2⟩]
        · rw [if_neg c, if_neg (fun h => c ⟨by have := h.1; omega, h.2⟩)]
    · rename_i hn
      by_cases e : k = n
      · subst e
        by_cases hl : k < L.length
        · rw [List.getElem?_set_self (by rw [keepK_len]; exact hl), if_pos ⟨by omega, hl, hn⟩]
        · rw [List.getElem?_eq_none (by rw [List.length_set, keepK_len]; omega), if_neg (fun h => hl h.2.1), List.getElem?_eq_none (by omega)]
      · rw [List.getElem?_set_ne (fun h => e h.symm), ih]
        by_cases c : k < n ∧ k < L.length ∧ ¬ (k : Int) ∈ ks
        · rw [if_pos c, if_pos ⟨by omega, c.2⟩]
        · rw [if_neg c, if_neg (fun h => c ⟨by have := h.1; omega, h.2⟩)]
theorem keepK_hd {L : List Rc} {ks : List Int} {k : Nat} : hd (keepK L ks L.length) k ↔ hd L k ∧ (k : Int) ∈ ks := by
  unfold hd
  rw [keepK_get]
  constructor
  · intro h
    split at h
    · cases h
    · rename_i c
      have hk : k < L.length := hd_lt (L := L) h
      refine ⟨h, Classical.byContradiction (fun hc => c ⟨hk, hk, hc⟩)⟩
  · rintro ⟨h, hk⟩
    rw [if_neg (fun c => c.2.2 hk)]
    exact h
/-- handles of the first n that are roots -/
def idsK (f : Nat → Nat) (ks : List Int) : Nat → List Nat
  | 0 => []
  | n + 1 => idsK f ks n ++ (if (n : Int) ∈ ks then [f n] else [])
theorem idsK_mem (f : Nat → Nat) (ks : List Int) (n i : Nat) : i ∈ idsK f ks n ↔ ∃ k, k < n ∧ (k : Int) ∈ ks ∧ i = f k := by
  induction n with
  | zero => simp [idsK]
  | succ n ih =>
    unfold idsK
    rw [List.mem_append, ih]
    constructor
    · rintro (⟨k, h1, h2⟩ | h)
      · exact ⟨k, by omega, h2⟩
      · split at h
        · rename_i hn
          simp at h
          exact ⟨n, by omega, hn, h⟩
        · cases h
    · rintro ⟨k, h1, h2, h3⟩
      by_cases e : k = n
      · subst e
        right
        rw [if_pos h2]
        simp [h3]
      · exact .inl ⟨k, by omega, h2, h3⟩
/-- words and cells of roots -/
structure Rt (H : List (Option Hc)) (L : List Rc) (f : Nat → Nat) (rw' : List Nat) (ks : List Int) : Prop where
  up : ∀ w ∈ rw', hit H w = none ∨ ∃ k : Nat, (k : Int) ∈ ks ∧ w = hw (f k)
  dn : ∀ k : Nat, (k : Int) ∈ ks → hd L k ∧ hw (f k) ∈ rw'
section
variable {H : List (Option Hc)} {L : List Rc} {ws : List Nat} {vs : List Tv} {f : Nat → Nat} {rs : List Nat} {ks : List Int} {u : Nat}
theorem Tl.fk (p : Tl H L ws vs f) {k : Nat} (h : hd L k) : f k < H.length ∧ f k < 281474976710656 := by
  obtain ⟨d, hd', _⟩ := p.cell k h
  have := (List.getElem?_eq_some_iff.1 hd').1
  have h1 := p.hlen
  have h2 := p.llen
  exact ⟨this, by omega⟩
theorem Tl.nod (p : Tl H L ws vs f) (r : Rt H L f rs ks) (n : Nat) : (idsK f ks n).Nodup := by
  induction n with
  | zero => exact List.nodup_nil
  | succ n ih =>
    unfold idsK
    split
    · rename_i hn
      rw [List.nodup_append]
      refine ⟨ih, by simp, ?_⟩
      intro a ha b hb
      simp at hb
      obtain ⟨k, h1, h2, rfl⟩ := (idsK_mem f ks n a).1 ha
      rw [hb]
      intro e
      have := p.inj k n (r.dn k h2).1 (r.dn n hn).1 e
      omega
    · rw [List.append_nil]; exact ih
theorem Tl.ids_sum (p : Tl H L ws vs f) (r : Rt H L f rs ks) (n : Nat) : idsum H (idsK f ks n) = sumK L ks n := by
  induction n with
  | zero => rfl
  | succ n ih =>
    unfold idsK sumK
    split
    · rename_i hn
      rw [idsum_snoc, ih]
      obtain ⟨d, h1, h2⟩ := p.cell n (r.dn n hn).1
      rw [h1, ← h2]
      rfl
    · rw [List.append_nil, ih]; omega
theorem Tl.rch (p : Tl H L ws vs f) (r : Rt H L f rs ks) (ex : List Nat) (hex : ∀ w ∈ ex, w = 0) (i : Nat) : Rch H (rs ++ ex) i ↔ i ∈ idsK f ks L.length := by
  constructor
  · intro h
    induction h with
    | root w i hw' hh =>
      rcases List.mem_append.1 hw' with hw' | hw'
      · rcases r.up w hw' with c | ⟨k, hk, rfl⟩
        · rw [c] at hh; cases hh
        · have hk' := (r.dn k hk).1
          obtain ⟨d, h1, _⟩ := p.cell k hk'
          rw [hit_hw (p.fk hk').2 h1] at hh
          injection hh with hh
          exact (idsK_mem f ks _ i).2 ⟨k, hd_lt hk', hk, hh.symm⟩
      · rw [hex w hw', hit_zero] at hh; cases hh
    | step j i w c _ hc hw' hh _ => rw [p.leaf j c hc w hw', hit_zero] at hh; cases hh
  · intro h
    obtain ⟨k, h1, h2, rfl⟩ := (idsK_mem f ks _ i).1 h
    obtain ⟨h3, h4⟩ := r.dn k h2
    obtain ⟨d, h5, _⟩ := p.cell k h3
    exact .root (hw (f k)) (f k) (List.mem_append_left _ h4) (hit_hw (p.fk h3).2 h5)
theorem Tl.zneed (p : Tl H L ws vs f) (r : Rt H L f rs ks) (ex : List Nat) (hex : ∀ w ∈ ex, w = 0) : needR H (rchB H (rs ++ ex)) = sumK L ks L.length := by
  rw [← p.ids_sum r L.length]
  exact needR_ids H _ (p.nod r _) _ (rchB_len H _) (fun i => (rchB_get H _ i).trans (p.rch r ex hex i))
/-- behind room that is made: what fits, what is left -/
theorem Tl.room (p : Tl H L ws vs f) (r : Rt H L f rs ks) (c : Hc) (hc : ∀ w ∈ c.seeds, w = 0) :
    (sumH (roomH H u c rs) + c.need ≤ u ↔ sumK L ks L.length + c.need ≤ u) ∧ Tl (roomH H u c rs) (keepK L ks L.length) ws vs f := by
  have hz := p.zneed r c.seeds hc
  have hle : sumK L ks L.length ≤ sumH H := by rw [← hz]; exact needR_le H _
  have key : ∀ H1 : List (Option Hc), H1.length = H.length → (∀ i ∈ idsK f ks L.length, H1[i]? = H[i]?) → (∀ (i : Nat) (c : Hc), H1[i]? = some (some c) → H[i]? = some (some c)) → Tl H1 (keepK L ks L.length) ws vs f := by
    intro H1 e1 e2 e3
    have hin : ∀ k, hd (keepK L ks L.length) k → hd L k ∧ H1[f k]? = H[f k]? ∧ ((keepK L ks L.length)[k]?).getD .gone = (L[k]?).getD .gone := by
      intro k h
      obtain ⟨h1, h2⟩ := keepK_hd.1 h
      refine ⟨h1, e2 _ ((idsK_mem f ks _ _).2 ⟨k, hd_lt h1, h2, rfl⟩), ?_⟩
      rw [keepK_get, if_neg (fun c => c.2.2 h2)]
    refine ⟨p.len, fun i c h => p.leaf i c (e3 i c h), by rw [e1, keepK_len]; exact p.hlen, by rw [keepK_len]; exact p.llen, ?_, ?_, ?_, p.rng, p.wlt⟩
    · intro k h
      obtain ⟨h1, h2, h3⟩ := hin k h
      obtain ⟨d, h4, h5⟩ := p.cell k h1
      exact ⟨d, by rw [h2]; exact h4, by rw [h3]; exact h5⟩
    · intro j k hj hk e
      exact p.inj j k (hin j hj).1 (hin k hk).1 e
    · intro n v w hv hw'
      rcases p.val n v w hv hw' with c | ⟨k, h1, h2, h3⟩
      · exact .inl c
      · refine .inr ⟨k, h1, by rw [keepK_len]; exact h2, fun h => ?_⟩
        obtain ⟨h4, h5, _⟩ := hin k h
        rw [h5]
        exact h3 h4
  unfold roomH
  split
  · rename_i hf
    exact ⟨⟨fun _ => by omega, fun _ => hf⟩, key H rfl (fun _ _ => rfl) (fun _ _ h => h)⟩
  · have hlz := zipK_len H _ (rchB_len H (rs ++ c.seeds))
    refine ⟨by rw [zipK_sum, hz], key _ hlz ?_ ?_⟩
    · intro i hi
      obtain ⟨k, h1, h2, rfl⟩ := (idsK_mem f ks _ i).1 hi
      rw [zipK_get H _ (rchB_len H _) _ (p.fk (r.dn k h2).1).1]
      have hr := (rchB_get H (rs ++ c.seeds) (f k)).2 ((p.rch r c.seeds hc _).2 hi)
      rw [if_pos (by rw [List.getD_eq_getElem?_getD, hr]; rfl)]
    · intro i d h
      have hi : i < H.length := by have := (List.getElem?_eq_some_iff.1 h).1; omega
      rw [zipK_get H _ (rchB_len H _) i hi] at h
      split at h
      · exact h
      · cases h
/-- one more -/
theorem Tl.put (p : Tl H L ws vs f) (v : Tv) (hv : v.t.size ≤ 10000 ∧ -9223372036854775808 ≤ v.i ∧ v.i ≤ 9223372036854775807) (hcell : v.cell = L.length) (hl : L.length < 500000) :
    Tl (putH H (lid H) (some v.hc)) (L ++ [v.rc]) (ws ++ [hw (lid H)]) (vs ++ [v]) (fun k => if k = L.length then lid H else f k) := by
  have hlid := lid_le H
  have hH := p.hlen
  have old : ∀ k, k < L.length → ((L ++ [v.rc])[k]?).getD .gone = (L[k]?).getD .gone := fun k hk => by rw [List.getElem?_append_left hk]
  have new : ((L ++ [v.rc])[L.length]?).getD .gone = v.rc := by simp
  have far : ∀ k, hd L k → f k ≠ lid H := by
    intro k h e
    obtain ⟨d, h1, _⟩ := p.cell k h
    have h2 := lid_free (H := H) (by rw [← e]; exact (p.fk h).1)
    rw [e, h2] at h1
    cases h1
  have split' : ∀ k, hd (L ++ [v.rc]) k → k = L.length ∨ (k < L.length ∧ hd L k) := by
    intro k h
    have hk := hd_lt h
    rw [List.length_append] at hk
    by_cases e : k = L.length
    · exact .inl e
    · have hk' : k < L.length := by simp at hk; omega
      refine .inr ⟨hk', ?_⟩
      unfold hd at h ⊢
      rw [old k hk'] at h
      exact h
  refine ⟨by simp [p.len], ?_, ?_, by simp; omega, ?_, ?_, ?_, ?_, ?_⟩
  · intro i d hd'
    by_cases e : i = lid H
    · subst e
      rw [putH_self] at hd'
      injection hd' with hd'
      injection hd' with hd'
      subst hd'
      exact v.succ_eq
    · rw [putH_ne H _ i e] at hd'
      exact p.leaf i d hd'
  · rw [putH_len]
    simp
    split <;> omega
  · intro k h
    rcases split' k h with rfl | ⟨hk, h'⟩
    · rw [if_pos rfl, new]
      exact ⟨_, putH_self H _, v.need_eq⟩
    · rw [if_neg (by omega), old k hk]
      obtain ⟨d, h1, h2⟩ := p.cell k h'
      exact ⟨d, by rw [putH_ne H _ _ (far k h')]; exact h1, h2⟩
  · intro j k hj hk e
    rcases split' j hj with rfl | ⟨j1, j2⟩ <;> rcases split' k hk with rfl | ⟨k1, k2⟩
    · rfl
    · rw [if_pos rfl, if_neg (by omega)] at e
      exact absurd e.symm (far k k2)
    · rw [if_neg (by omega), if_pos rfl] at e
      exact absurd e (far j j2)
    · rw [if_neg (by omega), if_neg (by omega)] at e
      exact p.inj j k j2 k2 e
  · intro n x w hx hw'
    by_cases e : n < vs.length
    · rw [List.getElem?_append_left e] at hx
      rw [List.getElem?_append_left (by rw [p.len]; exact e)] at hw'
      rcases p.val n x w hx hw' with c | ⟨k, h1, h2, h3⟩
      · exact .inl c
      · refine .inr ⟨k, h1, by simp; omega, fun h => ?_⟩
        rcases split' k h with rfl | ⟨_, h'⟩
        · omega
        · obtain ⟨h4, h5⟩ := h3 h'
          rw [if_neg (by omega), putH_ne H _ _ (far k h')]
          exact ⟨h4, h5⟩
    · have hn : n = vs.length := by
        have := (List.getElem?_eq_some_iff.1 hx).1
        simp at this
        omega
      subst hn
      have hx' : v = x := by simpa using hx
      subst hx'
      have hw2 : hw (lid H) = w := by
        rw [← p.len] at hw'
        simpa using hw'
      subst hw2
      exact .inr ⟨L.length, hcell, by simp, fun _ => by rw [if_pos rfl]; exact ⟨rfl, putH_self H _⟩⟩
  · intro x hx
    rcases List.mem_append.1 hx with hx | hx
    · exact p.rng x hx
    · simp at hx; subst hx; exact hv
  · intro w hw'
    rcases List.mem_append.1 hw' with h | h
    · exact p.wlt w h
    · simp at h
      subst h
      unfold hw
      have := p.llen
      omega
/-- one more that needs no cell -/
theorem Tl.more (p : Tl H L ws vs f) (v : Tv) (w : Nat) (hv : v.t.size ≤ 10000 ∧ -9223372036854775808 ≤ v.i ∧ v.i ≤ 9223372036854775807) (hcell : v.cell = -1) (hs : v.small w) (hw' : w < 18446744073709551616) : Tl H L (ws ++ [w]) (vs ++ [v]) f := by
  refine ⟨by simp [p.len], p.leaf, p.hlen, p.llen, p.cell, p.inj, ?_, ?_, ?_⟩
  · intro n x y hx hy
    by_cases e : n < vs.length
    · rw [List.getElem?_append_left e] at hx
      rw [List.getElem?_append_left (by rw [p.len]; exact e)] at hy
      exact p.val n x y hx hy
    · have hn : n = vs.length := by
        have := (List.getElem?_eq_some_iff.1 hx).1
        simp at this
        omega
      subst hn
      have hx' : v = x := by simpa using hx
      subst hx'
      have hy' : w = y := by
        rw [← p.len] at hy
        simpa using hy
      subst hy'
      exact .inl ⟨hcell, hs⟩
  · intro x hx
    rcases List.mem_append.1 hx with hx | hx
    · exact p.rng x hx
    · simp at hx; subst hx; exact hv
  · intro y hy
    rcases List.mem_append.1 hy with h | h
    · exact p.wlt y h
    · simp at h; subst h; exact hw'
/-- a value that is there, in its word -/
theorem Tl.told (p : Tl H L ws vs f) {n : Nat} {v : Tv} {w : Nat} (hv : vs[n]? = some v) (hw' : ws[n]? = some w) (ha : v.alive L) : (v.whole = true → IsInt H w v.i) ∧ (v.whole = false → IsTxt H w v.t) := by
  rcases p.val n v w hv hw' with ⟨_, hs⟩ | ⟨k, h1, h2, h3⟩
  · rcases hs with ⟨c1, c2, c3⟩ | ⟨c1, c2, c3⟩
    · exact ⟨fun _ => .inl ⟨c2, c3⟩, fun c => (by rw [c1] at c; cases c)⟩
    · exact ⟨fun c => (by rw [c1] at c; cases c), fun _ => .inl ⟨c2, c3⟩⟩
  · have hk : hd L k := by
      rcases ha with ha | ⟨j, hj, hh⟩
      · omega
      · have : j = k := by omega
        subst this
        exact hh
    obtain ⟨h4, h5⟩ := h3 hk
    have hb := (p.fk hk).2
    constructor
    · intro c
      unfold Tv.hc at h5
      rw [if_pos c] at h5
      exact .inr ⟨f k, h4, hb, h5⟩
    · intro c
      unfold Tv.hc at h5
      rw [if_neg (by simp [c])] at h5
      exact .inr ⟨f k, h4, hb, h5⟩
end
end Go.Proofs.YtndkfjoaiinjoaaGreat.W
/- The reference's heap of strings and numbers (casketref7): how it lies; rows of structs; Need. -/
namespace Go.Proofs.YtndkfjoaiinjoaaGreat.W
open Go.ChangeShapes Go.WideShapes Go.RowKit Go.Shelf
set_option linter.unusedVariables false
/-- structs laid one behind the other -/
theorem flatX_len {α : Type} (f : α → List Value) (sz : Nat) (hf : ∀ x, (f x).length = sz) (xs : List α) : (xs.flatMap f).length = xs.length * sz := by
  induction xs with
  | nil => simp
  | cons b r ih => rw [List.flatMap_cons, List.length_append, hf, ih, List.length_cons, Nat.add_mul]; omega
theorem flatX_get {α : Type} (f : α → List Value) (sz : Nat) (hf : ∀ x, (f x).length = sz) (xs : List α) (i j : Nat) (x : α) (h : xs[i]? = some x) (hj : j < sz) : (xs.flatMap f)[i * sz + j]? = (f x)[j]? := by
  induction xs generalizing i with
  | nil => simp at h
  | cons b r ih =>
    cases i with
    | zero =>
      simp at h; subst h
      rw [List.flatMap_cons, List.getElem?_append_left (by rw [hf]; omega)]
      simp
    | succ i =>
      simp at h
      have := ih i h
      rw [List.flatMap_cons, List.getElem?_append_right (by rw [hf, Nat.add_mul]; omega), hf, show (i + 1) * sz + j - sz = i * sz + j by rw [Nat.add_mul]; omega]
      exact this
def Tv.cells (v : Tv) : List Value := [.int .i64 (if v.whole = true then 2 else 4), .int .i64 v.i, .int .u64 0, .string v.t, .int .i64 v.cell]
theorem Tv.cells_len (v : Tv) : v.cells.length = 5 := rfl
def Rc.cells : Rc → List Value
  | .gone => [.int .i64 0, .bool false, .int .i64 0, .slice none 0 0, .slice none 0 0, .int .i64 0, .int .i64 0, .int .i64 0, .bool false]
  | .num => [.int .i64 2, .bool false, .int .i64 0, .slice none 0 0, .slice none 0 0, .int .i64 0, .int .i64 0, .int .i64 0, .bool true]
  | .txt n => [.int .i64 4, .bool false, .int .i64 n, .slice none 0 0, .slice none 0 0, .int .i64 0, .int .i64 0, .int .i64 0, .bool true]
theorem Rc.cells_len (c : Rc) : c.cells.length = 9 := by cases c <;> rfl
def flatT (vs : List Tv) : List Value := vs.flatMap Tv.cells
def flatR (L : List Rc) : List Value := L.flatMap Rc.cells
theorem flatT_len (vs : List Tv) : (flatT vs).length = vs.length * 5 := flatX_len Tv.cells 5 Tv.cells_len vs
theorem flatT_get (vs : List Tv) (i j : Nat) (v : Tv) (h : vs[i]? = some v) (hj : j < 5) : (flatT vs)[i * 5 + j]? = v.cells[j]? := flatX_get Tv.cells 5 Tv.cells_len vs i j v h hj
theorem flatR_get (L : List Rc) (i j : Nat) (c : Rc) (h : L[i]? = some c) (hj : j < 9) : (flatR L)[i * 9 + j]? = c.cells[j]? := flatX_get Rc.cells 9 Rc.cells_len L i j c h hj
theorem flatT_app (a b : List Tv) : flatT (a ++ b) = flatT a ++ flatT b := by simp [flatT]
theorem flatR_app (a b : List Rc) : flatR (a ++ b) = flatR a ++ flatR b := by simp [flatR]
theorem tv_one (vs : List Tv) : ∀ x ∈ flatT vs, x.oneCell' = true := by
  intro x hx
  unfold flatT at hx
  rw [List.mem_flatMap] at hx
  obtain ⟨v, _, hx⟩ := hx
  simp [Tv.cells] at hx
  rcases hx with rfl | rfl | rfl | rfl | rfl <;> rfl
theorem rc_one (c : Rc) : ∀ x ∈ c.cells, x.oneCell' = true := by
  cases c <;> intro x hx <;> simp [Rc.cells] at hx <;> rcases hx with rfl | rfl | rfl | rfl | rfl | rfl <;> rfl
theorem infoTv : (Tryz.prog.info? 95).map (fun i => (i.zero, i.size, i.bytes)) = some (some (.agg #[.int .i64 0, .int .i64 0, .int .u64 0, .string ⟨#[]⟩, .int .i64 0]), 5, 48) := by kernel_rfl
theorem underTv : Tryz.prog.underlying 57 = some (.slice 95) := by kernel_rfl
theorem infoRc : (Tryz.prog.info? 105).map (fun i => (i.zero, i.size, i.bytes)) = some (some (.agg #[.int .i64 0, .bool false, .int .i64 0, .slice none 0 0, .slice none 0 0, .int .i64 0, .int .i64 0, .int .i64 0, .bool false]), 9, 104) := by kernel_rfl
theorem underRc : Tryz.prog.underlying 54 = some (.slice 105) := by kernel_rfl
/-- 'append(v, x...)', whatever the width, and where what it answers lies -/
theorem append_wide {P : Program} (w : World) (t ty e : TypeId) (i : TypeInfo) (z : Value) (size bytes : Nat) (ht : P.underlying t = some (.slice e)) (hi : P.info? e = some i) (hz : i.zero = some z) (hsize : i.size = size) (hby : i.bytes = bytes) (hzs : z.cells.size = size) (hsz : 0 < size)
    (v : Value) (n : Nat) (xs : List Value) (hown : w.ownsRow 0 e size v n xs) (a : Addr) (m c : Nat) (news : List Value) (hl : news.length = m * size) (hnews : ∀ j u, news[j]? = some u → w.cell? (a.add j) = some u) (h1 : ∀ u ∈ news, u.oneCell' = true)
    (hm : 0 < m) (hb40 : bytes ≤ 1000) (hnm : n + m ≤ 100000000) :
    ∃ v' w', (Builtin.append_ #[t, t] ty #[v, .slice (some a) m c]).run P w = .ok v' w' ∧ w'.ownsRow 0 e size v' (n + m) (xs ++ news) ∧ w.grownBy w' v.ownBlock ∧ (∀ k, v'.ownBlock = some k → v.ownBlock = some k ∨ (w.heap.size ≤ k ∧ k < w'.heap.size)) := by
  have hbig : (n + m) * bytes ≤ 140737488355328 := by
    have := Nat.mul_le_mul hnm hb40
    omega
  obtain ⟨v', w', hrun, ho, hg, _⟩ := run_append_own w 0 t ty e i z size bytes ht hi hz hsize hby hzs hsz v n xs hown a m c news hl hnews h1 (by unfold maxLen; omega) hbig (Nat.zero_le _)
  refine ⟨v', w', hrun, ho, hg, fun k hk => ?_⟩
  have hklt := (ho.lt k hk).2
  have hown' := hown
  obtain ⟨hlen, hrow⟩ := hown
  rcases hrow with ⟨rfl, rfl⟩ | ⟨g, cap, cur, rfl, _, hgg, hc, hcm, hcs, htake⟩
  · have hx : xs = [] := by simpa using hlen
    subst hx
    obtain ⟨v2, w2, hrun2, ho2, _, _⟩ := run_append_own w w.heap.size t ty e i z size bytes ht hi hz hsize hby hzs hsz (.slice none 0 0) 0 [] (World.ownsRow_nil _ _ _ _) a m c news hl hnews h1 (by unfold maxLen; omega) hbig (Nat.le_refl _)
    rw [hrun] at hrun2
    cases hrun2
    exact .inr ⟨(ho2.lt k hk).1, hklt⟩
  · by_cases hroom : n + m ≤ cap
    · have hr := run_append_room (P := P) w t ty e i ht hi g n cap cur hgg a m c news (by rw [hsize]; exact hl) hnews h1 hroom (by
        rw [hsize, hl, hcs, ← Nat.add_mul]; exact Nat.mul_le_mul_right _ hroom)
      rw [hrun] at hr
      cases hr
      exact .inl hk
    · have hfc : (Builtin.firstCells i.size n (.slice (some ⟨g, 0, none⟩) n cap)).run P w.drew = .ok xs.toArray w.drew := by
        rw [hsize]
        exact run_firstCells_some (P := P) w.drew size n ⟨g, 0, none⟩ n cap xs hlen (World.ownsRow.cells (w := w.drew) (base := 0) (e := e) (size := size) (n := n) (v := .slice (some ⟨g, 0, none⟩) n cap) hown' rfl)
      have hr := run_append_grow_src (P := P) w t t ty e i z ht hi hz (some ⟨g, 0, none⟩) n cap xs hfc (.slice (some a) m c) m news (Src.ofSlice w ht a m c news (by rw [hsize]; exact hl) hnews h1) (by omega) (by omega) (by rw [hby]; exact growslice_fits (by omega) hbig)
      rw [hrun] at hr
      cases hr
      simp [Value.ownBlock] at hk
      subst hk
      exact .inr ⟨Nat.le_refl _, hklt⟩
/-- nothing is put behind a row of values -/
theorem app_none (w : World) (ty : TypeId) (v : Value) (n : Nat) (xs : List Value) (hown : w.ownsRow 0 95 5 v n xs) : (Builtin.append_ #[57, 57] ty #[v, .slice none 0 0]).run Tryz.prog w = .ok v w := by
  obtain ⟨i0, hi, hz0, hz1, hz2⟩ := info_parts infoTv
  rcases hown.2 with ⟨rfl, rfl⟩ | ⟨g, cap', cur, rfl, _, _, hnc, _⟩
  · simp [Builtin.append_, run_underlying underTv, sizeOf, typeInfo, hi, Builtin.lenOf, Builtin.firstCells]
  · simp [Builtin.append_, run_underlying underTv, sizeOf, typeInfo, hi, Builtin.lenOf, Builtin.firstCells, hnc, storeCells]
/-- an empty row is put behind a row of values -/
theorem app_empty (w : World) (ty : TypeId) (v : Value) (n : Nat) (xs : List Value) (hown : w.ownsRow 0 95 5 v n xs) (a : Addr) (c : Nat) : (Builtin.append_ #[57, 57] ty #[v, .slice (some a) 0 c]).run Tryz.prog w = .ok v w := by
  obtain ⟨i0, hi, hz0, hz1, hz2⟩ := info_parts infoTv
  rcases hown.2 with ⟨rfl, rfl⟩ | ⟨g, cap', cur, rfl, _, _, hnc, _⟩
  · simp [Builtin.append_, run_underlying underTv, sizeOf, typeInfo, hi, Builtin.lenOf, Builtin.firstCells, loadCells, loadCellsFrom]
  · simp [Builtin.append_, run_underlying underTv, sizeOf, typeInfo, hi, Builtin.lenOf, Builtin.firstCells, hnc, storeCells, loadCells, loadCellsFrom]
/-- values of another row are put behind a row of one's own -/
theorem app_vals (w : World) (ty : TypeId) (v : Value) (xa : List Tv) (hown : w.ownsRow 0 95 5 v xa.length (flatT xa)) (vx : Value) (bs : List Tv) (hx : w.ownsRow 0 95 5 vx bs.length (flatT bs)) (hn : xa.length + bs.length ≤ 50000000) :
    ∃ v' w', (Builtin.append_ #[57, 57] ty #[v, vx]).run Tryz.prog w = .ok v' w' ∧ w'.ownsRow 0 95 5 v' (xa ++ bs).length (flatT (xa ++ bs)) ∧ w.grownBy w' v.ownBlock ∧ (∀ k, v'.ownBlock = some k → v.ownBlock = some k ∨ (w.heap.size ≤ k ∧ k < w'.heap.size)) := by
  have nb : w.grownBy w v.ownBlock := ⟨rfl, rfl, rfl, Nat.le_refl _, fun k _ _ => rfl⟩
  rcases hx.2 with ⟨rfl, h0⟩ | ⟨g, cap, cur, rfl, h2, h3, h4, h5, h6, h7⟩
  · have hb : bs = [] := List.length_eq_zero_iff.1 h0
    subst hb
    exact ⟨v, w, app_none w ty v _ _ hown, by simpa using hown, nb, fun k e => .inl e⟩
  · by_cases hb : bs.length = 0
    · have hb' : bs = [] := List.length_eq_zero_iff.1 hb
      subst hb'
      exact ⟨v, w, app_empty w ty v _ _ hown _ _, by simpa using hown, nb, fun k e => .inl e⟩
    · obtain ⟨i0, hi, hz0, hz1, hz2⟩ := info_parts infoTv
      have hc := hx.cells rfl
      obtain ⟨v', w', r1, r2, r3, r4⟩ := append_wide (P := Tryz.prog) w 57 ty 95 i0 _ 5 48 underTv hi hz0 hz1 hz2 rfl (by omega) v xa.length (flatT xa) hown ⟨g, 0, none⟩ bs.length cap (flatT bs) (flatT_len bs) hc (tv_one bs) (by omega) (by omega) (by omega)
      exact ⟨v', w', r1, by rw [flatT_app, List.length_append]; exact r2, r3, r4⟩
/-- one cell of a row of one's own is written -/
theorem own_put9 {W : World} {e : TypeId} {size g n cap : Nat} {xs : List Value} (h : W.ownsRow 0 e size (.slice (some ⟨g, 0, none⟩) n cap) n xs) (j : Nat) (u : Value) (hj : j < n * size) : (W.setCell ⟨g, j, none⟩ u).ownsRow 0 e size (.slice (some ⟨g, 0, none⟩) n cap) n (xs.set j u) := by
  rcases h.2 with ⟨h0, _⟩ | ⟨g', cap', cur, h0, h2, h3, h4, h5, h6, h7⟩
  · cases h0
  · simp only [Value.slice.injEq, Option.some.injEq, Addr.mk.injEq, true_and, and_true] at h0
    obtain ⟨rfl, rfl⟩ := h0
    have hs := heap_set (c := cur.toList) (by simpa using h3) j u
    refine ⟨by rw [List.length_set, h.1], .inr ⟨g, cap, _, rfl, h2, hs, h4, h5, by simpa using h6, ?_⟩⟩
    rw [← h7, List.toList_toArray, List.take_set]
theorem own_cell9 {W : World} {e : TypeId} {size g n cap : Nat} {xs : List Value} (h : W.ownsRow 0 e size (.slice (some ⟨g, 0, none⟩) n cap) n xs) (j : Nat) (hj : j < n * size) : W.cell? ⟨g, j, none⟩ = xs[j]? ∧ W.frozen? ⟨g, j, none⟩ = false := by
  rcases h.2 with ⟨h0, _⟩ | ⟨g', cap', cur, h0, h2, h3, h4, h5, h6, h7⟩
  · cases h0
  · simp only [Value.slice.injEq, Option.some.injEq, Addr.mk.injEq, true_and, and_true] at h0
    obtain ⟨rfl, rfl⟩ := h0
    refine ⟨?_, by simp only [World.frozen?, h3]; simp⟩
    rw [cell_of_row _ g _ _ _ _ h3, ← h7, List.getElem?_take, if_pos hj, Array.getElem?_toList]
/-- the reference's heap at rb -/
structure Rh (W : World) (rb : Nat) (lv : Value) (room : Nat) (L : List Rc) : Prop where
  top : W.heap[rb]? = some (.cells #[.int .i64 (room : Nat), lv] 56 (0, 0))
  row : W.ownsRow 0 105 9 lv L.length (flatR L)
  own : lv.ownBlock ≠ some rb
  len : L.length ≤ 100000
section
variable {W W' : World} {rb room : Nat} {lv : Value} {L : List Rc}
theorem Rh.on (h : Rh W rb lv room L) (hk : ∀ k, (k = rb ∨ lv.ownBlock = some k) → W'.heap[k]? = W.heap[k]?) : Rh W' rb lv room L :=
  ⟨(hk rb (.inl rfl)).trans h.top, owns_on h.row (fun k e => hk k (.inr e)), h.own, h.len⟩
theorem Rh.lt (h : Rh W rb lv room L) (k : Nat) (hk : k = rb ∨ lv.ownBlock = some k) : k < W.heap.size := by
  rcases hk with rfl | hk
  · exact (Array.getElem?_eq_some_iff.1 h.top).1
  · exact (h.row.lt k hk).2
theorem Rh.below (h : Rh W rb lv room L) (hB : Below W.heap.size W W') : Rh W' rb lv room L := h.on (fun k hk => hB.block k (h.lt k hk))
theorem Rh.cell {g n cap : Nat} (h : Rh W rb (.slice (some ⟨g, 0, none⟩) n cap) room L) {k j : Nat} {c : Rc} (hc : L[k]? = some c) (hj : j < 9) : W.cell? ⟨g, k * 9 + j, none⟩ = c.cells[j]? := by
  have hk := (List.getElem?_eq_some_iff.1 hc).1
  have hr := h.row
  obtain ⟨o, cap', hv⟩ := slice_of hr
  injection hv with _ hn _
  subst hn
  rw [(own_cell9 hr (k * 9 + j) (by omega)).1, flatR_get L k j c hc hj]
end
end Go.Proofs.YtndkfjoaiinjoaaGreat.W
