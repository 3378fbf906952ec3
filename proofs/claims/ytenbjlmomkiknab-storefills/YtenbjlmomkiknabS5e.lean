/- Package store: Load, Save. -/
import Derived.Test.YtenbjlmomkiknabS5d
namespace Go.Proofs.Ytenbjlmomkiknab.W
open Go.ChangeShapes Go.WideShapes Go.RowKit
set_option linter.unusedVariables false

/-- the number of a row of bytes, the lowest first -/
def leN : List Nat → Nat
  | [] => 0
  | b :: r => b + 256 * leN r
theorem leN_snoc (l : List Nat) (b : Nat) : leN (l ++ [b]) = leN l + b * 256 ^ l.length := by
  induction l with
  | nil => simp [leN]
  | cons c r ih =>
    simp only [List.cons_append, leN, ih, List.length_cons, Nat.pow_succ]
    have e : b * (256 ^ r.length * 256) = 256 * (b * 256 ^ r.length) := by rw [← Nat.mul_assoc, Nat.mul_comm]
    rw [e, Nat.mul_add]; omega
theorem leN_lt (l : List Nat) (h : ∀ n ∈ l, n < 256) : leN l < 256 ^ l.length := by
  induction l with
  | nil => simp [leN]
  | cons c r ih =>
    have h1 := h c (by simp)
    have h2 := ih (fun n hn => h n (by simp [hn]))
    simp only [leN, List.length_cons, Nat.pow_succ]
    omega
theorem pow8' (k : Nat) : 2 ^ (8 * k) = 256 ^ k := by rw [Nat.pow_mul]
theorem pow_le8 (k : Nat) (h : k ≤ 8) : 256 ^ k ≤ 18446744073709551616 := by
  have := Nat.pow_le_pow_right (n := 256) (by decide) h
  have e : 256 ^ 8 = 18446744073709551616 := by decide
  omega
theorem or_byte8 (k b e : Nat) (hk : k < 8) (he : e < 256 ^ k) (hb : b < 256) :
    bits .or .u64 (e : Int) (IntKind.u64.wrap (IntKind.u64.wrap (b : Int) * 2 ^ (8 * k))) = ((e + b * 256 ^ k : Nat) : Int) := by
  have e1 : IntKind.u64.wrap (b : Int) = b := by rw [IntKind.wrap_u64]; omega
  have hp := pow_le8 (k + 1) (by omega)
  rw [Nat.pow_succ] at hp
  have hbk : b * 256 ^ k ≤ 255 * 256 ^ k := Nat.mul_le_mul_right _ (by omega)
  have e2 : (b : Int) * 2 ^ (8 * k) = ((b * 256 ^ k : Nat) : Int) := by rw [← pow8']; simp
  have e3 : IntKind.u64.wrap ((b * 256 ^ k : Nat) : Int) = ((b * 256 ^ k : Nat) : Int) := by rw [IntKind.wrap_u64]; exact Int.emod_eq_of_lt (Int.natCast_nonneg _) (by omega)
  rw [e1, e2, e3, u64_or_nat _ _ (by omega) (by omega)]
  have j2 : e ||| b * 256 ^ k = b * 256 ^ k + e := by
    rw [Nat.or_comm, ← pow8']
    exact nat_join (8 * k) _ _ (Nat.mul_mod_left _ _) (by rw [pow8']; exact he)
  rw [j2]
  omega
theorem ret_un {a b : Nat} {v : Value} (h : a = b) : Ending.returned (.tuple #[.int .u64 (a : Int), v]) = .returned (.tuple #[.int .u64 (b : Int), v]) := by rw [h]
section
variable {W : World} {sb : Nat} {vr vb vf : Value} {s : Sto}
/-- the bytes of an extent from one on -/
def seg (row : List Nat) (at' n : Nat) : List Nat := (row.drop at').take n
theorem seg_len (row : List Nat) (a n : Nat) (h : a + n ≤ row.length) : (seg row a n).length = n := by simp [seg]; omega
theorem seg_get (row : List Nat) (a n k : Nat) (hk : k < n) : (seg row a n)[k]? = row[a + k]? := by simp [seg, hk]
theorem rcell (h : Lay W sb vr vb vf s) {g cap : Nat} (hr : vr = .slice (some ⟨g, 0, none⟩) s.row.length cap) (j : Nat) (hj : j < s.row.length) : W.cell? ⟨g, j, none⟩ = some (.int .u8 (s.row[j] : Nat)) := by
  subst hr
  rw [h.row.cellAt j (by omega)]
  simp [byteV, hj]
set_option maxHeartbeats 1000000 in
theorem load_core (g p n : Nat) (seg : List Nat) (hn : seg.length = n) (h8 : n ≤ 8) (hb : ∀ x ∈ seg, x < 256) (a0 a1 a2 a3 : Value) (c : Nat)
    (hc : ∀ W' : World, Below W.heap.size W W' → ∀ k (hk : k < seg.length), W'.cell? ⟨g, p + k, none⟩ = some (.int .u8 (seg[k] : Nat)))
    (cp : Calls Try.prog 54 #[a0, a1, a2, a3] W fun e w' => e = .returned (.tuple #[.slice (some ⟨g, p, none⟩) n c, .int .i64 0]) ∧ Below W.heap.size W w') :
    Calls Try.prog 24 #[a0, a1, a2, a3] W fun e w' => e = .returned (.tuple #[.int .u64 (leN seg), .int .i64 0]) ∧ Below W.heap.size W w' := by
  go_enter Try.func24, Try.ntmps24
  go_wp2_with (go_at_call 54; (with_reducible refine cp.mono ?_); rintro e w' ⟨rfl, hB⟩)
  have hc' := hc w' hB
  clear hc cp
  go_loop [12, 28] (fun x i => ∃ k : Nat, k ≤ n ∧ i = .int .i64 k ∧ x = .int .u64 (leN (seg.take k))) (fun _ i => n - (intOf i).toNat)
  case atStart => exact ⟨0, Nat.zero_le _, rfl, by simp [leN]⟩
  case round =>
    obtain ⟨k, hk, rfl, rfl⟩ := hrel
    by_cases hlt : k < n
    · have hs : k < seg.length := by omega
      have hx := hc' k hs
      have st : Hid (bits .or .u64 (leN (seg.take k) : Int) (IntKind.u64.wrap (IntKind.u64.wrap ((seg[k] : Nat) : Int) * 2 ^ (8 * k))) = (leN (seg.take (k + 1)) : Int)) := by
        have l1 : (seg.take k).length = k := by simp; omega
        rw [List.take_succ_eq_append_getElem hs, leN_snoc, l1]
        refine hid (or_byte8 k _ _ (by omega) ?_ (hb _ (List.getElem_mem _)))
        have := leN_lt (seg.take k) (fun x hx => hb x (List.mem_of_mem_take hx))
        rwa [l1] at this
      clear hc'
      generalize seg[k] = y at *
      go_wp2
      go_round
      case rel => exact ⟨k + 1, hlt, by go_num, by rw [← st.out]⟩
      case measure => simp [intOf]; omega
    · have he : seg.take k = seg := List.take_of_length_le (by omega)
      rw [he]
      clear hc' he
      go_wp2
      go_ret2
      exact ⟨rfl, hB⟩
theorem load_ok (h : Lay W sb vr vb vf s) (f : Fit s) (id : Int) (wd : Nat) (b : Blk) (hx : s.ext id = some b) (hw : wd = 1 ∨ wd = 2 ∨ wd = 4 ∨ wd = 8) (o p : Nat) (hp : b.pos = p) (ha : (o : Int) % wd = 0) (ho : o + (wd : Int) ≤ b.len) (hin : b.pos + b.len ≤ s.row.length) :
    Calls Try.prog 24 #[.pointer (some ⟨sb, 0, none⟩), .int .i64 id, .int .i64 o, .int .i64 wd] W fun e w' => e = .returned (.tuple #[.int .u64 (leN (seg s.row (p + o) wd)), .int .i64 0]) ∧ Below W.heap.size W w' := by
  obtain ⟨g, cap, hr, hcap⟩ := own_slice h.row (by omega)
  have cp := part_ok h f id wd b hx (by omega) o p hp ha ho g cap hr hcap hin
  simp only [Int.toNat_natCast] at cp
  have hl := seg_len s.row (p + o) wd (by omega)
  refine load_core g (p + o) wd _ hl (by omega) (fun x hx => f.byte x (List.mem_of_mem_drop (List.mem_of_mem_take hx))) _ _ _ _ _ ?_ cp
  intro W' hB k hk
  have hr' := rcell h hr (p + o + k) (by omega)
  have lt : g < W.heap.size := by
    have := (h.row.lt g (by rw [hr]; rfl)).2
    exact this
  rw [hB.cell (by exact lt), hr']
  congr 2
  simp [seg]
theorem load_err (e0 : Int) (he : (e0 != 0) = true) (a0 a1 a2 a3 v : Value)
    (cp : Calls Try.prog 54 #[a0, a1, a2, a3] W fun e w' => e = .returned (.tuple #[v, .int .i64 e0]) ∧ Below W.heap.size W w') :
    Calls Try.prog 24 #[a0, a1, a2, a3] W fun e w' => e = .returned (.tuple #[.int .u64 0, .int .i64 e0]) ∧ Below W.heap.size W w' := by
  go_enter Try.func24, Try.ntmps24
  go_wp2_with (go_at_call 54; (with_reducible refine cp.mono ?_); rintro e w' ⟨rfl, hB⟩)
  go_ret2
  exact ⟨rfl, hB⟩
/-- a row with the lowest k bytes of a number written from one on -/
def saved (row : List Nat) (p x : Nat) : Nat → List Nat
  | 0 => row
  | k + 1 => (saved row p x k).set (p + k) (x / 256 ^ k % 256)
theorem saved_len (row : List Nat) (p x k : Nat) : (saved row p x k).length = row.length := by
  induction k with
  | zero => rfl
  | succ k ih => simp [saved, ih]
theorem saved_get (row : List Nat) (p x k j : Nat) (h : p + k ≤ row.length) : (saved row p x k)[j]? = if p ≤ j ∧ j < p + k then some (x / 256 ^ (j - p) % 256) else row[j]? := by
  induction k with
  | zero => rw [if_neg (by omega)]; rfl
  | succ k ih =>
    simp only [saved, List.getElem?_set, saved_len]
    by_cases e : p + k = j
    · subst e
      rw [if_pos rfl, if_pos (by omega), if_pos (by omega)]
      congr 2; congr 2; omega
    · rw [if_neg e, ih (by omega)]
      by_cases g : p ≤ j ∧ j < p + k
      · rw [if_pos g, if_pos (by omega)]
      · rw [if_neg g, if_neg (by omega)]
theorem save_err (e0 : Int) (a0 a1 a2 a3 a4 : Value)
    (cp : Calls Try.prog 54 #[a0, a1, a2, a3] W fun e w' => e = .returned (.tuple #[.slice none 0 0, .int .i64 e0]) ∧ Below W.heap.size W w') :
    Calls Try.prog 25 #[a0, a1, a2, a3, a4] W fun e w' => e = .returned (.int .i64 e0) ∧ Below W.heap.size W w' := by
  go_enter Try.func25, Try.ntmps25
  go_wp2_with (go_at_call 54; (with_reducible refine cp.mono ?_); rintro e w' ⟨rfl, hB⟩)
  refine wp_loop_rounds 1 ?_
  rw [rounds_succ]
  go_wp2
  go_ret
  exact ⟨rfl, hB⟩
theorem byte_of (x k : Nat) : (x : Int) / 2 ^ (8 * k) % 256 = ((x / 256 ^ k % 256 : Nat) : Int) := by
  rw [← pow8']
  simp
set_option maxHeartbeats 1000000 in
theorem save_core (g p n x : Nat) (hx : x < 18446744073709551616) (cap : Nat) (hr : vr = .slice (some ⟨g, 0, none⟩) s.row.length cap) (hin : p + n ≤ s.row.length) (h8 : n ≤ 8) (hlen : s.row.length ≤ 1000000000000) (a0 a1 a2 a3 : Value) (c : Nat) (h : Lay W sb vr vb vf s)
    (cp : Calls Try.prog 54 #[a0, a1, a2, a3] W fun e w' => e = .returned (.tuple #[.slice (some ⟨g, p, none⟩) n c, .int .i64 0]) ∧ Below W.heap.size W w') :
    Calls Try.prog 25 #[a0, a1, a2, a3, .int .u64 x] W fun e w' => e = .returned (.int .i64 0) ∧ Lay w' sb vr vb vf { s with row := saved s.row p x n } ∧ Upd (fun k => k = g) W w' := by
  go_enter Try.func25, Try.ntmps25
  go_wp2_with (go_at_call 54; (with_reducible refine cp.mono ?_); rintro e w' ⟨rfl, hB⟩)
  have hU : Upd (fun k => k = g) W w' := Upd.of_below hB
  have hL : Lay w' sb vr vb vf s := by
    have lt : ∀ {e : TypeId} {size : Nat} {v : Value} {n : Nat} {xs : List Value}, W.ownsRow 0 e size v n xs → ∀ k, v.ownBlock = some k → k < W.heap.size := fun h k e => (h.lt k e).2
    exact h.kept (hB.block _ (Array.getElem?_eq_some_iff.1 h.obj).1) (fun k e => hB.block _ (lt h.row k e)) (fun k e => hB.block _ (lt h.blk k e)) (fun k e => hB.block _ (lt h.free k e))
  clear hB cp h
  go_loopw [24] (fun i wr => ∃ k : Nat, k ≤ n ∧ i = .int .i64 k ∧ Lay wr sb vr vb vf { s with row := saved s.row p x k } ∧ Upd (fun k => k = g) W wr) (fun i _ => n - (intOf i).toNat)
  case atStart => exact ⟨0, Nat.zero_le _, rfl, hL, hU⟩
  case round =>
    obtain ⟨k, hk, rfl, hLr, hUr⟩ := hrel
    by_cases hlt : k < n
    · have hj : p + k < (saved s.row p x k).length := by rw [saved_len]; omega
      have hx1 := rcell hLr (g := g) (cap := cap) (by rw [hr]; simp [saved_len]) (p + k) hj
      have hx2 : wr.frozen? ⟨g, p + k, none⟩ = false := by
        have := hLr.row
        rw [hr] at this
        simp only [saved_len] at this
        exact this.frozenAt _
      have hst := hLr.rstore (g := g) (cap := cap) (by rw [hr]; simp [saved_len]) (p + k) (x / 256 ^ k % 256)
      have hsu := hUr.setCell (p := ⟨g, p + k, none⟩) (.inl rfl) (byteV (x / 256 ^ k % 256))
      have hby := hid (byte_of x k)
      generalize (saved s.row p x k)[p + k] = y at *
      clear hLr hUr hU hL
      go_wp2
      go_roundw
      case rel => exact ⟨k + 1, hlt, by go_num, by rw [hby.out]; exact hst, by rw [hby.out]; exact hsu⟩
      case measure => simp [intOf]; omega
    · have e : k = n := by omega
      rw [e] at hLr
      have HL := hid hLr
      have HU := hid hUr
      clear hLr hUr e hL hU
      go_wp2
      go_ret
      exact ⟨rfl, HL, HU⟩
theorem save_ok (h : Lay W sb vr vb vf s) (f : Fit s) (id : Int) (wd x : Nat) (hx64 : x < 18446744073709551616) (b : Blk) (hx : s.ext id = some b) (hw : wd = 1 ∨ wd = 2 ∨ wd = 4 ∨ wd = 8) (o p : Nat) (hp : b.pos = p) (ha : (o : Int) % wd = 0) (ho : o + (wd : Int) ≤ b.len) (hin : b.pos + b.len ≤ s.row.length) {S : Nat → Prop} (hS : Own S sb vr vb vf) :
    Calls Try.prog 25 #[.pointer (some ⟨sb, 0, none⟩), .int .i64 id, .int .i64 o, .int .i64 wd, .int .u64 x] W fun e w' => e = .returned (.int .i64 0) ∧ Lay w' sb vr vb vf { s with row := saved s.row (p + o) x wd } ∧ Upd S W w' := by
  obtain ⟨g, cap, hr, hcap⟩ := own_slice h.row (by omega)
  have cp := part_ok h f id wd b hx (by omega) o p hp ha ho g cap hr hcap hin
  simp only [Int.toNat_natCast] at cp
  refine (save_core g (p + o) wd x hx64 cap hr (by omega) (by omega) f.row _ _ _ _ _ h cp).mono ?_
  rintro e w' ⟨rfl, h1, h2⟩
  exact ⟨rfl, h1, h2.mono (by rintro k rfl; exact hS.row _ (by rw [hr]; rfl))⟩
end
end Go.Proofs.Ytenbjlmomkiknab.W
