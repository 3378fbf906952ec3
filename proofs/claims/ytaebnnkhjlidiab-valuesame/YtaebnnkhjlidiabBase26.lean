import Derived.Test.YtaebnnkhjlidiabBase25
import Derived.Test.YtaebnnkhjlidiabBase17
import Derived.Test.YtaebnnkhjlidiabBase21
/- A heap that a statement made itself, and what it keeps beside it; Box of a string; Concat, Sub. -/
namespace Go.Proofs.Ytaebnnkhjlidiab.W
open Go.ChangeShapes Go.WideShapes Go.RowKit Go.Shelf
set_option linter.unusedVariables false
/-- a heap that was made behind W0; what K names is none of its -/
def Hf (W0 W : World) (hb : Nat) (H : List (Option Hc)) (u : Nat) (K : Nat → Prop) : Prop := Below W0.heap.size W0 W ∧ ∃ S, HSt W S hb H u ∧ (∀ k, S k → W0.heap.size ≤ k ∧ k < W.heap.size) ∧ (∀ k, K k → k < W.heap.size ∧ ¬ S k)
section
variable {W0 W W1 W' : World} {hb : Nat} {H : List (Option Hc)} {u : Nat} {K K' : Nat → Prop}
theorem Hf.bel (q : Hf W0 W hb H u K) : Below W0.heap.size W0 W := q.1
theorem Hf.sub (q : Hf W0 W hb H u K) (h : ∀ k, K' k → K k) : Hf W0 W hb H u K' := by
  obtain ⟨h1, S, h2, h3, h4⟩ := q
  exact ⟨h1, S, h2, h3, fun k e => h4 k (h k e)⟩
theorem Hf.below (q : Hf W0 W hb H u K) (hB : Below W.heap.size W W') : Hf W0 W' hb H u (fun k => K k ∨ (W.heap.size ≤ k ∧ k < W'.heap.size)) := by
  obtain ⟨h1, S, h2, h3, h4⟩ := q
  have z := hB.size
  refine ⟨h1.trans (hB.mono h1.size), S, h2.below hB, fun k e => ⟨(h3 k e).1, by have := (h3 k e).2; omega⟩, ?_⟩
  rintro k (e | e)
  · exact ⟨by have := (h4 k e).1; omega, (h4 k e).2⟩
  · exact ⟨e.2, fun e2 => by have := (h3 k e2).2; omega⟩
theorem Hf.below' (q : Hf W0 W hb H u K) (hB : Below W.heap.size W W') : Hf W0 W' hb H u K := (q.below hB).sub (fun k e => .inl e)
/-- what is kept aside may be written -/
theorem Hf.upd {D : Nat → Prop} (q : Hf W0 W hb H u K) (hU : Upd D W W') (hD : ∀ k, D k → K k ∧ W0.heap.size ≤ k) : Hf W0 W' hb H u K := by
  obtain ⟨h1, S, h2, h3, h4⟩ := q
  have z := hU.size
  refine ⟨h1.trans (hU.below h1.size (fun k e => (hD k e).2)), S, h2.on z (fun k e hl => hU.block k hl (fun d => (h4 k (hD k d).1).2 e)), fun k e => ⟨(h3 k e).1, by have := (h3 k e).2; omega⟩, fun k e => ⟨by have := (h4 k e).1; omega, (h4 k e).2⟩⟩
theorem hf_new (hB : Below W0.heap.size W0 W) (u : Nat) (hu : u ≤ 1048576) : Calls Try.prog 7 #[.int .i64 u] W fun e w' => ∃ hb, e = .returned (.tuple #[.pointer (some ⟨hb, 0, none⟩), .int .i64 0]) ∧ Hf W0 w' hb [] u (fun k => k < W.heap.size) ∧ Below W.heap.size W w' := by
  refine (hnew_c u hu W).mono ?_
  rintro e w' ⟨hb, rfl, hB', g⟩
  have h1 := hB.size
  have h2 := hB'.size
  exact ⟨hb, rfl, ⟨hB.trans (hB'.mono h1), _, g, fun k e => ⟨by omega, e.2⟩, fun k e => ⟨by omega, fun e2 => by omega⟩⟩, hB'⟩
/-- what may change -/
def Ch (W0 : World) (K : Nat → Prop) : Nat → Prop := fun k => ¬ K k ∧ W0.heap.size ≤ k
theorem Hf.put {S : Nat → Prop} {H' : List (Option Hc)} (h0 : Below W0.heap.size W0 W1) (h3 : ∀ k, S k → W0.heap.size ≤ k ∧ k < W1.heap.size) (h4 : ∀ k, K k → k < W1.heap.size ∧ ¬ S k) (hU : Upd S W1 W') (g : HSt W' (Nx S W1 W') hb H' u) : Hf W0 W' hb H' u K ∧ Upd (Ch W0 K) W1 W' := by
  have z := hU.size
  have z0 := h0.size
  refine ⟨⟨h0.trans (hU.below z0 (fun k e => (h3 k e).1)), _, g, ?_, fun k e => ⟨by have := (h4 k e).1; omega, ?_⟩⟩, ⟨hU.os, hU.tape, hU.output, hU.size, fun k hk hn => hU.block k hk (fun e => hn ⟨fun e2 => (h4 k e2).2 e, (h3 k e).1⟩)⟩⟩
  · rintro k (e | e)
    · exact ⟨(h3 k e).1, by have := (h3 k e).2; omega⟩
    · exact ⟨by omega, e.2⟩
  · rintro (e2 | e2)
    · exact (h4 k e).2 e2
    · have := (h4 k e).1; omega
/-- what a string needs -/
def tneed (t : ByteArray) : Nat := 1 + (t.size + 7) / 8
theorem hf_text (q : Hf W0 W1 hb H u K) (t : ByteArray) (hl : t.size ≤ 8388608) (hf : sumH H + tneed t ≤ u) (vr : Value) (rs : List Nat) (hr : WordsAt W1 vr rs) :
    Calls Try.prog 8 #[.pointer (some ⟨hb, 0, none⟩), .agg #[.int .i64 4, .bool false, .int .i64 0, .string t, .slice none 0 0, .slice none 0 0, .int .u64 0, .int .i64 0, .int .i64 0], vr] W1 fun e w' => e = .returned (.tuple #[.int .u64 (hw (lid H) : Nat), .int .i64 0]) ∧ Hf W0 w' hb (putH H (lid H) (some (.text (strB t)))) u K ∧ Upd (Ch W0 K) W1 w' := by
  obtain ⟨h1, S, h2, h3, h4⟩ := q
  refine (put_text h2 (fun k e => (h3 k e).2) t hl none none 0 0 vr rs hr).mono ?_
  intro e w' hP
  have hf' : sumH H + (Hc.text (strB t)).need ≤ u := by rw [text_need]; exact hf
  have hrm : roomH H u (.text (strB t)) rs = H := by unfold roomH; rw [if_pos hf']
  rw [hrm] at hP
  obtain ⟨hU, ⟨_, rfl, g⟩ | ⟨hn, _⟩⟩ := hP
  · exact ⟨rfl, Hf.put h1 h3 h4 hU g⟩
  · omega
/-- behind a string that was boxed -/
def TxtPost (W0 W1 : World) (hb : Nat) (H : List (Option Hc)) (u : Nat) (K : Nat → Prop) (t : ByteArray) (e : Ending) (w' : World) : Prop := ∃ (w : Nat) (H' : List (Option Hc)), e = .returned (.tuple #[.int .u64 (w : Nat), .int .i64 0]) ∧ Hf W0 w' hb H' u K ∧ Ext H H' ∧ IsTxt H' w t ∧ sumH H' ≤ sumH H + tneed t ∧ H'.length ≤ H.length + 1 ∧ Upd (Ch W0 K) W1 w'
theorem TxtPost.two {t : ByteArray} {e : Ending} (h : TxtPost W0 W1 hb H u K t e W') : ∃ x y, e = .returned (.tuple #[.int .u64 x, .int .i64 y]) := by
  obtain ⟨w, H', rfl, _⟩ := h
  exact ⟨_, _, rfl⟩
theorem boxText_t (q : Hf W0 W1 hb H u K) (vr : Value) (rs : List Nat) (hr : WordsAt W1 vr rs) (t : ByteArray) (hl : t.size ≤ 8388608) (hf : sumH H + tneed t ≤ u) (hH : H.length ≤ 1000000) : Calls Try.prog 33 #[.pointer (some ⟨hb, 0, none⟩), .string t, vr] W1 (TxtPost W0 W1 hb H u K t) := by
  by_cases hs : t.size ≤ 5
  · refine (boxText_small _ vr t hs W1).mono ?_
    rintro e w' ⟨rfl, rfl⟩
    have hb5 := cls_is5 _ (txtW_cls t hs)
    refine ⟨(txtW t).toNat, H, by rw [Int.toNat_of_nonneg (by omega)], q, Ext.refl _, .inl ⟨hs, Int.toNat_of_nonneg (by omega)⟩, by omega, by omega, Upd.refl _ _⟩
  · have cf := fromText_c t (by simp [maxLen]; omega) W1
    rw [decide_eq_false hs] at cf
    have h1 : ¬ (t.size : Int) > 8388608 := by omega
    have cp := hf_text q t hl hf vr rs hr
    have fin : Hid (∀ w2, Hf W0 w2 hb (putH H (lid H) (some (.text (strB t)))) u K → Upd (Ch W0 K) W1 w2 → TxtPost W0 W1 hb H u K t (.returned (.tuple #[.int .u64 (hw (lid H) : Nat), .int .i64 0])) w2) := by
      show ∀ w2, _
      intro w2 hq hU
      have h9 := lid_le H
      refine ⟨hw (lid H), _, rfl, hq, ext_put H _, .inr ⟨lid H, rfl, by omega, putH_self H _⟩, ?_, ?_, hU⟩
      · rw [putH_sum, text_need]; exact Nat.le_refl _
      · rw [putH_len]; split <;> omega
    generalize hw (lid H) = X at *
    clear q hr
    go_enter Try.func33, Try.ntmps33
    go_wp2_with (first | (go_at_call 62; (with_reducible refine cf.mono ?_); rintro e w' ⟨rfl, hw⟩; (have hw' := hw.symm); subst hw'; clear hw) | (go_at_call 8; (with_reducible refine cp.mono ?_); rintro e w2 ⟨rfl, hq, hU⟩; clear cp))
    go_ret2
    exact fin.out _ hq hU
theorem TxtPost.on {W2 : World} {t : ByteArray} {e : Ending} (hB : Below W1.heap.size W1 W2) (h : TxtPost W0 W2 hb H u K t e W') : TxtPost W0 W1 hb H u K t e W' := by
  obtain ⟨w, H', rfl, h1, h2, h3, h4, h5, h6⟩ := h
  exact ⟨w, H', rfl, h1, h2, h3, h4, h5, (Upd.of_below hB).trans' h6⟩
theorem boxT (q : Hf W0 W1 hb H u K) (vr : Value) (rs : List Nat) (hr : WordsAt W1 vr rs) (t : ByteArray) (hl : t.size ≤ 8388608) (hf : sumH H + tneed t ≤ u) (hH : H.length ≤ 1000000) : Calls Try.prog 12 #[.pointer (some ⟨hb, 0, none⟩), .agg #[.int .i64 4, .int .i64 0, .int .u64 0, .string t, .int .u64 0], vr] W1 (TxtPost W0 W1 hb H u K t) := by
  refine (box_text _ vr t (fun w e w' => TxtPost W0 w hb H u K t e w') (fun w e w' h => h.two) W1 (fun w hB => boxText_t (q.below' hB) vr rs (words_below hr hB) t hl hf hH)).mono ?_
  rintro e w' ⟨w, hB, h⟩
  exact h.on hB
end
end Go.Proofs.Ytaebnnkhjlidiab.W
/- Package text: box, Concat, Sub. -/
namespace Go.Proofs.Ytaebnnkhjlidiab.W
open Go.ChangeShapes Go.WideShapes Go.RowKit Go.Shelf
set_option linter.unusedVariables false
section
variable {W0 W W1 W' : World} {hb : Nat} {H : List (Option Hc)} {u : Nat} {K K' : Nat → Prop}
end
end Go.Proofs.Ytaebnnkhjlidiab.W
/- casketlaw8: awake, box. -/
namespace Go.Proofs.Ytaebnnkhjlidiab.W
open Go.ChangeShapes Go.WideShapes Go.RowKit Go.Shelf
set_option linter.unusedVariables false
theorem words_lit (w : World) (ws : List Nat) (hl : ws.length ≤ 1000000) (h : ∀ x ∈ ws, x < 18446744073709551616) : WordsAt (w.alloc (.cells (ws.map (fun x => Value.int .u64 (x : Nat))).toArray 30)) (.slice (some ⟨w.heap.size, 0, none⟩) ws.length ws.length) ws := by
  have e0 := World.cell?_alloc_new w (ws.map (fun x => Value.int .u64 (x : Nat))).toArray 30
  refine ⟨_, _, rfl, by omega, h, fun i hi => ⟨_, rfl, ?_⟩⟩
  have e1 : ((⟨w.heap.size, 0, none⟩ : Addr).add i) = ⟨w.heap.size, i, none⟩ := by unfold Addr.add; split <;> simp_all
  rw [e1, e0 i]
  simp [hi]
theorem words_nil' (w : World) : WordsAt w (.slice none 0 0) [] := words_nil w none 0
theorem abc_abc : (⟨#[97, 98, 99]⟩ : ByteArray) ++ ⟨#[97, 98, 99]⟩ = ⟨#[97, 98, 99, 97, 98, 99]⟩ := by decide
section
variable {W0 W W1 W' : World} {hb : Nat} {H : List (Option Hc)} {u : Nat} {K K' : Nat → Prop}
end
end Go.Proofs.Ytaebnnkhjlidiab.W
/- A row of words of a statement's own, beside its heap: append. -/
namespace Go.Proofs.Ytaebnnkhjlidiab.W
open Go.ChangeShapes Go.WideShapes Go.RowKit Go.Shelf
set_option linter.unusedVariables false
/-- words, as they stand in a row -/
def wds (ws : List Nat) : List Value := ws.map (fun x => .int .u64 (x : Nat))
section
variable {W0 W W1 W' : World} {hb : Nat} {H : List (Option Hc)} {u : Nat} {K K' : Nat → Prop}
theorem Hf.upd' {D : Nat → Prop} (q : Hf W0 W hb H u K) (hU : Upd D W W') (hD : ∀ k, D k → K k ∧ W0.heap.size ≤ k) : Hf W0 W' hb H u (fun k => K k ∨ (W.heap.size ≤ k ∧ k < W'.heap.size)) := by
  obtain ⟨h1, S, h2, h3, h4⟩ := q
  have z := hU.size
  refine ⟨h1.trans (hU.below h1.size (fun k e => (hD k e).2)), S, h2.on z (fun k e hl => hU.block k hl (fun d => (h4 k (hD k d).1).2 e)), fun k e => ⟨(h3 k e).1, by have := (h3 k e).2; omega⟩, ?_⟩
  rintro k (e | e)
  · exact ⟨by have := (h4 k e).1; omega, (h4 k e).2⟩
  · exact ⟨e.2, fun e2 => by have := (h3 k e2).2; omega⟩
/-- a row of words of one's own -/
structure Mine (W0 W : World) (K : Nat → Prop) (v : Value) (ws : List Nat) : Prop where
  row : W.ownsRow W0.heap.size 30 1 v ws.length (wds ws)
  keep : ∀ k, v.ownBlock = some k → K k
  lt : ∀ x ∈ ws, x < 18446744073709551616
  len : ws.length ≤ 900000
theorem Mine.words {v : Value} {ws : List Nat} (o : Mine W0 W K v ws) : WordsAt W v ws := words_own o.row (by have := o.len; omega) o.lt
theorem Mine.upd {v : Value} {ws : List Nat} (o : Mine W0 W K v ws) (hU : Upd (Ch W0 K) W W') : Mine W0 W' K v ws :=
  ⟨owns_on o.row (fun k e => hU.block k (o.row.lt k e).2 (fun h => h.1 (o.keep k e))), o.keep, o.lt, o.len⟩
theorem Mine.below {v : Value} {ws : List Nat} (o : Mine W0 W K v ws) (hB : Below W.heap.size W W') : Mine W0 W' K v ws :=
  ⟨owns_on o.row (fun k e => hB.block k (o.row.lt k e).2), o.keep, o.lt, o.len⟩
theorem Mine.sub {v : Value} {ws : List Nat} (o : Mine W0 W K v ws) (h : ∀ k, K k → K' k) : Mine W0 W K' v ws := ⟨o.row, fun k e => h k (o.keep k e), o.lt, o.len⟩
theorem mine_nil (W0 W : World) (K : Nat → Prop) : Mine W0 W K (.slice none 0 0) [] := ⟨World.ownsRow_nil _ _ _ _, fun k e => (by cases e), fun x h => (by cases h), by decide⟩
theorem mine_lit (hB : W0.heap.size ≤ W.heap.size) (ws : List Nat) (h : ∀ x ∈ ws, x < 18446744073709551616) (hl : ws.length ≤ 900000) : Mine W0 (W.alloc (.cells (wds ws).toArray 30)) (fun k => W.heap.size ≤ k ∧ k < (W.alloc (.cells (wds ws).toArray 30)).heap.size) (.slice (some ⟨W.heap.size, 0, none⟩) ws.length ws.length) ws := by
  have hz : (wds ws).length = ws.length := by unfold wds; simp
  have h1 := World.ownsRow_lit (base := W0.heap.size) (e := 30) (size := 1) W (wds ws).toArray ws.length hB (by unfold maxLen; omega) (by simp [hz])
  refine ⟨by simpa using h1, fun k e => ?_, h, hl⟩
  cases e
  exact ⟨Nat.le_refl _, by rw [World.size_alloc]; exact Nat.lt_succ_self _⟩
/-- a word is put behind -/
theorem mine_append (q : Hf W0 W hb H u K) (ty : TypeId) (v : Value) (ws : List Nat) (o : Mine W0 W K v ws) (x : Nat) (hx : x < 18446744073709551616) (hl : ws.length < 900000) :
    ∃ v' w', (Builtin.append_ #[28, 28] ty #[v, .slice (some ⟨W.heap.size, 0, none⟩) 1 1]).run Try.prog (W.alloc (.cells #[.int .u64 (x : Nat)] 30)) = .ok v' w' ∧ Hf W0 w' hb H u (fun k => K k ∨ (W.heap.size ≤ k ∧ k < w'.heap.size)) ∧ Mine W0 w' (fun k => K k ∨ (W.heap.size ≤ k ∧ k < w'.heap.size)) v' (ws ++ [x]) ∧ Upd (fun k => v.ownBlock = some k) W w' := by
  obtain ⟨i0, hi, hz0, hz1, hz2⟩ := info_parts infoW
  have hB1 : Below W.heap.size W (W.alloc (.cells #[.int .u64 (x : Nat)] 30)) := (Below.refl _ W).alloc (Nat.le_refl _) _
  have z1 : (W.alloc (.cells #[.int .u64 (x : Nat)] 30)).heap.size = W.heap.size + 1 := World.size_alloc ..
  have e0 := World.cell?_alloc_new W #[.int .u64 (x : Nat)] 30
  have ho := o.row.alloc (.cells #[.int .u64 (x : Nat)] 30)
  obtain ⟨v', w', hrun, ho', hg, hk⟩ := append_at (P := Try.prog) (W.alloc (.cells #[.int .u64 (x : Nat)] 30)) 28 ty 30 i0 (.int .u64 0) 1 8 underW hi hz0 hz1 hz2 rfl (by omega) v ws.length (wds ws) (owns_base ho (fun _ _ => Nat.zero_le _)) ⟨W.heap.size, 0, none⟩ 1 1 [.int .u64 (x : Nat)] (by simp) (by
    intro j y hj
    have hj0 : j = 0 := by have := (List.getElem?_eq_some_iff.1 hj).1; simp at this; exact this
    subst hj0
    simp at hj
    subst hj
    have e1 : ((⟨W.heap.size, 0, none⟩ : Addr).add 0) = ⟨W.heap.size, 0, none⟩ := by unfold Addr.add; split <;> simp_all
    rw [e1, e0 0]; rfl) (by intro y hy; simp at hy; rw [hy]; rfl) (by omega) (by omega) (by omega)
  have hlo : ∀ k, v.ownBlock = some k → W0.heap.size ≤ k ∧ k < W.heap.size := fun k e => o.row.lt k e
  have q0 := q.1.size
  have hU1 : Upd (fun k => v.ownBlock = some k) (W.alloc (.cells #[.int .u64 (x : Nat)] 30)) w' := (Upd.refl _ _).grown hg (fun k e => .inl e)
  have hU : Upd (fun k => v.ownBlock = some k) W w' := (Upd.of_below hB1).trans' hU1
  refine ⟨v', w', hrun, q.upd' hU (fun k e => ⟨o.keep k e, (hlo k e).1⟩), ⟨?_, ?_, ?_, by simp; omega⟩, hU⟩
  · have := owns_base ho' (b' := W0.heap.size) (fun g e => by rcases hk g e with e | e
                                                              · exact (hlo g e).1
                                                              · omega)
    unfold wds at *
    rw [List.length_append, List.map_append]
    exact this
  · intro k e
    rcases hk k e with e | e
    · exact .inl (o.keep k e)
    · exact .inr ⟨by omega, e.2⟩
  · intro y hy
    rcases List.mem_append.1 hy with h | h
    · exact o.lt y h
    · simp at h; rw [h]; exact hx
end
/-- behind casketlaw8's box -/
def LPost (W0 : World) (hb : Nat) (H : List (Option Hc)) (u : Nat) (K : Nat → Prop) (t : ByteArray) (e : Ending) (w' : World) : Prop := ∃ (w : Nat) (H' : List (Option Hc)), e = .returned (.tuple #[.int .u64 (w : Nat), .bool true]) ∧ Hf W0 w' hb H' u K ∧ Ext H H' ∧ IsTxt H' w t ∧ sumH H' ≤ sumH H + tneed t ∧ H'.length ≤ H.length + 1
section
variable {W0 W W1 W' : World} {hb : Nat} {H : List (Option Hc)} {u : Nat} {K K' : Nat → Prop}
end
theorem tn_le (t : ByteArray) (n : Nat) (h : t.size ≤ n) : tneed t ≤ 1 + (n + 7) / 8 := by unfold tneed; omega
end Go.Proofs.Ytaebnnkhjlidiab.W
/- Box, told whole: of numbers, doubles and strings, beside what is kept; what all of it takes. -/
namespace Go.Proofs.Ytaebnnkhjlidiab.W
open Go.ChangeShapes Go.WideShapes Go.RowKit Go.Shelf
set_option linter.unusedVariables false
/-- each cell is a root -/
def AllR (H : List (Option Hc)) (ws : List Nat) : Prop := ∀ (i : Nat) (c : Hc), H[i]? = some (some c) → ∃ w ∈ ws, hit H w = some i
theorem hit_ext {H H' : List (Option Hc)} (he : Ext H H') {w i : Nat} (h : hit H w = some i) : hit H' w = some i := by
  unfold hit at h ⊢
  split at h
  · rename_i c
    cases h
    have : ∃ x, H[w % 281474976710656]? = some (some x) := by
      have c2 := c.2
      cases e : H[w % 281474976710656]? with
      | none => rw [e] at c2; cases c2
      | some o => cases o with
        | none => rw [e] at c2; cases c2
        | some x => exact ⟨x, rfl⟩
    obtain ⟨x, hx⟩ := this
    rw [if_pos ⟨c.1, by rw [he _ _ hx]; rfl⟩]
  · cases h
theorem allR_put {H : List (Option Hc)} {ws : List Nat} (h : AllR H ws) (c : Hc) (hl : lid H < 281474976710656) : AllR (putH H (lid H) (some c)) (ws ++ [hw (lid H)]) := by
  intro i x hx
  by_cases e : i = lid H
  · subst e
    exact ⟨hw (lid H), by simp, hit_hw hl (putH_self H _)⟩
  · rw [putH_ne H _ i e] at hx
    obtain ⟨w, hw1, hw2⟩ := h i x hx
    exact ⟨w, List.mem_append_left _ hw1, hit_ext (ext_put H c) hw2⟩
theorem allR_snoc {H : List (Option Hc)} {ws : List Nat} (h : AllR H ws) (w : Nat) : AllR H (ws ++ [w]) := by
  intro i x hx
  obtain ⟨v, h1, h2⟩ := h i x hx
  exact ⟨v, List.mem_append_left _ h1, h2⟩
theorem allR_reach {H : List (Option Hc)} {ws : List Nat} (h : AllR H ws) : reachN H ws = sumH H := by
  have := zip_all (H := H) (ws := ws) (fun i c hc => by obtain ⟨w, h1, h2⟩ := h i c hc; exact .root w i h1 h2)
  unfold reachN
  rw [← zipK_sum, this]
/-- a word of a whole number -/
def IsInt (H : List (Option Hc)) (w : Nat) (i : Int) : Prop := (smallB i = true ∧ (w : Int) = intW i) ∨ ∃ id, w = hw id ∧ id < 281474976710656 ∧ H[id]? = some (some (.num i))
theorem IsInt.ext {H H' : List (Option Hc)} {w : Nat} {i : Int} (h : IsInt H w i) (he : Ext H H') : IsInt H' w i := by
  rcases h with h | ⟨id, h1, h2, h3⟩
  · exact .inl h
  · exact .inr ⟨id, h1, h2, he _ _ h3⟩
theorem IsInt.cls {H : List (Option Hc)} {w : Nat} {i : Int} (h : IsInt H w i) : ¬ cls (w : Int) = 7 := by
  rcases h with ⟨h1, h2⟩ | ⟨id, rfl, h2, h3⟩
  · rw [h2, intW_cls i h1]; decide
  · rw [cls_hw id h2]; decide
theorem IsTxt.cls {H : List (Option Hc)} {w : Nat} {t : ByteArray} (h : IsTxt H w t) : ¬ W.cls (w : Int) = 7 := by
  rcases h with ⟨h1, h2⟩ | ⟨id, rfl, h2, h3⟩
  · rw [h2, txtW_cls t h1]; decide
  · rw [cls_hw id h2]; decide
/-- what a whole number takes -/
def nI (i : Int) : Nat := if smallB i = true then 0 else 2
/-- what a string takes -/
def nT (t : ByteArray) : Nat := if t.size ≤ 5 then 0 else tneed t
theorem num_need (i : Int) : (Hc.num i).need = 2 := by
  unfold Hc.need
  rw [show (Hc.num i).bytes.length = 8 from le8_len _]
/-- behind a value that was boxed -/
def BPost (W0 W1 : World) (hb : Nat) (H : List (Option Hc)) (u : Nat) (K : Nat → Prop) (V : List (Option Hc) → Nat → Prop) (n : Nat) (e : Ending) (w' : World) : Prop := ∃ (w : Nat) (H' : List (Option Hc)), e = .returned (.tuple #[.int .u64 (w : Nat), .int .i64 0]) ∧ Hf W0 w' hb H' u K ∧ Ext H H' ∧ V H' w ∧ sumH H' = sumH H + n ∧ H'.length ≤ H.length + 1 ∧ (∀ ws, AllR H ws → AllR H' (ws ++ [w])) ∧ w < 18446744073709551616 ∧ Upd (Ch W0 K) W1 w'
section
variable {W0 W W1 W' : World} {hb : Nat} {H : List (Option Hc)} {u : Nat} {K K' : Nat → Prop}
theorem BPost.two {V : List (Option Hc) → Nat → Prop} {n : Nat} {e : Ending} (h : BPost W0 W1 hb H u K V n e W') : ∃ x y, e = .returned (.tuple #[.int .u64 x, .int .i64 y]) := by
  obtain ⟨w, H', rfl, _⟩ := h
  exact ⟨_, _, rfl⟩
theorem BPost.on {W2 : World} {V : List (Option Hc) → Nat → Prop} {n : Nat} {e : Ending} (hB : Below W1.heap.size W1 W2) (h : BPost W0 W2 hb H u K V n e W') : BPost W0 W1 hb H u K V n e W' := by
  obtain ⟨w, H', rfl, h1, h2, h3, h4, h5, h6, h7, h8⟩ := h
  exact ⟨w, H', rfl, h1, h2, h3, h4, h5, h6, h7, (Upd.of_below hB).trans' h8⟩
theorem hf_num (q : Hf W0 W1 hb H u K) (i : Int) (h0 : -9223372036854775808 ≤ i) (h1 : i < 9223372036854775808) (hf : sumH H + 2 ≤ u) (vr : Value) (rs : List Nat) (hr : WordsAt W1 vr rs) :
    Calls Try.prog 8 #[.pointer (some ⟨hb, 0, none⟩), .agg #[.int .i64 2, .bool false, .int .i64 i, .string ⟨#[]⟩, .slice none 0 0, .slice none 0 0, .int .u64 0, .int .i64 0, .int .i64 0], vr] W1 fun e w' => e = .returned (.tuple #[.int .u64 (hw (lid H) : Nat), .int .i64 0]) ∧ Hf W0 w' hb (putH H (lid H) (some (.num i))) u K ∧ Upd (Ch W0 K) W1 w' := by
  obtain ⟨g1, S, h2, h3, h4⟩ := q
  refine (put_num h2 (fun k e => (h3 k e).2) i h0 h1 none none 0 0 vr rs hr).mono ?_
  intro e w' hP
  have hf' : sumH H + (Hc.num i).need ≤ u := by rw [num_need]; exact hf
  have hrm : roomH H u (.num i) rs = H := by unfold roomH; rw [if_pos hf']
  rw [hrm] at hP
  obtain ⟨hU, ⟨_, rfl, g⟩ | ⟨hn, _⟩⟩ := hP
  · exact ⟨rfl, Hf.put g1 h3 h4 hU g⟩
  · omega
theorem boxInt_b (q : Hf W0 W1 hb H u K) (vr : Value) (rs : List Nat) (hr : WordsAt W1 vr rs) (i : Int) (h0 : -9223372036854775808 ≤ i) (h1 : i ≤ 9223372036854775807) (hf : sumH H + 2 ≤ u) (hH : H.length ≤ 1000000) : Calls Try.prog 31 #[.pointer (some ⟨hb, 0, none⟩), .int .i64 i, vr] W1 (BPost W0 W1 hb H u K (fun H' w => IsInt H' w i) (nI i)) := by
  by_cases hs : smallB i = true
  · refine (boxInt_small _ vr i h0 h1 hs W1).mono ?_
    rintro e w' ⟨rfl, rfl⟩
    have hbd := intW_bd i hs
    exact ⟨(intW i).toNat, H, by rw [Int.toNat_of_nonneg (by omega)], q, Ext.refl _, .inl ⟨hs, Int.toNat_of_nonneg (by omega)⟩, by unfold nI; rw [if_pos hs]; omega, by omega, fun ws h => allR_snoc h _, by omega, Upd.refl _ _⟩
  · have cf := fromInt_c i h0 h1 W1
    have hs' : smallB i = false := by simpa using hs
    rw [hs'] at cf
    have cp := hf_num q i h0 (by omega) hf vr rs hr
    have fin : Hid (∀ w2, Hf W0 w2 hb (putH H (lid H) (some (.num i))) u K → Upd (Ch W0 K) W1 w2 → BPost W0 W1 hb H u K (fun H' w => IsInt H' w i) (nI i) (.returned (.tuple #[.int .u64 (hw (lid H) : Nat), .int .i64 0])) w2) := by
      show ∀ w2, _
      intro w2 hq hU
      have h9 := lid_le H
      refine ⟨hw (lid H), _, rfl, hq, ext_put H _, .inr ⟨lid H, rfl, by omega, putH_self H _⟩, ?_, ?_, fun ws h => allR_put h _ (by omega), hw_lt _ (by omega), hU⟩
      · unfold nI; rw [putH_sum, num_need, if_neg hs]
      · rw [putH_len]; split <;> omega
    generalize hw (lid H) = X at *
    clear q hr hs
    go_enter Try.func31, Try.ntmps31
    go_wp2_with (first | (go_at_call 60; (with_reducible refine cf.mono ?_); rintro e w' ⟨rfl, hw⟩; (have hw' := hw.symm); subst hw'; clear hw) | (go_at_call 8; (with_reducible refine cp.mono ?_); rintro e w2 ⟨rfl, hq, hU⟩; clear cp))
    go_ret2
    exact fin.out _ hq hU
theorem boxI (q : Hf W0 W1 hb H u K) (vr : Value) (rs : List Nat) (hr : WordsAt W1 vr rs) (i : Int) (h0 : -9223372036854775808 ≤ i) (h1 : i ≤ 9223372036854775807) (hf : sumH H + 2 ≤ u) (hH : H.length ≤ 1000000) : Calls Try.prog 12 #[.pointer (some ⟨hb, 0, none⟩), .agg #[.int .i64 2, .int .i64 i, .int .u64 0, .string ⟨#[]⟩, .int .u64 0], vr] W1 (BPost W0 W1 hb H u K (fun H' w => IsInt H' w i) (nI i)) := by
  refine (box_int _ vr i (fun w e w' => BPost W0 w hb H u K (fun H' w => IsInt H' w i) (nI i) e w') (fun w e w' h => h.two) W1 (fun w hB => boxInt_b (q.below' hB) vr rs (words_below hr hB) i h0 h1 hf hH)).mono ?_
  rintro e w' ⟨w, hB, h⟩
  exact h.on hB
theorem boxF (q : Hf W0 W1 hb H u K) (vr : Value) (bi : Int) (h0 : 0 ≤ bi) (h1 : bi < 18446744073709551616) : Calls Try.prog 12 #[.pointer (some ⟨hb, 0, none⟩), .agg #[.int .i64 3, .int .i64 0, .int .u64 bi, .string ⟨#[]⟩, .int .u64 0], vr] W1 (BPost W0 W1 hb H u K (fun _ w => (w : Int) = fltW bi) 0) := by
  refine (box_float _ vr bi h0 h1 W1).mono ?_
  rintro e w' ⟨rfl, hB⟩
  have hbd := fltW_bd bi h0 h1
  exact ⟨(fltW bi).toNat, H, by rw [Int.toNat_of_nonneg hbd.1], q.below' hB, Ext.refl _, Int.toNat_of_nonneg hbd.1, by omega, by omega, fun ws h => allR_snoc h _, by omega, Upd.of_below hB⟩
theorem boxText_b (q : Hf W0 W1 hb H u K) (vr : Value) (rs : List Nat) (hr : WordsAt W1 vr rs) (t : ByteArray) (hl : t.size ≤ 8388608) (hf : sumH H + tneed t ≤ u) (hH : H.length ≤ 1000000) : Calls Try.prog 33 #[.pointer (some ⟨hb, 0, none⟩), .string t, vr] W1 (BPost W0 W1 hb H u K (fun H' w => IsTxt H' w t) (nT t)) := by
  by_cases hs : t.size ≤ 5
  · refine (boxText_small _ vr t hs W1).mono ?_
    rintro e w' ⟨rfl, rfl⟩
    have hb5 := cls_is5 _ (txtW_cls t hs)
    exact ⟨(txtW t).toNat, H, by rw [Int.toNat_of_nonneg (by omega)], q, Ext.refl _, .inl ⟨hs, Int.toNat_of_nonneg (by omega)⟩, by unfold nT; rw [if_pos hs]; omega, by omega, fun ws h => allR_snoc h _, by omega, Upd.refl _ _⟩
  · have cf := fromText_c t (by simp [maxLen]; omega) W1
    rw [decide_eq_false hs] at cf
    have h1 : ¬ (t.size : Int) > 8388608 := by omega
    have cp := hf_text q t hl hf vr rs hr
    have fin : Hid (∀ w2, Hf W0 w2 hb (putH H (lid H) (some (.text (strB t)))) u K → Upd (Ch W0 K) W1 w2 → BPost W0 W1 hb H u K (fun H' w => IsTxt H' w t) (nT t) (.returned (.tuple #[.int .u64 (hw (lid H) : Nat), .int .i64 0])) w2) := by
      show ∀ w2, _
      intro w2 hq hU
      have h9 := lid_le H
      refine ⟨hw (lid H), _, rfl, hq, ext_put H _, .inr ⟨lid H, rfl, by omega, putH_self H _⟩, ?_, ?_, fun ws h => allR_put h _ (by omega), hw_lt _ (by omega), hU⟩
      · unfold nT; rw [putH_sum, text_need, if_neg hs]; rfl
      · rw [putH_len]; split <;> omega
    generalize hw (lid H) = X at *
    clear q hr hs
    go_enter Try.func33, Try.ntmps33
    go_wp2_with (first | (go_at_call 62; (with_reducible refine cf.mono ?_); rintro e w' ⟨rfl, hw⟩; (have hw' := hw.symm); subst hw'; clear hw) | (go_at_call 8; (with_reducible refine cp.mono ?_); rintro e w2 ⟨rfl, hq, hU⟩; clear cp))
    go_ret2
    exact fin.out _ hq hU
theorem boxS (q : Hf W0 W1 hb H u K) (vr : Value) (rs : List Nat) (hr : WordsAt W1 vr rs) (t : ByteArray) (hl : t.size ≤ 8388608) (hf : sumH H + tneed t ≤ u) (hH : H.length ≤ 1000000) : Calls Try.prog 12 #[.pointer (some ⟨hb, 0, none⟩), .agg #[.int .i64 4, .int .i64 0, .int .u64 0, .string t, .int .u64 0], vr] W1 (BPost W0 W1 hb H u K (fun H' w => IsTxt H' w t) (nT t)) := by
  refine (box_text _ vr t (fun w e w' => BPost W0 w hb H u K (fun H' w => IsTxt H' w t) (nT t) e w') (fun w e w' h => h.two) W1 (fun w hB => boxText_b (q.below' hB) vr rs (words_below hr hB) t hl hf hH)).mono ?_
  rintro e w' ⟨w, hB, h⟩
  exact h.on hB
theorem unbox_int {S : Nat → Prop} (q : HSt W1 S hb H u) (w : Nat) (i : Int) (h : IsInt H w i) :
    Calls Try.prog 14 #[.pointer (some ⟨hb, 0, none⟩), .int .u64 w] W1 fun e w' => e = .returned (.tuple #[.agg #[.int .i64 2, .int .i64 i, .int .u64 0, .string ⟨#[]⟩, .int .u64 0], .int .i64 0]) ∧ Below W1.heap.size W1 w' := by
  rcases h with ⟨h1, h2⟩ | ⟨id, rfl, h2, h3⟩
  · rw [h2]; exact unbox_sint i h1 _ W1
  · obtain ⟨sb, vc, T, l, _⟩ := q
    exact unbox_num l (hw id) (hw_lt id h2) (cls_hw id h2) id (hit_hw h2 h3) i h3
theorem hf_reach (q : Hf W0 W1 hb H u K) (vr : Value) (rs : List Nat) (hr : WordsAt W1 vr rs) :
    Calls Try.prog 10 #[.pointer (some ⟨hb, 0, none⟩), vr] W1 fun e w' => e = .returned (.int .i64 (reachN H rs : Nat)) ∧ Below W1.heap.size W1 w' := by
  obtain ⟨_, S, ⟨sb, vc, T, l, _, _, _, hs⟩, _⟩ := q
  have hu := l.u1
  refine (hreach_c l (by omega) vr rs hr).mono ?_
  rintro e w' ⟨rfl, hB'⟩
  exact ⟨rfl, hB'⟩
/-- a copy of a row of words -/
theorem copy_run (ty : TypeId) (v : Value) (ws : List Nat) (h : WordsAt W1 v ws) (hl : ws.length ≤ 900000) : ∃ v' w', (Builtin.append_ #[28, 28] ty #[.slice (some ⟨W1.heap.size, 0, none⟩) 0 0, v]).run Try.prog (W1.alloc (.cells #[] 30)) = .ok v' w' ∧ WordsAt w' v' ws ∧ Below W1.heap.size W1 w' := by
  have hB1 : Below W1.heap.size W1 (W1.alloc (.cells #[] 30)) := (Below.refl _ W1).alloc (Nat.le_refl _) _
  have h0 := World.ownsRow_lit (base := W1.heap.size) (e := 30) (size := 1) W1 #[] 0 (Nat.le_refl _) (by simp) (by simp)
  obtain ⟨v', w', hrun, ho, hg⟩ := app_words (W1.alloc (.cells #[] 30)) W1.heap.size ty hB1.size (.slice (some ⟨W1.heap.size, 0, none⟩) 0 0) 0 [] h0 v ws (words_below h hB1) (by omega)
  have hU : Upd (fun k => W1.heap.size ≤ k) (W1.alloc (.cells #[] 30)) w' := (Upd.refl _ _).grown hg (fun k e => .inl (by cases e; exact Nat.le_refl _))
  have h64 := h.choose_spec.choose_spec.2.2.1
  refine ⟨v', w', hrun, words_own (B := W1.heap.size) (by simpa using ho) (by omega) h64, hB1.trans (hU.below hB1.size (fun k e => e))⟩
end
end Go.Proofs.Ytaebnnkhjlidiab.W
/- Package heap: save, of a buffer. -/
namespace Go.Proofs.Ytaebnnkhjlidiab.W
open Go.ChangeShapes Go.WideShapes Go.RowKit Go.Shelf
set_option linter.unusedVariables false
section
variable {W W' : World} {hb sb : Nat} {vc : Value} {T : Nat → Prop} {H : List (Option Hc)} {u h : Nat}
theorem mkc_buf (k : Int) (hk : elB k > 0) (n : Nat) (h : n ≤ 8388608) : Mkc (Hc.buf k) n := ⟨fun b => rfl, fun b b' => rfl, fun b hb hl => ⟨hk, hb, by omega⟩⟩
theorem save_buf (g : HLay W hb sb vc T H u h) (id : Nat) (k : Int) (hk : elB k > 0) (bs : List Nat) (hb256 : ∀ x ∈ bs, x < 256) (hc : H[id]? = some (some (.buf k (List.replicate bs.length 0)))) (hl : bs.length ≤ 8388608) (ob ow : Option Addr) (bc wc : Nat) (hcap : bs.length ≤ bc) (hv : ByteRow W ob bs) (ho : ∀ x, ob = some x → ¬ T x.block ∧ x.block < W.heap.size) :
    Calls Try.prog 57 #[.pointer (some ⟨hb, 0, none⟩), .int .i64 id, .agg #[.int .i64 k, .bool false, .int .i64 0, .string ByteArray.empty, .slice ob bs.length bc, .slice ow 0 wc, .int .u64 0, .int .i64 0, .int .i64 0]] W fun e w' => e = .returned (.tuple #[]) ∧ Upd T W w' ∧ HLay w' hb sb vc T (H.set id (some (.buf k bs))) u h := by
  have hBa : Below W.heap.size W (W.alloc (.cells #[.int .i64 k, .bool false, .int .i64 0, .string ByteArray.empty, .slice ob bs.length bc, .slice ow 0 wc, .int .u64 0, .int .i64 0, .int .i64 0] 32)) := (Below.refl _ W).alloc (Nat.le_refl _) _
  have ga := g.below hBa
  have hsa := hBa.size
  have cs : ∀ w, Calls Try.prog 43 #[.int .i64 k, .bool false] w fun e w' => e = .returned (.int .i64 3) ∧ w' = w := fun w => shape_buf k hk w
  have cb := saveBytes_c ga (Hc.buf k) bs (mkc_buf k hk _ hl) hb256 hl id hc ob bc hcap (byteRow_upd hv (Upd.of_below (S := fun _ => False) hBa) (fun x e hF => hF)) (fun x e => ⟨(ho x e).1, Nat.lt_of_lt_of_le (ho x e).2 hsa⟩)
  have c4 := World.cell?_alloc_new W #[.int .i64 k, .bool false, .int .i64 0, .string ByteArray.empty, .slice ob bs.length bc, .slice ow 0 wc, .int .u64 0, .int .i64 0, .int .i64 0] 32 4
  simp only [List.getElem?_toArray, List.getElem?_cons_succ, List.getElem?_cons_zero] at c4
  have fin : Hid (∀ w2, Upd T (W.alloc (.cells #[.int .i64 k, .bool false, .int .i64 0, .string ByteArray.empty, .slice ob bs.length bc, .slice ow 0 wc, .int .u64 0, .int .i64 0, .int .i64 0] 32)) w2 → Upd T W w2) := by
    show ∀ w2, _
    intro w2 hU
    exact (Upd.of_below hBa).trans' hU
  clear ga hsa hBa g hv
  go_enter Try.func57, Try.ntmps57
  go_wp2_with (first | (go_at_call 43; (with_reducible refine (cs _).mono ?_); rintro e w' ⟨rfl, hw⟩; (have hw' := hw.symm); subst hw'; clear hw) | (go_at_call 85; (with_reducible refine cb.mono ?_); rintro e w2 ⟨rfl, hU2, hL2⟩; clear cb))
  go_end0
  exact ⟨rfl, fin.out _ hU2, hL2⟩
end
end Go.Proofs.Ytaebnnkhjlidiab.W
