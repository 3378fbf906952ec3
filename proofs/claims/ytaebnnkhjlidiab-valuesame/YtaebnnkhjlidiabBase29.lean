import Derived.Test.YtaebnnkhjlidiabBase27
import Derived.Test.YtaebnnkhjlidiabBase20
import Derived.Test.YtaebnnkhjlidiabBase28
import Derived.Test.YtaebnnkhjlidiabBase22
import Derived.Test.YtaebnnkhjlidiabBase26
/- Steps of statements over a heap of their own: a view is put, what is reached is left; bytes and words that are made. -/
namespace Go.Proofs.Ytaebnnkhjlidiab.W
open Go.ChangeShapes Go.WideShapes Go.RowKit Go.Shelf
set_option linter.unusedVariables false
theorem lt_get {W : World} {b : Nat} {o : Obj} (h : W.heap[b]? = some o) : b < W.heap.size := (Array.getElem?_eq_some_iff.1 h).1
theorem wf_i64 {i : Int} (h : (Lit.int .i64 i).wf = true) : -9223372036854775808 ≤ i ∧ i ≤ 9223372036854775807 := by
  simp [Lit.wf] at h
  have e1 : IntKind.i64.min = -9223372036854775808 := by decide
  have e2 : IntKind.i64.max = 9223372036854775807 := by decide
  omega
theorem wf_u64 {i : Int} (h : (Lit.int .u64 i).wf = true) : 0 ≤ i ∧ i ≤ 18446744073709551615 := by
  simp [Lit.wf] at h
  have e1 : IntKind.u64.min = 0 := by decide
  have e2 : IntKind.u64.max = 18446744073709551615 := by decide
  omega
theorem wf_u8 {i : Int} (h : (Lit.int .u8 i).wf = true) : 0 ≤ i ∧ i ≤ 255 := by
  simp [Lit.wf] at h
  have e1 : IntKind.u8.min = 0 := by decide
  have e2 : IntKind.u8.max = 255 := by decide
  omega
theorem view_need (k : Int) (b p n : Nat) : (Hc.view k b p n).need = 1 := by unfold Hc.need; show 1 + (0 + 7) / 8 = 1; rfl
theorem bufn_need (k : Int) (bs : List Nat) : (Hc.buf k bs).need = 1 + (bs.length + 7) / 8 := rfl
section
variable {W0 W W1 W' : World} {hb : Nat} {H : List (Option Hc)} {u : Nat} {K K' : Nat → Prop}
theorem hf_view (q : Hf W0 W1 hb H u K) (k : Int) (hk : elB k > 0) (ba p n : Nat) (hba : ba < 18446744073709551616) (id : Nat) (hi : hit H ba = some id) (k2 : Int) (bs : List Nat) (hc : H[id]? = some (some (.buf k2 bs))) (hp : p ≤ bs.length) (hpm : p % elB k = 0) (hn : n ≤ (bs.length - p) / elB k) (hf : sumH H + 1 ≤ u) (vr : Value) (rs : List Nat) (hr : WordsAt W1 vr rs) :
    Calls Try.prog 8 #[.pointer (some ⟨hb, 0, none⟩), .agg #[.int .i64 k, .bool true, .int .i64 0, .string ⟨#[]⟩, .slice none 0 0, .slice none 0 0, .int .u64 ba, .int .i64 p, .int .i64 n], vr] W1 fun e w' => e = .returned (.tuple #[.int .u64 (hw (lid H) : Nat), .int .i64 0]) ∧ Hf W0 w' hb (putH H (lid H) (some (.view k ba p n))) u K ∧ Upd (Ch W0 K) W1 w' := by
  obtain ⟨h1, S, h2, h3, h4⟩ := q
  exact (put_view h2 (fun k e => (h3 k e).2) k hk ba p n hba id hi k2 bs hc hp hpm hn none none 0 0 vr rs hr).mono (fun e w' hP => Hf.fits h1 h3 h4 (by rw [view_need]; exact hf) hP)
theorem hf_collect (q : Hf W0 W1 hb H u K) (vr : Value) (rs : List Nat) (hr : WordsAt W1 vr rs) (hall : ∀ i c, H[i]? = some (some c) → Rch H rs i) :
    Calls Try.prog 9 #[.pointer (some ⟨hb, 0, none⟩), vr] W1 fun e w' => e = .returned (.tuple #[]) ∧ Hf W0 w' hb H u K ∧ Upd (Ch W0 K) W1 w' := by
  obtain ⟨h1, S, h2, h3, h4⟩ := q
  refine (hcollect_c h2 (fun k e => (h3 k e).2) vr rs hr).mono ?_
  rintro e w' ⟨rfl, hU, g⟩
  rw [zip_all hall] at g
  exact ⟨rfl, Hf.put h1 h3 h4 hU g⟩
theorem reach_all {ws : List Nat} (hall : ∀ i c, H[i]? = some (some c) → Rch H ws i) : reachN H ws = sumH H := by
  have := zip_all hall
  unfold reachN
  rw [← zipK_sum, this]
theorem own_at {B0 gb cap n : Nat} {t : TypeId} {xs : List Value} (h : W.ownsRow B0 t 1 (.slice (some ⟨gb, 0, none⟩) n cap) n xs) (i : Nat) (v : Value) (hi : xs[i]? = some v) : W.cell? ⟨gb, i, none⟩ = some v := by
  have := h.cells (g := gb) rfl i v hi
  have e : ((⟨gb, 0, none⟩ : Addr).add i) = ⟨gb, i, none⟩ := by unfold Addr.add; split <;> simp_all
  rwa [e] at this
/-- bytes that were made, as a row -/
theorem byteRow_own {B0 gb cap n : Nat} {bs : List Nat} (h : W.ownsRow B0 5 1 (.slice (some ⟨gb, 0, none⟩) n cap) n (bs.map byteV)) : ByteRow W (some ⟨gb, 0, none⟩) bs := by
  refine .inr ⟨gb, 0, rfl, fun i hi => ?_⟩
  rw [Nat.zero_add]
  exact own_at h i (byteV bs[i]) (by rw [List.getElem?_map, List.getElem?_eq_getElem hi]; rfl)
theorem made_bytes (w : World) (n : Nat) (hn : n ≤ 8388608) : ∃ w', (Instr.makeSlice 29 (.int .i64 (n : Int)) (.int .i64 (n : Int))).run Try.prog w = .ok (.slice (some ⟨w.heap.size, 0, none⟩) n n) w' ∧ ByteRow w' (some ⟨w.heap.size, 0, none⟩) (List.replicate n 0) ∧ Below w.heap.size w w' ∧ w.heap.size < w'.heap.size := by
  obtain ⟨w', h1, h2, h3⟩ := make_bytes w n hn
  have hU : Upd (fun _ => False) w w' := (Upd.refl (fun _ => False) w).grown h3 (fun k e => by cases e)
  exact ⟨w', h1, byteRow_own h2, hU.below (Nat.le_refl _) (fun k e => e.elim), (h2.lt _ rfl).2⟩
/-- a buffer of noughts that were made -/
theorem hf_blank (q : Hf W0 W hb H u K) (hB : Below W.heap.size W W1) (k : Int) (hk : elB k > 0) (n : Nat) (hl : n ≤ 8388608) (hmod : n % elB k = 0) (gb : Nat) (hg0 : W.heap.size ≤ gb) (hg1 : gb < W1.heap.size) (hv : ByteRow W1 (some ⟨gb, 0, none⟩) (List.replicate n 0)) (hf : sumH H + (1 + (n + 7) / 8) ≤ u) (vr : Value) (rs : List Nat) (hr : WordsAt W1 vr rs) :
    Calls Try.prog 8 #[.pointer (some ⟨hb, 0, none⟩), .agg #[.int .i64 k, .bool false, .int .i64 0, .string ⟨#[]⟩, .slice (some ⟨gb, 0, none⟩) n n, .slice none 0 0, .int .u64 0, .int .i64 0, .int .i64 0], vr] W1 fun e w' => e = .returned (.tuple #[.int .u64 (hw (lid H) : Nat), .int .i64 0]) ∧ Hf W0 w' hb (putH H (lid H) (some (.buf k (List.replicate n 0)))) u K ∧ Upd (Ch W0 K) W w' := by
  have q1 := q.below hB
  have hlen : (List.replicate n 0).length = n := List.length_replicate
  have := hf_buf q1 k hk (List.replicate n 0) (fun x hx => by rw [(List.mem_replicate.1 hx).2]; decide) (by rw [hlen]; exact hl) (by rw [hlen]; exact hmod) (some ⟨gb, 0, none⟩) none n 0 (by rw [hlen]; exact Nat.le_refl _) hv (fun x e => by cases e; exact .inr ⟨hg0, hg1⟩) (by rw [bufn_need, hlen]; exact hf) vr rs hr
  rw [hlen] at this
  refine this.mono ?_
  rintro e w' ⟨rfl, h1, h2⟩
  refine ⟨rfl, h1.sub (fun k e => .inl e), (Upd.of_below hB).trans' (h2.mono ?_)⟩
  rintro x ⟨e1, e2⟩
  exact ⟨fun e => e1 (.inl e), e2⟩
end
end Go.Proofs.Ytaebnnkhjlidiab.W
/- Cells that refer to none, some of them kept: what is reached, what is left, what fits. -/
namespace Go.Proofs.Ytaebnnkhjlidiab.W
open Go.ChangeShapes Go.WideShapes Go.RowKit Go.Shelf
set_option linter.unusedVariables false
/-- no cell refers to another one; ids are cells, each once -/
structure Kp (H : List (Option Hc)) (ids : List Nat) : Prop where
  leaf : ∀ (i : Nat) (c : Hc), H[i]? = some (some c) → ∀ w ∈ c.succ, w = 0
  live : ∀ i ∈ ids, ∃ c, H[i]? = some (some c)
  nod : ids.Nodup
  len : H.length ≤ 1000000
/-- what they need -/
def idsum (H : List (Option Hc)) (ids : List Nat) : Nat := (ids.map (fun i => needO ((H[i]?).getD none))).foldr (· + ·) 0
theorem idsum_cons (H : List (Option Hc)) (i : Nat) (ids : List Nat) : idsum H (i :: ids) = needO ((H[i]?).getD none) + idsum H ids := rfl
theorem idsum_snoc (H : List (Option Hc)) (ids : List Nat) (i : Nat) : idsum H (ids ++ [i]) = idsum H ids + needO ((H[i]?).getD none) := by
  induction ids with
  | nil => simp [idsum]
  | cons a r ih => rw [List.cons_append, idsum_cons, idsum_cons, ih]; omega
theorem idsum_same {H H' : List (Option Hc)} {ids : List Nat} (h : ∀ i ∈ ids, H'[i]? = H[i]?) : idsum H' ids = idsum H ids := by
  induction ids with
  | nil => rfl
  | cons a r ih => rw [idsum_cons, idsum_cons, h a (by simp), ih (fun i hi => h i (by simp [hi]))]
theorem bools_false {R : List Bool} {n : Nat} (hl : R.length = n) (h : ∀ i : Nat, ¬ R[i]? = some true) : R = List.replicate n false := by
  apply List.ext_getElem?
  intro i
  by_cases hi : i < n
  · rw [List.getElem?_replicate, if_pos hi]
    have e : R[i]? = some R[i] := List.getElem?_eq_getElem (by omega)
    cases hx : R[i] with
    | true => exact absurd (by rw [e, hx]) (h i)
    | false => rw [e, hx]
  · rw [List.getElem?_eq_none (by omega), List.getElem?_eq_none (by simp; omega)]
theorem needR_ids (H : List (Option Hc)) (ids : List Nat) (hn : ids.Nodup) (R : List Bool) (hl : R.length = H.length) (hR : ∀ i : Nat, R[i]? = some true ↔ i ∈ ids) : needR H R = idsum H ids := by
  induction ids generalizing R with
  | nil =>
    rw [bools_false hl (fun i e => by have := (hR i).1 e; cases this)]
    exact needR_false H _
  | cons a r ih =>
    have hn' := List.nodup_cons.1 hn
    have ha := (hR a).2 (by simp)
    have hal : a < R.length := (List.getElem?_eq_some_iff.1 ha).1
    have e1 : (R.set a false).set a true = R := by
      apply List.ext_getElem?
      intro i
      rw [List.set_set]
      by_cases h : i = a
      · subst h; rw [List.getElem?_set_self hal, ha]
      · rw [List.getElem?_set_ne (fun e => h e.symm)]
    have hs : ∀ i : Nat, (R.set a false)[i]? = some true ↔ i ∈ r := by
      intro i
      by_cases h : i = a
      · subst h
        rw [List.getElem?_set_self hal]
        simp [hn'.1]
      · rw [List.getElem?_set_ne (fun e => h e.symm), hR i]
        simp [h]
    have ih' := ih hn'.2 (R.set a false) (by rw [List.length_set]; exact hl) hs
    have hH : H[a]? = some H[a] := List.getElem?_eq_getElem (by omega)
    have := needR_set H (R.set a false) a H[a] (by rw [List.length_set]; exact hl) hH (List.getElem?_set_self hal)
    rw [e1, ih'] at this
    rw [this, idsum_cons, hH]
    simp only [Option.getD_some]
    omega
section
variable {H : List (Option Hc)} {ids : List Nat} {u : Nat}
theorem Kp.lt (k : Kp H ids) {i : Nat} (hi : i ∈ ids) : i < H.length := by
  obtain ⟨c, hc⟩ := k.live i hi
  exact (List.getElem?_eq_some_iff.1 hc).1
theorem Kp.rch (k : Kp H ids) (ex : List Nat) (hex : ∀ w ∈ ex, w = 0) (i : Nat) : Rch H (ids.map hw ++ ex) i ↔ i ∈ ids := by
  constructor
  · intro h
    induction h with
    | root w i hw' hh =>
      rcases List.mem_append.1 hw' with hw' | hw'
      · obtain ⟨j, hj, rfl⟩ := List.mem_map.1 hw'
        obtain ⟨c, hc⟩ := k.live j hj
        rw [hit_hw (by have := k.lt hj; have := k.len; omega) hc] at hh
        injection hh with hh
        rw [← hh]; exact hj
      · rw [hex w hw', hit_zero] at hh; cases hh
    | step j i w c _ hc hw' hh _ => rw [k.leaf j c hc w hw', hit_zero] at hh; cases hh
  · intro h
    obtain ⟨c, hc⟩ := k.live i h
    exact .root (hw i) i (List.mem_append_left _ (List.mem_map_of_mem h)) (hit_hw (by have := k.lt h; have := k.len; omega) hc)
theorem Kp.need (k : Kp H ids) (ex : List Nat) (hex : ∀ w ∈ ex, w = 0) : needR H (rchB H (ids.map hw ++ ex)) = idsum H ids :=
  needR_ids H ids k.nod _ (rchB_len H _) (fun i => (rchB_get H _ i).trans (k.rch ex hex i))
theorem Kp.reach (k : Kp H ids) : reachN H (ids.map hw) = idsum H ids := by
  have := k.need [] (by simp)
  rw [List.append_nil] at this
  exact this
theorem Kp.le (k : Kp H ids) : idsum H ids ≤ sumH H := by
  rw [← k.reach]; exact needR_le H _
theorem Kp.zip (k : Kp H ids) (ex : List Nat) (hex : ∀ w ∈ ex, w = 0) : Kp (zipK H (rchB H (ids.map hw ++ ex))) ids ∧ (∀ i ∈ ids, (zipK H (rchB H (ids.map hw ++ ex)))[i]? = H[i]?) ∧ sumH (zipK H (rchB H (ids.map hw ++ ex))) = idsum H ids ∧ (zipK H (rchB H (ids.map hw ++ ex))).length = H.length := by
  have hl := zipK_len H _ (rchB_len H (ids.map hw ++ ex))
  have hs : ∀ i ∈ ids, (zipK H (rchB H (ids.map hw ++ ex)))[i]? = H[i]? := by
    intro i hi
    rw [zipK_get H _ (rchB_len H _) i (k.lt hi)]
    have hr := (rchB_get H (ids.map hw ++ ex) i).2 ((k.rch ex hex i).2 hi)
    rw [if_pos (by rw [List.getD_eq_getElem?_getD, hr]; rfl)]
  refine ⟨⟨?_, ?_, k.nod, by rw [hl]; exact k.len⟩, hs, by rw [zipK_sum]; exact k.need ex hex, hl⟩
  · intro i c hc
    have hi : i < H.length := by have := (List.getElem?_eq_some_iff.1 hc).1; omega
    rw [zipK_get H _ (rchB_len H _) i hi] at hc
    split at hc
    · exact k.leaf i c hc
    · cases hc
  · intro i hi
    rw [hs i hi]; exact k.live i hi
theorem Kp.room (k : Kp H ids) (c : Hc) (hc : ∀ w ∈ c.seeds, w = 0) : Kp (roomH H u c (ids.map hw)) ids ∧ (∀ i ∈ ids, (roomH H u c (ids.map hw))[i]? = H[i]?) ∧ (sumH (roomH H u c (ids.map hw)) + c.need ≤ u ↔ idsum H ids + c.need ≤ u) ∧ (roomH H u c (ids.map hw)).length = H.length := by
  unfold roomH
  have hle := k.le
  split
  · exact ⟨k, fun _ _ => rfl, ⟨fun _ => by omega, fun _ => by assumption⟩, rfl⟩
  · obtain ⟨z1, z2, z3, z4⟩ := k.zip c.seeds hc
    exact ⟨z1, z2, by rw [z3], z4⟩
theorem Kp.put (k : Kp H ids) (c : Hc) (hc : ∀ w ∈ c.succ, w = 0) (hl : H.length < 1000000) : Kp (putH H (lid H) (some c)) (ids ++ [lid H]) ∧ Kp (putH H (lid H) (some c)) ids ∧ idsum (putH H (lid H) (some c)) ids = idsum H ids ∧ idsum (putH H (lid H) (some c)) (ids ++ [lid H]) = idsum H ids + c.need ∧ (putH H (lid H) (some c)).length ≤ H.length + 1 := by
  have hni : ∀ i ∈ ids, i ≠ lid H := by
    intro i hi e
    obtain ⟨d, hd⟩ := k.live i hi
    have := lid_free (H := H) (by rw [← e]; exact k.lt hi)
    rw [e, this] at hd
    cases hd
  have hs : ∀ i ∈ ids, (putH H (lid H) (some c))[i]? = H[i]? := fun i hi => putH_ne H _ i (hni i hi)
  have hself := putH_self H (some c)
  have hlen : (putH H (lid H) (some c)).length ≤ H.length + 1 := by rw [putH_len]; split <;> omega
  have leaf' : ∀ (i : Nat) (d : Hc), (putH H (lid H) (some c))[i]? = some (some d) → ∀ w ∈ d.succ, w = 0 := by
    intro i d hd
    by_cases e : i = lid H
    · subst e
      rw [hself] at hd
      injection hd with hd
      injection hd with hd
      subst hd
      exact hc
    · rw [putH_ne H _ i e] at hd
      exact k.leaf i d hd
  have e1 := idsum_same hs
  refine ⟨⟨leaf', ?_, ?_, by omega⟩, ⟨leaf', fun i hi => by rw [hs i hi]; exact k.live i hi, k.nod, by omega⟩, e1, ?_, hlen⟩
  · intro i hi
    rcases List.mem_append.1 hi with hi | hi
    · rw [hs i hi]; exact k.live i hi
    · simp at hi; subst hi; exact ⟨c, hself⟩
  · rw [List.nodup_append]
    refine ⟨k.nod, by simp, ?_⟩
    intro a ha b hb
    simp at hb
    rw [hb]
    exact hni a ha
  · rw [idsum_snoc, e1, hself]; rfl
theorem kp_nil : Kp [] [] := ⟨fun i c h => (by simp at h), fun i h => (by cases h), List.nodup_nil, by simp⟩
end
/-- a row of noughts -/
def nrow (n : Nat) : Hc := .row (List.replicate n 0)
theorem nrow_seeds (n : Nat) : ∀ w ∈ (nrow n).seeds, w = 0 := by
  intro w hw
  unfold nrow Hc.seeds Hc.ws at hw
  rcases List.mem_append.1 hw with h | h
  · exact (List.mem_replicate.1 h).2
  · simp at h; exact h
theorem nrow_succ (n : Nat) : ∀ w ∈ (nrow n).succ, w = 0 := by
  intro w hw
  exact (List.mem_replicate.1 hw).2
theorem nrow_need (n : Nat) : (nrow n).need = 1 + n := by unfold nrow; rw [row_need, List.length_replicate]
end Go.Proofs.Ytaebnnkhjlidiab.W
