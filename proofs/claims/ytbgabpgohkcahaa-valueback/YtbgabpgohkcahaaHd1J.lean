import Derived.Test.YtbgabpgohkcahaaHd0J
/- A heap that a statement made itself: what Put and Reach do to it. -/
namespace Go.Proofs.Ytbgabpgohkcahaa.W
open Go.ChangeShapes Go.WideShapes Go.RowKit Go.Shelf
set_option linter.unusedVariables false
/-- a heap that was made behind W0 -/
def Hs (W0 W : World) (hb : Nat) (H : List (Option Hc)) (u : Nat) : Prop := Below W0.heap.size W0 W ∧ HSt W (fun k => W0.heap.size ≤ k ∧ k < W.heap.size) hb H u
section
variable {W0 W W1 W' : World} {hb : Nat} {H : List (Option Hc)} {u : Nat}
theorem Hs.bel (q : Hs W0 W hb H u) : Below W0.heap.size W0 W := q.1
theorem Hs.below (q : Hs W0 W hb H u) (hB : Below W.heap.size W W') : Hs W0 W' hb H u := by
  have h1 := q.1.size
  have h2 := hB.size
  exact ⟨q.1.trans (hB.mono h1), (q.2.below hB).mono (fun k e => ⟨e.1, by omega⟩)⟩
theorem hs_new (hB : Below W0.heap.size W0 W) (u : Nat) (hu : u ≤ 1048576) : Calls Try.prog 6 #[.int .i64 u] W fun e w' => ∃ hb, e = .returned (.tuple #[.pointer (some ⟨hb, 0, none⟩), .int .i64 0]) ∧ Hs W0 w' hb [] u := by
  refine (hnew_c u hu W).mono ?_
  rintro e w' ⟨hb, rfl, hB', g⟩
  have h1 := hB.size
  exact ⟨hb, rfl, hB.trans (hB'.mono h1), g.mono (fun k e => ⟨by omega, e.2⟩)⟩
theorem Hs.upd {H' : List (Option Hc)} (q : Hs W0 W hb H u) (hB : Below W.heap.size W W1) (hU : Upd (fun k => W0.heap.size ≤ k ∧ k < W.heap.size) W1 W') (g : HSt W' (Nx (fun k => W0.heap.size ≤ k ∧ k < W.heap.size) W1 W') hb H' u) : Hs W0 W' hb H' u := by
  have h1 := q.1.size
  have h2 := hB.size
  have h3 := hU.size
  have b1 : Below W0.heap.size W1 W' := hU.below (by omega) (fun k e => e.1)
  refine ⟨(q.1.trans (hB.mono h1)).trans b1, g.mono ?_⟩
  rintro k (e | e)
  · exact ⟨e.1, by omega⟩
  · exact ⟨by omega, e.2⟩
/-- what Put answers and leaves -/
def HsPost (W0 : World) (hb : Nat) (H1 : List (Option Hc)) (u : Nat) (c : Hc) (e : Ending) (w' : World) : Prop := (sumH H1 + c.need ≤ u ∧ e = .returned (.tuple #[.int .u64 (hw (lid H1) : Nat), .int .i64 0]) ∧ Hs W0 w' hb (putH H1 (lid H1) (some c)) u) ∨ (u < sumH H1 + c.need ∧ e = .returned (.tuple #[.int .u64 0, .int .i64 40]) ∧ Hs W0 w' hb H1 u)
theorem HsPost.fits {c : Hc} {rs : List Nat} {e : Ending} (h : HsPost W0 hb (roomH H u c rs) u c e W') (hf : sumH H + c.need ≤ u) : e = .returned (.tuple #[.int .u64 (hw (lid H) : Nat), .int .i64 0]) ∧ Hs W0 W' hb (putH H (lid H) (some c)) u := by
  have hr : roomH H u c rs = H := by unfold roomH; rw [if_pos hf]
  rw [hr] at h
  rcases h with ⟨_, h2, h3⟩ | ⟨h2, _⟩
  · exact ⟨h2, h3⟩
  · omega
theorem HsPost.not {c : Hc} {H1 : List (Option Hc)} {e : Ending} (h : HsPost W0 hb H1 u c e W') (hf : u < sumH H1 + c.need) : e = .returned (.tuple #[.int .u64 0, .int .i64 40]) ∧ Hs W0 W' hb H1 u := by
  rcases h with ⟨h2, _⟩ | ⟨_, h2, h3⟩
  · omega
  · exact ⟨h2, h3⟩
theorem HsPost.yes {c : Hc} {H1 : List (Option Hc)} {e : Ending} (h : HsPost W0 hb H1 u c e W') (hf : sumH H1 + c.need ≤ u) : e = .returned (.tuple #[.int .u64 (hw (lid H1) : Nat), .int .i64 0]) ∧ Hs W0 W' hb (putH H1 (lid H1) (some c)) u := by
  rcases h with ⟨_, h2, h3⟩ | ⟨h2, _⟩
  · exact ⟨h2, h3⟩
  · omega
theorem Hs.post {c : Hc} {H1 : List (Option Hc)} {e : Ending} (q : Hs W0 W hb H u) (hB : Below W.heap.size W W1) (h : PutPost W1 (fun k => W0.heap.size ≤ k ∧ k < W.heap.size) hb H1 u c e W') : HsPost W0 hb H1 u c e W' := by
  obtain ⟨hU, ⟨a, b, c⟩ | ⟨a, b, c⟩⟩ := h
  · exact .inl ⟨a, b, q.upd hB hU c⟩
  · exact .inr ⟨a, b, q.upd hB hU c⟩
theorem hs_row (q : Hs W0 W hb H u) (hB : Below W.heap.size W W1) (ws : List Nat) (hl : ws.length ≤ 1048576) (hv64 : ∀ w ∈ ws, w < 18446744073709551616) (hval : ∀ w ∈ ws, isVal H w = true) (ow : Option Addr) (wc : Nat) (hv : WordsAt W1 (.slice ow ws.length wc) ws) (ho : ∀ x, ow = some x → W.heap.size ≤ x.block ∧ x.block < W1.heap.size) (vr : Value) (rs : List Nat) (hr : WordsAt W1 vr rs) :
    Calls Try.prog 13 #[.pointer (some ⟨hb, 0, none⟩), .agg #[.int .i64 9, .bool false, .int .i64 0, .string ⟨#[]⟩, .slice none 0 0, .slice ow ws.length wc, .int .u64 0, .int .i64 0, .int .i64 0], vr] W1 (HsPost W0 hb (roomH H u (.row ws) rs) u (.row ws)) := by
  have h2 := hB.size
  refine (put_row (q.2.below hB) (fun k e => by omega) ws hl hv64 hval none ow 0 wc hv ?_ vr rs hr).mono (fun e w' h => q.post hB h)
  intro o n cap e k
  cases e
  have := ho o rfl
  rcases k with k | k <;> omega
theorem hs_num (q : Hs W0 W hb H u) (hB : Below W.heap.size W W1) (i : Int) (h0 : -9223372036854775808 ≤ i) (h1 : i < 9223372036854775808) (vr : Value) (rs : List Nat) (hr : WordsAt W1 vr rs) :
    Calls Try.prog 13 #[.pointer (some ⟨hb, 0, none⟩), .agg #[.int .i64 2, .bool false, .int .i64 i, .string ⟨#[]⟩, .slice none 0 0, .slice none 0 0, .int .u64 0, .int .i64 0, .int .i64 0], vr] W1 (HsPost W0 hb (roomH H u (.num i) rs) u (.num i)) := by
  have h2 := hB.size
  exact (put_num (q.2.below hB) (fun k e => by omega) i h0 h1 none none 0 0 vr rs hr).mono (fun e w' h => q.post hB h)
theorem hs_reach (q : Hs W0 W hb H u) (hB : Below W.heap.size W W1) (vr : Value) (rs : List Nat) (hr : WordsAt W1 vr rs) :
    Calls Try.prog 11 #[.pointer (some ⟨hb, 0, none⟩), vr] W1 fun e w' => e = .returned (.int .i64 (reachN H rs : Nat)) ∧ Hs W0 w' hb H u := by
  obtain ⟨sb, vc, T, l, _, _, _, hs⟩ := q.2.below hB
  have hu := l.u1
  refine (hreach_c l (by omega) vr rs hr).mono ?_
  rintro e w' ⟨rfl, hB'⟩
  exact ⟨rfl, (q.below hB).below hB'⟩
end
theorem infoU : (Try.prog.info? 22).map (fun i => (i.zero, i.size, i.bytes)) = some (some (.int .u64 0), 1, 8) := by kernel_rfl
theorem underU : Try.prog.underlying 30 = some (.slice 22) := by kernel_rfl
theorem make_words (w : World) (n : Nat) (hn : n ≤ 1048576) : ∃ w', (Instr.makeSlice 30 (.int .i64 (n : Int)) (.int .i64 (n : Int))).run Try.prog w = .ok (.slice (some ⟨w.heap.size, 0, none⟩) n n) w' ∧ WordsAt w' (.slice (some ⟨w.heap.size, 0, none⟩) n n) (List.replicate n 0) ∧ Below w.heap.size w w' ∧ w.heap.size < w'.heap.size := by
  obtain ⟨i0, hi, hz0, hz1, hz2⟩ := info_parts infoU
  obtain ⟨w', h1, h2, h3⟩ := run_makeSlice_full (P := Try.prog) w w.heap.size 30 22 i0 (.int .u64 0) 1 underU hi hz0 hz1 .i64 .i64 n (by omega) (by rw [hz2]; omega) (by simp [maxLen]; omega) (Nat.le_refl _)
  have e : (madeCells (Value.int .u64 0).cells (n * 1)).toList = List.replicate n (.int .u64 0) := by
    rw [Nat.mul_one]; exact made_one _ n
  rw [e] at h2
  have hU : Upd (fun _ => False) w w' := (Upd.refl (fun _ => False) w).grown h3 (fun k e => by cases e)
  have hlt := (h2.lt _ rfl).2
  refine ⟨w', h1, ⟨_, _, by rw [List.length_replicate], by rw [List.length_replicate]; omega, ?_, ?_⟩, hU.below (Nat.le_refl _) (fun k e => e.elim), hlt⟩
  · intro x hx
    rw [(List.mem_replicate.1 hx).2]; omega
  · intro i hi
    rw [List.length_replicate] at hi
    refine ⟨_, rfl, ?_⟩
    have e1 : ((⟨w.heap.size, 0, none⟩ : Addr).add i) = ⟨w.heap.size, i, none⟩ := by unfold Addr.add; split <;> simp_all
    rw [e1, h2.cellAt i (by omega), List.getElem?_replicate, if_pos hi]
    simp
end Go.Proofs.Ytbgabpgohkcahaa.W
