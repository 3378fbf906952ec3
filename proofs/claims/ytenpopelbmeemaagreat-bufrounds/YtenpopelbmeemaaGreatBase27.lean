import Derived.Test.YtenpopelbmeemaaGreatBase26
import Derived.Laws.MakeOwn
import Derived.Test.YtenpopelbmeemaaGreatBase22
import Derived.Test.YtenpopelbmeemaaGreatBase25
import Derived.Test.YtenpopelbmeemaaGreatBase19
import Derived.Test.YtenpopelbmeemaaGreatBase23
import Derived.Laws.CopyRow
import Derived.Lib.SlBuf
/- Package heap: load and Get, of a row. -/
namespace Go.Proofs.YtenpopelbmeemaaGreat.W
open Go.ChangeShapes Go.WideShapes Go.RowKit Go.Shelf
set_option linter.unusedVariables false
section
variable {W W' : World} {hb sb : Nat} {vc : Value} {T : Nat → Prop} {H : List (Option Hc)} {u h : Nat}
end
end Go.Proofs.YtenpopelbmeemaaGreat.W
/- Steps of statements over a heap of their own: a view is put, what is reached is left; bytes and words that are made. -/
namespace Go.Proofs.YtenpopelbmeemaaGreat.W
open Go.ChangeShapes Go.WideShapes Go.RowKit Go.Shelf
set_option linter.unusedVariables false
theorem lt_get {W : World} {b : Nat} {o : Obj} (h : W.heap[b]? = some o) : b < W.heap.size := (Array.getElem?_eq_some_iff.1 h).1
theorem wf_i64 {i : Int} (h : (Lit.int .i64 i).wf = true) : -9223372036854775808 ≤ i ∧ i ≤ 9223372036854775807 := by
  simp [Lit.wf] at h
  have e1 : IntKind.i64.min = -9223372036854775808 := by decide
  have e2 : IntKind.i64.max = 9223372036854775807 := by decide
  omega
theorem wf_u64 {i : Int} (h : (Lit.int .u64 i).wf = true) : 0 ≤ i ∧ i ≤ 18446744073709551615 := by
  simp [Lit.wf] at h
  have e1 : IntKind.u64.min = 0 := by decide
  have e2 : IntKind.u64.max = 18446744073709551615 := by decide
  omega
theorem wf_u8 {i : Int} (h : (Lit.int .u8 i).wf = true) : 0 ≤ i ∧ i ≤ 255 := by
  simp [Lit.wf] at h
  have e1 : IntKind.u8.min = 0 := by decide
  have e2 : IntKind.u8.max = 255 := by decide
  omega
theorem view_need (k : Int) (b p n : Nat) : (Hc.view k b p n).need = 1 := by unfold Hc.need; show 1 + (0 + 7) / 8 = 1; rfl
theorem bufn_need (k : Int) (bs : List Nat) : (Hc.buf k bs).need = 1 + (bs.length + 7) / 8 := rfl
section
variable {W0 W W1 W' : World} {hb : Nat} {H : List (Option Hc)} {u : Nat} {K K' : Nat → Prop}
theorem hf_view (q : Hf W0 W1 hb H u K) (k : Int) (hk : elB k > 0) (ba p n : Nat) (hba : ba < 18446744073709551616) (id : Nat) (hi : hit H ba = some id) (k2 : Int) (bs : List Nat) (hc : H[id]? = some (some (.buf k2 bs))) (hp : p ≤ bs.length) (hpm : p % elB k = 0) (hn : n ≤ (bs.length - p) / elB k) (hf : sumH H + 1 ≤ u) (vr : Value) (rs : List Nat) (hr : WordsAt W1 vr rs) :
    Calls Tryz.prog 23 #[.pointer (some ⟨hb, 0, none⟩), .agg #[.int .i64 k, .bool true, .int .i64 0, .string ⟨#[]⟩, .slice none 0 0, .slice none 0 0, .int .u64 ba, .int .i64 p, .int .i64 n], vr] W1 fun e w' => e = .returned (.tuple #[.int .u64 (hw (lid H) : Nat), .int .i64 0]) ∧ Hf W0 w' hb (putH H (lid H) (some (.view k ba p n))) u K ∧ Upd (Ch W0 K) W1 w' := by
  obtain ⟨h1, S, h2, h3, h4⟩ := q
  exact (put_view h2 (fun k e => (h3 k e).2) k hk ba p n hba id hi k2 bs hc hp hpm hn none none 0 0 vr rs hr).mono (fun e w' hP => Hf.fits h1 h3 h4 (by rw [view_need]; exact hf) hP)
theorem reach_all {ws : List Nat} (hall : ∀ i c, H[i]? = some (some c) → Rch H ws i) : reachN H ws = sumH H := by
  have := zip_all hall
  unfold reachN
  rw [← zipK_sum, this]
theorem own_at {B0 gb cap n : Nat} {t : TypeId} {xs : List Value} (h : W.ownsRow B0 t 1 (.slice (some ⟨gb, 0, none⟩) n cap) n xs) (i : Nat) (v : Value) (hi : xs[i]? = some v) : W.cell? ⟨gb, i, none⟩ = some v := by
  have := h.cells (g := gb) rfl i v hi
  have e : ((⟨gb, 0, none⟩ : Addr).add i) = ⟨gb, i, none⟩ := by unfold Addr.add; split <;> simp_all
  rwa [e] at this
/-- bytes that were made, as a row -/
theorem byteRow_own {B0 gb cap n : Nat} {bs : List Nat} (h : W.ownsRow B0 5 1 (.slice (some ⟨gb, 0, none⟩) n cap) n (bs.map byteV)) : ByteRow W (some ⟨gb, 0, none⟩) bs := by
  refine .inr ⟨gb, 0, rfl, fun i hi => ?_⟩
  rw [Nat.zero_add]
  exact own_at h i (byteV bs[i]) (by rw [List.getElem?_map, List.getElem?_eq_getElem hi]; rfl)
theorem made_bytes (w : World) (n : Nat) (hn : n ≤ 8388608) : ∃ w', (Instr.makeSlice 41 (.int .i64 (n : Int)) (.int .i64 (n : Int))).run Tryz.prog w = .ok (.slice (some ⟨w.heap.size, 0, none⟩) n n) w' ∧ ByteRow w' (some ⟨w.heap.size, 0, none⟩) (List.replicate n 0) ∧ Below w.heap.size w w' ∧ w.heap.size < w'.heap.size := by
  obtain ⟨w', h1, h2, h3⟩ := make_bytes w n hn
  have hU : Upd (fun _ => False) w w' := (Upd.refl (fun _ => False) w).grown h3 (fun k e => by cases e)
  exact ⟨w', h1, byteRow_own h2, hU.below (Nat.le_refl _) (fun k e => e.elim), (h2.lt _ rfl).2⟩
/-- a buffer of noughts that were made -/
theorem hf_blank (q : Hf W0 W hb H u K) (hB : Below W.heap.size W W1) (k : Int) (hk : elB k > 0) (n : Nat) (hl : n ≤ 8388608) (hmod : n % elB k = 0) (gb : Nat) (hg0 : W.heap.size ≤ gb) (hg1 : gb < W1.heap.size) (hv : ByteRow W1 (some ⟨gb, 0, none⟩) (List.replicate n 0)) (hf : sumH H + (1 + (n + 7) / 8) ≤ u) (vr : Value) (rs : List Nat) (hr : WordsAt W1 vr rs) :
    Calls Tryz.prog 23 #[.pointer (some ⟨hb, 0, none⟩), .agg #[.int .i64 k, .bool false, .int .i64 0, .string ⟨#[]⟩, .slice (some ⟨gb, 0, none⟩) n n, .slice none 0 0, .int .u64 0, .int .i64 0, .int .i64 0], vr] W1 fun e w' => e = .returned (.tuple #[.int .u64 (hw (lid H) : Nat), .int .i64 0]) ∧ Hf W0 w' hb (putH H (lid H) (some (.buf k (List.replicate n 0)))) u K ∧ Upd (Ch W0 K) W w' := by
  have q1 := q.below hB
  have hlen : (List.replicate n 0).length = n := List.length_replicate
  have := hf_buf q1 k hk (List.replicate n 0) (fun x hx => by rw [(List.mem_replicate.1 hx).2]; decide) (by rw [hlen]; exact hl) (by rw [hlen]; exact hmod) (some ⟨gb, 0, none⟩) none n 0 (by rw [hlen]; exact Nat.le_refl _) hv (fun x e => by cases e; exact .inr ⟨hg0, hg1⟩) (by rw [bufn_need, hlen]; exact hf) vr rs hr
  rw [hlen] at this
  refine this.mono ?_
  rintro e w' ⟨rfl, h1, h2⟩
  refine ⟨rfl, h1.sub (fun k e => .inl e), (Upd.of_below hB).trans' (h2.mono ?_)⟩
  rintro x ⟨e1, e2⟩
  exact ⟨fun e => e1 (.inl e), e2⟩
end
end Go.Proofs.YtenpopelbmeemaaGreat.W
/- Package buf: Width, isThing, mostElements; slices.Repeat of one word. -/
namespace Go.Proofs.YtenpopelbmeemaaGreat.W
open Go.ChangeShapes Go.WideShapes Go.RowKit Go.Shelf
set_option linter.unusedVariables false
theorem width_c (k : Int) (W : World) : Calls Tryz.prog 18 #[.int .i64 k] W fun e w' => e = .returned (.int .i64 (elB k : Nat)) ∧ w' = W := by
  rcases elB_cases k with ⟨h, rfl⟩ | ⟨h, rfl⟩ | ⟨h, rfl⟩ | ⟨h, rfl⟩ | ⟨h, h5, h6, h7, h8⟩
  all_goals
    rw [h]
    clear h
    go_enter Tryz.func18, Tryz.ntmps18
    go_wp2
    go_ret
    exact ⟨rfl, rfl⟩
/-- a kind of buffers, or of rows -/
def thK (k : Int) : Prop := k = 9 ∨ elB k > 0
/-- bytes of an element of a thing -/
def elT (k : Int) : Nat := if k = 9 then 8 else elB k
theorem elT_cases {k : Int} (h : thK k) : elT k = 1 ∨ elT k = 2 ∨ elT k = 4 ∨ elT k = 8 := by
  unfold elT
  rcases h with rfl | h
  · exact .inr (.inr (.inr rfl))
  · have h9 : ¬ k = 9 := by rintro rfl; simp [elB] at h
    rw [if_neg h9]
    rcases elB_cases k with ⟨h, _⟩ | ⟨h, _⟩ | ⟨h, _⟩ | ⟨h, _⟩ | ⟨h, _⟩ <;> omega
theorem isThing_c (k : Int) (hk : thK k) (W : World) : Calls Tryz.prog 21 #[.int .i64 k] W fun e w' => e = .returned (.bool true) ∧ w' = W := by
  rcases hk with rfl | hk
  · go_enter Tryz.func21, Tryz.ntmps21
    go_wp2
    go_ret
    exact ⟨rfl, rfl⟩
  · have h9 : ¬ k = 9 := by rintro rfl; simp [elB] at hk
    have cw := width_c k W
    have hk' : ((elB k : Nat) : Int) > 0 := by omega
    generalize ((elB k : Nat) : Int) = E at *
    clear hk
    go_enter Tryz.func21, Tryz.ntmps21
    go_wp2_with (go_at_call 18; (with_reducible refine cw.mono ?_); rintro e w' ⟨rfl, hw⟩; (have hw' := hw.symm); subst hw'; clear hw)
    go_ret
    exact ⟨rfl, rfl⟩
/-- how many elements fit -/
def mostE (u : Nat) (k : Int) : Int := (((u : Int) - 1) * 8) / (elT k : Nat)
theorem most_tdiv (u : Nat) {k : Int} (h : thK k) : Int.tdiv (((u : Int) - 1) * 8) ((elT k : Nat) : Int) = mostE u k := by
  unfold mostE
  rcases Nat.eq_zero_or_pos u with rfl | hu
  · rcases elT_cases h with h | h | h | h <;> rw [h] <;> decide
  · rw [Int.tdiv_eq_ediv_of_nonneg (by omega)]
section
variable {W : World} {hb sb : Nat} {vc : Value} {T : Nat → Prop} {H : List (Option Hc)} {u h : Nat}
theorem hroom_c (g : HLay W hb sb vc T H u h) : Calls Tryz.prog 44 #[.pointer (some ⟨hb, 0, none⟩)] W fun e w' => e = .returned (.int .i64 u) ∧ w' = W := by
  have c2 := g.cell 2
  simp only [List.getElem?_cons_succ, List.getElem?_cons_zero] at c2
  clear g
  go_enter Tryz.func44, Tryz.ntmps44
  go_wp2
  go_ret
  exact ⟨rfl, rfl⟩
theorem mostElements_c (g : HLay W hb sb vc T H u h) (k : Int) (hk : thK k) : Calls Tryz.prog 22 #[.pointer (some ⟨hb, 0, none⟩), .int .i64 k] W fun e w' => e = .returned (.int .i64 (mostE u k)) ∧ w' = W := by
  have hu := g.u1
  have cr := hroom_c g
  have w1 : IntKind.i64.wrap ((u : Int) - 1) = (u : Int) - 1 := by rw [IntKind.wrap_i64]; omega
  have w2 : IntKind.i64.wrap (((u : Int) - 1) * 8) = ((u : Int) - 1) * 8 := by rw [IntKind.wrap_i64]; omega
  have cw := width_c k W
  have w3 : wrap64 (mostE u k) = mostE u k := by
    have h1 : -8388608 ≤ mostE u k ∧ mostE u k ≤ 8388608 := by
      unfold mostE
      rcases elT_cases hk with h | h | h | h <;> rw [h] <;> omega
    unfold wrap64; omega
  rcases hk with rfl | hk
  · have hm : Int.tdiv (((u : Int) - 1) * 8) 8 = mostE u 9 := most_tdiv u (.inl rfl)
    generalize mostE u 9 = M at *
    clear g hu cw
    go_enter Tryz.func22, Tryz.ntmps22
    go_wp2_with (go_at_call 44; (with_reducible refine cr.mono ?_); rintro e w' ⟨rfl, hw⟩; (have hw' := hw.symm); subst hw'; clear hw)
    go_ret
    exact ⟨ret_int w3, rfl⟩
  · have h9 : ¬ k = 9 := by rintro rfl; simp [elB] at hk
    have hm : Int.tdiv (((u : Int) - 1) * 8) ((elB k : Nat) : Int) = mostE u k := by have := most_tdiv u (k := k) (.inr hk); unfold elT at this; rw [if_neg h9] at this; exact this
    have e0 : ¬ ((elB k : Nat) : Int) = 0 := by omega
    generalize mostE u k = M at *
    generalize ((elB k : Nat) : Int) = E at *
    clear g hu hk
    go_enter Tryz.func22, Tryz.ntmps22
    go_wp2_with (first | (go_at_call 44; (with_reducible refine cr.mono ?_); rintro e w' ⟨rfl, hw⟩; (have hw' := hw.symm); subst hw'; clear hw) | (go_at_call 18; (with_reducible refine cw.mono ?_); rintro e w' ⟨rfl, hw⟩; (have hw' := hw.symm); subst hw'; clear hw))
    go_ret
    exact ⟨ret_int w3, rfl⟩
end
theorem mul64_one (n : Nat) (hn : n ≤ 1048576) (W : World) : Calls Tryz.prog 130 #[.int .u64 1, .int .u64 n] W fun e w' => e = .returned (.tuple #[.int .u64 0, .int .u64 n]) ∧ w' = W := by
  have h1 : bits .and .u64 (n : Int) 4294967295 = (n : Int) := by
    have := u64_and_nat n 4294967295 (by omega) (by omega)
    rw [show (4294967295 : Nat) = 2 ^ 32 - 1 from rfl, Nat.and_two_pow_sub_one_eq_mod] at this
    rw [show ((2 ^ 32 - 1 : Nat) : Int) = 4294967295 from rfl] at this
    rw [this]; omega
  have h5 : bits .and .u64 1 4294967295 = 1 := by decide
  have h6 : bits .and .u64 0 4294967295 = 0 := by decide
  have h2 : (n : Int) / 4294967296 = 0 := by omega
  have h3 : IntKind.u64.wrap (n : Int) = n := by rw [IntKind.wrap_u64]; omega
  have h4 : IntKind.u64.wrap (1 * (n : Int)) = n := by rw [IntKind.wrap_u64]; omega
  go_enter Tryz.func130, Tryz.ntmps130
  go_wp2
  go_ret2
  exact ⟨rfl, rfl⟩
theorem mul_one_c (n : Nat) (hn : n ≤ 1048576) (W : World) : Calls Tryz.prog 88 #[.int .u64 1, .int .u64 n] W fun e w' => e = .returned (.tuple #[.int .u64 0, .int .u64 n]) ∧ w' = W := by
  have cm := mul64_one n hn W
  go_enter Tryz.func88, Tryz.ntmps88
  go_wp2_with (go_at_call 130; (with_reducible refine cm.mono ?_); rintro e w' ⟨rfl, hw⟩; (have hw' := hw.symm); subst hw'; clear hw)
  go_ret2
  exact ⟨rfl, rfl⟩
end Go.Proofs.YtenpopelbmeemaaGreat.W
