import Derived.Test.YtbgabpgohkcahaaBase6
import Derived.Test.YtbgabpgohkcahaaBase5
import Derived.Test.YtbgabpgohkcahaaBase0
import Derived.Laws.ResultCell
/- Package heap: Put. -/
namespace Go.Proofs.Ytbgabpgohkcahaa.W
open Go.ChangeShapes Go.WideShapes Go.RowKit Go.Shelf
set_option linter.unusedVariables false
section
variable {W W' : World} {hb sb : Nat} {vc : Value} {T S : Nat → Prop} {H : List (Option Hc)} {u h : Nat}
/-- what Put answers and leaves -/
def PutPost (W : World) (S : Nat → Prop) (hb : Nat) (H1 : List (Option Hc)) (u : Nat) (c : Hc) (e : Ending) (w' : World) : Prop := Upd S W w' ∧ ((sumH H1 + c.need ≤ u ∧ e = .returned (.tuple #[.int .u64 (18445336698825998336 + lid H1 : Nat), .int .i64 0]) ∧ HSt w' (Nx S W w') hb (putH H1 (lid H1) (some c)) u) ∨ (u < sumH H1 + c.need ∧ e = .returned (.tuple #[.int .u64 0, .int .i64 40]) ∧ HSt w' (Nx S W w') hb H1 u))
set_option maxHeartbeats 2000000 in
theorem hput_c (g : HSt W S hb H u) (hS : ∀ k, S k → k < W.heap.size) (c : Hc) (hok : c.ok) (i : Int) (t : ByteArray) (ob ow : Option Addr) (bl bc wl wc : Nat) (htl : t.size ≤ 8388608) (hbl : bl ≤ 8388608) (hwl : wl ≤ 1048576) (hsz : sizeV c.cl.kind c.cl.view t.size bl wl = c.bytes.length) (hws : WordsAt W (.slice ow wl wc) c.ws) (hbase : c.cl.base < 18446744073709551616)
    (hright : ∀ w, Below W.heap.size W w → Calls Try.prog 33 #[.pointer (some ⟨hb, 0, none⟩), .agg #[.int .i64 c.cl.kind, .bool c.cl.view, .int .i64 i, .string t, .slice ob bl bc, .slice ow wl wc, .int .u64 c.cl.base, .int .i64 c.cl.frm, .int .i64 c.cl.len]] w fun e w' => e = .returned (.bool true) ∧ Below w.heap.size w w')
    (hsv : ∀ sb h, SaveOk W hb sb S c (.agg #[.int .i64 c.cl.kind, .bool c.cl.view, .int .i64 i, .string t, .slice ob bl bc, .slice ow wl wc, .int .u64 c.cl.base, .int .i64 c.cl.frm, .int .i64 c.cl.len]) u h) (vr : Value) (rs : List Nat) (hr : WordsAt W vr rs) :
    Calls Try.prog 13 #[.pointer (some ⟨hb, 0, none⟩), .agg #[.int .i64 c.cl.kind, .bool c.cl.view, .int .i64 i, .string t, .slice ob bl bc, .slice ow wl wc, .int .u64 c.cl.base, .int .i64 c.cl.frm, .int .i64 c.cl.len], vr] W (PutPost W S hb (roomH H u c rs) u c) := by
  obtain ⟨orr, capr, hvr, _⟩ := id hr
  subst hvr
  obtain ⟨sb, vc, T, g1, s1, s2, s3, s4⟩ := g
  have hu := g1.u1
  have hBa : Below W.heap.size W (W.alloc (.cells #[.int .i64 c.cl.kind, .bool c.cl.view, .int .i64 i, .string t, .slice ob bl bc, .slice ow wl wc, .int .u64 c.cl.base, .int .i64 c.cl.frm, .int .i64 c.cl.len] 43)) := (Below.refl _ W).alloc (Nat.le_refl _) _
  have n9 := World.cell?_alloc_new W #[.int .i64 c.cl.kind, .bool c.cl.view, .int .i64 i, .string t, .slice ob bl bc, .slice ow wl wc, .int .u64 c.cl.base, .int .i64 c.cl.frm, .int .i64 c.cl.len] 43
  have hsa : ((W.alloc (.cells #[.int .i64 c.cl.kind, .bool c.cl.view, .int .i64 i, .string t, .slice ob bl bc, .slice ow wl wc, .int .u64 c.cl.base, .int .i64 c.cl.frm, .int .i64 c.cl.len] 43))).heap.size = W.heap.size + 1 := World.size_alloc ..
  have cn := need_c c.cl.kind c.cl.view i t ob ow bl bc wl wc c.cl.base c.cl.frm c.cl.len (by omega) (by omega) (by omega)
  rw [hsz] at cn
  have en : (1 + (c.bytes.length + 7) / 8 : Nat) = c.need := rfl
  rw [en] at cn
  unfold cellV at cn
  have cr := hright (W.alloc (.cells #[.int .i64 c.cl.kind, .bool c.cl.view, .int .i64 i, .string t, .slice ob bl bc, .slice ow wl wc, .int .u64 c.cl.base, .int .i64 c.cl.frm, .int .i64 c.cl.len] 43)) hBa
  have k2 : Hid (∀ w2, Below ((W.alloc (.cells #[.int .i64 c.cl.kind, .bool c.cl.view, .int .i64 i, .string t, .slice ob bl bc, .slice ow wl wc, .int .u64 c.cl.base, .int .i64 c.cl.frm, .int .i64 c.cl.len] 43))).heap.size (W.alloc (.cells #[.int .i64 c.cl.kind, .bool c.cl.view, .int .i64 i, .string t, .slice ob bl bc, .slice ow wl wc, .int .u64 c.cl.base, .int .i64 c.cl.frm, .int .i64 c.cl.len] 43)) w2 → (∀ j, w2.cell? ⟨W.heap.size, j, none⟩ = #[.int .i64 c.cl.kind, .bool c.cl.view, .int .i64 i, .string t, .slice ob bl bc, .slice ow wl wc, .int .u64 c.cl.base, .int .i64 c.cl.frm, .int .i64 c.cl.len][j]?)) := by
    show ∀ w2, _
    intro w2 hB2 j
    rw [World.cell?_of_block (hB2.block W.heap.size (by omega))]
    exact n9 j
  go_enter Try.func13, Try.ntmps13
  go_upto_region 4 with (first | (go_at_call 33; (with_reducible refine cr.mono ?_); rintro e w2 ⟨rfl, hB2⟩; (have n92 := k2.out w2 hB2)) | (go_at_call 34; (with_reducible refine (cn _).mono ?_); rintro e w3 ⟨rfl, hB3⟩; clear cn))
  have hBa3 : Below ((W.alloc (.cells #[.int .i64 c.cl.kind, .bool c.cl.view, .int .i64 i, .string t, .slice ob bl bc, .slice ow wl wc, .int .u64 c.cl.base, .int .i64 c.cl.frm, .int .i64 c.cl.len] 43))).heap.size (W.alloc (.cells #[.int .i64 c.cl.kind, .bool c.cl.view, .int .i64 i, .string t, .slice ob bl bc, .slice ow wl wc, .int .u64 c.cl.base, .int .i64 c.cl.frm, .int .i64 c.cl.len] 43)) w3 := hB2.trans (hB3.mono hB2.size)
  have n93 := k2.out w3 hBa3
  have hBW : Below W.heap.size W w3 := hBa.trans (hBa3.mono hBa.size)
  have hz3 := hBa3.size
  have g3 := g1.below hBW
  have c3 := g3.cell 3
  have c2 := g3.cell 2
  simp only [List.getElem?_cons_succ, List.getElem?_cons_zero] at c3 c2
  have hU3 : Upd S W w3.drew := (Upd.of_below hBW).drew
  have nx3 : ∀ k, S k → Nx S W w3.drew k := fun k e => .inl e
  have wadd : IntKind.i64.wrap ((sumH H : Int) + (c.need : Int)) = (sumH H : Int) + (c.need : Int) := by
    have h1 : c.need ≤ 1048577 := by
      have := Hc.bytes_len hok
      unfold Hc.need; omega
    rw [IntKind.wrap_i64]; omega
  clear k2 cr n92 hB2 hB3 n9
  by_cases hfit : sumH H + c.need ≤ u
  · have hf1 : ¬ ((sumH H : Int) + (c.need : Int)) > (u : Int) := by omega
    have hro : roomH H u c rs = H := by unfold roomH; rw [if_pos hfit]
    have g5 : HLay w3.drew.drew hb sb vc T H u (sumH H) := g3.same rfl
    have hU5 : Upd S W w3.drew.drew := hU3.drew
    obtain ⟨d3, d2, d4, hl, ca⟩ := put_tail g5 hU5 (.inl s1) (fun k e => .inl (s2 k e)) (fun k e => .inl (s3 k e)) c hok i t ob ow bl bc wl wc hwl hsz hfit hsv
    have n95 : ∀ j, w3.drew.drew.cell? ⟨W.heap.size, j, none⟩ = #[.int .i64 c.cl.kind, .bool c.cl.view, .int .i64 i, .string t, .slice ob bl bc, .slice ow wl wc, .int .u64 c.cl.base, .int .i64 c.cl.frm, .int .i64 c.cl.len][j]? := n93
    have cw := wordOf_c (lid H) hl
    have hne : Hid (W.heap.size ≠ hb) := (show _ ≠ _ by have := g1.hlt; omega)
    clear g5 g3 g1 hsv hright hU5 hU3 hBW hBa3 hBa
    go_region
    go_upto_region 6 with fail
    go_region
    go_upto_region 8 with fail
    generalize w3.drew.drew = w5 at *
    have n96 : ∀ j, (w5.setCell ⟨hb, 3, none⟩ (.int .i64 ((sumH H : Int) + (c.need : Int)))).cell? ⟨W.heap.size, j, none⟩ = #[.int .i64 c.cl.kind, .bool c.cl.view, .int .i64 i, .string t, .slice ob bl bc, .slice ow wl wc, .int .u64 c.cl.base, .int .i64 c.cl.frm, .int .i64 c.cl.len][j]? := by
      intro j
      rw [World.cell?_of_block (Below.heap_setCell _ _ _ _ hne.out)]
      exact n95 j
    go_wp2_with (first | (go_at_call 37; (with_reducible refine ca.mono ?_); rintro e w6 ⟨rfl, hf⟩; clear ca) | (go_at_call 36; (with_reducible refine (cw _).mono ?_); rintro e w' ⟨rfl, hw⟩; (have hw' := hw.symm); subst hw'; clear hw))
    go_ret2
    show PutPost W S hb (roomH H u c rs) u c _ _
    rw [hro]
    exact ⟨hf.out.1, .inl ⟨hfit, rfl, hf.out.2⟩⟩
  · have hf1 : ((sumH H : Int) + (c.need : Int)) > (u : Int) := by omega
    have hro : roomH H u c rs = zipK H (rchB H (rs ++ (c.ws ++ [c.cl.base]))) := by unfold roomH Hc.seeds; rw [if_neg hfit]
    have g4 : HLay w3.drew hb sb vc T H u (sumH H) := g3.same rfl
    have csw := put_sweep g4 s4 hU3 (.inl s1) (fun k e => .inl (s2 k e)) (fun k e => .inl (s3 k e)) _ (.slice ow wl wc) rs c.ws c.cl.base (words_below (W' := w3.drew) hr ⟨hBW.os, hBW.tape, hBW.output, hBW.size, hBW.block⟩) (words_below (W' := w3.drew) hws ⟨hBW.os, hBW.tape, hBW.output, hBW.size, hBW.block⟩) hbase
    have n94 : ∀ j, w3.drew.cell? ⟨W.heap.size, j, none⟩ = #[.int .i64 c.cl.kind, .bool c.cl.view, .int .i64 i, .string t, .slice ob bl bc, .slice ow wl wc, .int .u64 c.cl.base, .int .i64 c.cl.frm, .int .i64 c.cl.len][j]? := n93
    generalize zipK H (rchB H (rs ++ (c.ws ++ [c.cl.base]))) = H1 at *
    generalize reachN H (rs ++ (c.ws ++ [c.cl.base])) = rN at *
    have hne : Hid (W.heap.size ≠ hb) := (show _ ≠ _ by have := g1.hlt; omega)
    have kk : Hid (∀ w' : World, (∀ k < w3.drew.heap.size, ¬ (T k ∨ k = hb ∨ vc.ownBlock = some k) → w'.heap[k]? = w3.drew.heap[k]?) → ∀ j : Nat, w'.cell? ⟨W.heap.size, j, none⟩ = #[.int .i64 c.cl.kind, .bool c.cl.view, .int .i64 i, .string t, .slice ob bl bc, .slice ow wl wc, .int .u64 c.cl.base, .int .i64 c.cl.frm, .int .i64 c.cl.len][j]?) := by
      show ∀ w' : World, _
      intro w' hk j
      have e4 := hk W.heap.size (by show _ < w3.heap.size; omega) (by
        rintro (e | e | e)
        · have := g1.tlt _ e; omega
        · exact hne.out e
        · have := g1.clt _ e; omega)
      rw [World.cell?_of_block e4]
      exact n94 j
    clear g3 g1 hright hU3 hBW hBa3 hBa
    go_region
    go_upto_region 5 with fail
    generalize w3.drew = w4 at *
    go_upto_region 6 with (first | (go_at_call 32; (with_reducible refine csw.mono ?_); rintro e w5 ⟨vb, rfl, hk5, ck⟩; clear csw) | (go_at_call 35; (with_reducible refine ck.mono ?_); rintro e w6 ⟨rfl, hk6, hb6⟩; clear ck))
    have n96 := kk.out w6 hb6
    obtain ⟨T', g6, hU6, t1, t2, t3, t4⟩ := hk6.out
    clear n94 kk hk5 hb6 c3 c2
    have c3 := g6.cell 3
    have c2 := g6.cell 2
    simp only [List.getElem?_cons_succ, List.getElem?_cons_zero] at c3 c2
    have wadd1 : IntKind.i64.wrap ((sumH H1 : Int) + (c.need : Int)) = (sumH H1 : Int) + (c.need : Int) := by
      have h1 : c.need ≤ 1048577 := by
        have := Hc.bytes_len hok
        unfold Hc.need; omega
      rw [IntKind.wrap_i64]; omega
    by_cases hfit1 : sumH H1 + c.need ≤ u
    · have hf2 : ¬ ((sumH H1 : Int) + (c.need : Int)) > (u : Int) := by omega
      have g7 : HLay w6.drew hb sb vc T' H1 u (sumH H1) := g6.same rfl
      obtain ⟨d3, d2, d4, hl, ca⟩ := put_tail g7 hU6.drew t1 t2 t3 c hok i t ob ow bl bc wl wc hwl hsz hfit1 hsv
      have n97 : ∀ j, w6.drew.cell? ⟨W.heap.size, j, none⟩ = #[.int .i64 c.cl.kind, .bool c.cl.view, .int .i64 i, .string t, .slice ob bl bc, .slice ow wl wc, .int .u64 c.cl.base, .int .i64 c.cl.frm, .int .i64 c.cl.len][j]? := n96
      have cw := wordOf_c (lid H1) hl
      clear g7 g6 hsv hU6 hf1 hfit
      go_region
      go_upto_region 8 with fail
      generalize w6.drew = w7 at *
      have n98 : ∀ j, (w7.setCell ⟨hb, 3, none⟩ (.int .i64 ((sumH H1 : Int) + (c.need : Int)))).cell? ⟨W.heap.size, j, none⟩ = #[.int .i64 c.cl.kind, .bool c.cl.view, .int .i64 i, .string t, .slice ob bl bc, .slice ow wl wc, .int .u64 c.cl.base, .int .i64 c.cl.frm, .int .i64 c.cl.len][j]? := by
        intro j
        rw [World.cell?_of_block (Below.heap_setCell _ _ _ _ hne.out)]
        exact n97 j
      go_wp2_with (first | (go_at_call 37; (with_reducible refine ca.mono ?_); rintro e w8 ⟨rfl, hf⟩; clear ca) | (go_at_call 36; (with_reducible refine (cw _).mono ?_); rintro e w' ⟨rfl, hw⟩; (have hw' := hw.symm); subst hw'; clear hw))
      go_ret2
      show PutPost W S hb (roomH H u c rs) u c _ _
      rw [hro]
      exact ⟨hf.out.1, .inl ⟨hfit1, rfl, hf.out.2⟩⟩
    · have hf2 : ((sumH H1 : Int) + (c.need : Int)) > (u : Int) := by omega
      have fin : Hid (Upd S W w6.drew ∧ HSt w6.drew (Nx S W w6.drew) hb H1 u) := ⟨hU6.drew, sb, vc, T', g6.same rfl, t1, t2, t3, t4⟩
      clear g6 hsv hU6 hf1 hfit
      go_region
      go_wp2
      go_ret2
      show PutPost W S hb (roomH H u c rs) u c _ _
      rw [hro]
      exact ⟨fin.out.1, .inr ⟨by omega, rfl, fin.out.2⟩⟩
end
end Go.Proofs.Ytbgabpgohkcahaa.W
/- Package heap: Put, of a number and of a row. -/
namespace Go.Proofs.Ytbgabpgohkcahaa.W
open Go.ChangeShapes Go.WideShapes Go.RowKit Go.Shelf
set_option linter.unusedVariables false
section
variable {W W' : World} {hb sb : Nat} {vc : Value} {T S : Nat → Prop} {H : List (Option Hc)} {u h : Nat}
theorem words_nil (W : World) (o : Option Addr) (cap : Nat) : WordsAt W (.slice o 0 cap) [] := ⟨o, cap, rfl, by simp, by simp, fun i hi => by simp at hi⟩
theorem HSt.lay (g : HSt W S hb H u) : ∃ sb vc T, HLay W hb sb vc T H u (sumH H) := by
  obtain ⟨sb, vc, T, g1, _⟩ := g
  exact ⟨sb, vc, T, g1⟩
theorem put_num (g : HSt W S hb H u) (hS : ∀ k, S k → k < W.heap.size) (i : Int) (h0 : -9223372036854775808 ≤ i) (h1 : i < 9223372036854775808) (ob ow : Option Addr) (bc wc : Nat) (vr : Value) (rs : List Nat) (hr : WordsAt W vr rs) :
    Calls Try.prog 13 #[.pointer (some ⟨hb, 0, none⟩), .agg #[.int .i64 2, .bool false, .int .i64 i, .string ByteArray.empty, .slice ob 0 bc, .slice ow 0 wc, .int .u64 0, .int .i64 0, .int .i64 0], vr] W (PutPost W S hb (roomH H u (.num i) rs) u (.num i)) := by
  obtain ⟨sb, vc, T, g1⟩ := g.lay
  refine hput_c g hS (.num i) ⟨h0, h1⟩ i ByteArray.empty ob ow 0 bc 0 wc (by decide) (by decide) (by decide) ?_ (words_nil W ow wc) (show 0 < _ by decide) ?_ ?_ vr rs hr
  · show sizeV 2 false 0 0 0 = (le8 _).length
    rw [le8_len]; decide
  · intro w hB
    exact right_num (g1.below hB) i ob ow bc wc
  · intro sb h W' T' vc' H' id hl hi hT hU
    exact save_num hl id i 0 hi h0 h1 ob ow bc wc
theorem put_row (g : HSt W S hb H u) (hS : ∀ k, S k → k < W.heap.size) (ws : List Nat) (hl : ws.length ≤ 1048576) (hv64 : ∀ w ∈ ws, w < 18446744073709551616) (hval : ∀ w ∈ ws, isVal H w = true) (ob ow : Option Addr) (bc wc : Nat) (hv : WordsAt W (.slice ow ws.length wc) ws) (ho : OutOf (fun k => S k ∨ W.heap.size ≤ k) (.slice ow ws.length wc)) (vr : Value) (rs : List Nat) (hr : WordsAt W vr rs) :
    Calls Try.prog 13 #[.pointer (some ⟨hb, 0, none⟩), .agg #[.int .i64 9, .bool false, .int .i64 0, .string ByteArray.empty, .slice ob 0 bc, .slice ow ws.length wc, .int .u64 0, .int .i64 0, .int .i64 0], vr] W (PutPost W S hb (roomH H u (.row ws) rs) u (.row ws)) := by
  obtain ⟨sb, vc, T, g1⟩ := g.lay
  refine hput_c g hS (.row ws) ⟨hv64, hl⟩ 0 ByteArray.empty ob ow 0 bc ws.length wc (by decide) (by decide) hl ?_ hv (show 0 < _ by decide) ?_ ?_ vr rs hr
  · show sizeV 9 false 0 0 ws.length = (ws.flatMap le8).length
    rw [row_len, Nat.mul_comm]; rfl
  · intro w hB
    exact right_row (g1.below hB) ob ow bc wc ws (words_below hv hB) hl hval
  · intro sb h W' T' vc' H' id hl' hi hT hU
    exact save_row hl' id ws hi ⟨hv64, hl⟩ ob ow bc wc (words_upd hv hU (ho.mono (fun k e => .inl e))) (ho.mono hT)
theorem PutPost.fits {c : Hc} {rs : List Nat} {e : Ending} {w' : World} (h : PutPost W S hb (roomH H u c rs) u c e w') (hf : sumH H + c.need ≤ u) : e = .returned (.tuple #[.int .u64 (18445336698825998336 + lid H : Nat), .int .i64 0]) ∧ Upd S W w' ∧ HSt w' (Nx S W w') hb (putH H (lid H) (some c)) u := by
  have hr : roomH H u c rs = H := by unfold roomH; rw [if_pos hf]
  rw [hr] at h
  obtain ⟨h1, ⟨_, h2, h3⟩ | ⟨h2, _⟩⟩ := h
  · exact ⟨h2, h1, h3⟩
  · omega
theorem PutPost.not {c : Hc} {H1 : List (Option Hc)} {e : Ending} {w' : World} (h : PutPost W S hb H1 u c e w') (hf : u < sumH H1 + c.need) : e = .returned (.tuple #[.int .u64 0, .int .i64 40]) ∧ Upd S W w' ∧ HSt w' (Nx S W w') hb H1 u := by
  obtain ⟨h1, ⟨h2, _⟩ | ⟨_, h2, h3⟩⟩ := h
  · omega
  · exact ⟨h2, h1, h3⟩
/-- words laid in a new block -/
theorem words_new (W : World) (ws : List Nat) (vs : List Value) (h64 : ∀ w ∈ ws, w < 18446744073709551616) (hl : ws.length ≤ 1000000000000) (hv : vs = ws.map (fun w => Value.int .u64 (w : Nat))) (t : TypeId) : WordsAt (W.alloc (.cells vs.toArray t)) (.slice (some ⟨W.heap.size, 0, none⟩) ws.length ws.length) ws := by
  refine ⟨_, _, rfl, hl, h64, fun i hi => ⟨_, rfl, ?_⟩⟩
  have e1 : ((⟨W.heap.size, 0, none⟩ : Addr).add i) = ⟨W.heap.size, i, none⟩ := by unfold Addr.add; split <;> simp_all
  rw [e1, World.cell?_alloc_new, hv]
  simp [hi]
end
end Go.Proofs.Ytbgabpgohkcahaa.W
/- Package heap: load and Get, of a number. -/
namespace Go.Proofs.Ytbgabpgohkcahaa.W
open Go.ChangeShapes Go.WideShapes Go.RowKit Go.Shelf
set_option linter.unusedVariables false
section
variable {W W' : World} {hb sb : Nat} {vc : Value} {T : Nat → Prop} {H : List (Option Hc)} {u h : Nat}
theorem cellT : (Try.prog.underlying 43).map (fun d => match d with | .struct _ | .array _ _ => true | _ => false) = some true := by kernel_rfl
theorem cellSz : (Try.prog.info? 43).map (·.size) = some 9 := by kernel_rfl
/-- a cell is answered out of its box -/
theorem cell_ret {fn : Func} {p : Tmp} (h : fn.results = #[.cell p 43]) (tmps : Array Value) (w : World) (gb : Nat) (v0 v1 v2 v3 v4 v5 v6 v7 v8 : Value) (fr : Nat × Nat) (hp : tmps.getD p undef = .pointer (some ⟨gb, 0, none⟩)) (hg : w.heap[gb]? = some (.cells #[v0, v1, v2, v3, v4, v5, v6, v7, v8] 43 fr)) : (results fn tmps).run Try.prog w = .ok (.agg #[v0, v1, v2, v3, v4, v5, v6, v7, v8]) w := by
  have ht := cellT
  cases hu : Try.prog.underlying 43 with
  | none => rw [hu] at ht; cases ht
  | some d =>
    rw [hu] at ht
    simp only [Option.map_some, Option.some.injEq] at ht
    refine results_cell_row h tmps w gb _ _ fr d hp hg hu ?_ (by rw [cellSz]; rfl)
    cases d <;> first | rfl | exact ht
/-- nine cells are written -/
theorem nine_set {w : World} {gb : Nat} {z0 z1 z2 z3 z4 z5 z6 z7 z8 : Value} {t : TypeId} (hg : w.heap[gb]? = some (.cells #[z0, z1, z2, z3, z4, z5, z6, z7, z8] t (0, 0))) (v0 v1 v2 v3 v4 v5 v6 v7 v8 : Value) : (((((((((w.setCell ⟨gb, 0, none⟩ v0).setCell ⟨gb, 1, none⟩ v1).setCell ⟨gb, 2, none⟩ v2).setCell ⟨gb, 3, none⟩ v3).setCell ⟨gb, 4, none⟩ v4).setCell ⟨gb, 5, none⟩ v5).setCell ⟨gb, 6, none⟩ v6).setCell ⟨gb, 7, none⟩ v7).setCell ⟨gb, 8, none⟩ v8).heap[gb]? = some (.cells #[v0, v1, v2, v3, v4, v5, v6, v7, v8] t (0, 0)) := by
  have h0 : w.heap[gb]? = some (.cells [z0, z1, z2, z3, z4, z5, z6, z7, z8].toArray t (0, 0)) := hg
  have h1 := heap_set h0 0 v0
  have h2 := heap_set h1 1 v1
  have h3 := heap_set h2 2 v2
  have h4 := heap_set h3 3 v3
  have h5 := heap_set h4 4 v4
  have h6 := heap_set h5 5 v5
  have h7 := heap_set h6 6 v6
  have h8 := heap_set h7 7 v7
  have h9 := heap_set h8 8 v8
  exact h9
theorem nine_below {w a : World} {gb B : Nat} (h : Below B a w) (hB : B ≤ gb) (v0 v1 v2 v3 v4 v5 v6 v7 v8 : Value) : Below B a (((((((((w.setCell ⟨gb, 0, none⟩ v0).setCell ⟨gb, 1, none⟩ v1).setCell ⟨gb, 2, none⟩ v2).setCell ⟨gb, 3, none⟩ v3).setCell ⟨gb, 4, none⟩ v4).setCell ⟨gb, 5, none⟩ v5).setCell ⟨gb, 6, none⟩ v6).setCell ⟨gb, 7, none⟩ v7).setCell ⟨gb, 8, none⟩ v8) :=
  ((((((((h.setCell (p := ⟨gb, 0, none⟩) hB v0).setCell (p := ⟨gb, 1, none⟩) hB v1).setCell (p := ⟨gb, 2, none⟩) hB v2).setCell (p := ⟨gb, 3, none⟩) hB v3).setCell (p := ⟨gb, 4, none⟩) hB v4).setCell (p := ⟨gb, 5, none⟩) hB v5).setCell (p := ⟨gb, 6, none⟩) hB v6).setCell (p := ⟨gb, 7, none⟩) hB v7).setCell (p := ⟨gb, 8, none⟩) hB v8
set_option maxHeartbeats 1000000 in
theorem load_num (g : HLay W hb sb vc T H u h) (id : Nat) (i : Int) (hc : H[id]? = some (some (.num i))) :
    Calls Try.prog 66 #[.pointer (some ⟨hb, 0, none⟩), .int .i64 id] W fun e w' => e = .returned (.agg #[.int .i64 2, .bool false, .int .i64 i, .string ByteArray.empty, .slice none 0 0, .slice none 0 0, .int .u64 0, .int .i64 0, .int .i64 0]) ∧ Below W.heap.size W w' := by
  have hidl : id < H.length := (List.getElem?_eq_some_iff.1 hc).1
  obtain ⟨b, cap, hvc, hcell, _⟩ := g.at hidl
  have c1 := g.cell 1
  simp only [List.getElem?_cons_succ, List.getElem?_cons_zero] at c1
  rw [hvc] at c1
  have k0 := hcell 0 _ hc (by omega)
  have k1 := hcell 1 _ hc (by omega)
  have k2 := hcell 2 _ hc (by omega)
  have k3 := hcell 3 _ hc (by omega)
  have k4 := hcell 4 _ hc (by omega)
  simp only [clO, Hc.cl, Cl.cells, List.getElem?_cons_succ, List.getElem?_cons_zero, Nat.add_zero] at k0 k1 k2 k3 k4
  have j0 : (0 : Int) ≤ id := by omega
  have j1 : (id : Int) < H.length := by omega
  have cs : ∀ w, Calls Try.prog 54 #[.int .i64 2, .bool false] w fun e w' => e = .returned (.int .i64 1) ∧ w' = w := fun w => shape_c 2 false w
  clear hcell
  have hB1 : Below W.heap.size W (W.alloc (.cells #[.int .i64 0, .bool false, .int .i64 0, .string ⟨#[]⟩, .slice none 0 0, .slice none 0 0, .int .u64 0, .int .i64 0, .int .i64 0] 43)) := (Below.refl _ W).alloc (Nat.le_refl _) _
  have hs1 : (W.alloc (.cells #[.int .i64 0, .bool false, .int .i64 0, .string ⟨#[]⟩, .slice none 0 0, .slice none 0 0, .int .u64 0, .int .i64 0, .int .i64 0] 43)).heap.size = W.heap.size + 1 := World.size_alloc ..
  have e1 := World.cell?_alloc_new W #[.int .i64 0, .bool false, .int .i64 0, .string ⟨#[]⟩, .slice none 0 0, .slice none 0 0, .int .u64 0, .int .i64 0, .int .i64 0] 43
  have f1 := World.alloc_heap_new W (.cells #[.int .i64 0, .bool false, .int .i64 0, .string ⟨#[]⟩, .slice none 0 0, .slice none 0 0, .int .u64 0, .int .i64 0, .int .i64 0] 43)
  go_enter Try.func66, Try.ntmps66
  go_upto_region 1 with fail
  have c1' := below_cell hB1 c1
  have k0' := below_cell hB1 k0
  have k1' := below_cell hB1 k1
  have k2' := below_cell hB1 k2
  have k3' := below_cell hB1 k3
  have k4' := below_cell hB1 k4
  generalize hW1 : W.alloc (.cells #[.int .i64 0, .bool false, .int .i64 0, .string ⟨#[]⟩, .slice none 0 0, .slice none 0 0, .int .u64 0, .int .i64 0, .int .i64 0] 43) = W1 at *
  clear c1 k0 k1 k2 k3 k4 hW1
  go_upto_region 3 with fail
  have hB3 : Below W1.heap.size W1 ((W1.alloc (.cells #[.int .i64 2, .bool false, .int .u64 0, .int .i64 0, .int .i64 0] 98)).alloc (.cells #[.int .i64 2, .bool false, .int .i64 0, .string ⟨#[]⟩, .slice none 0 0, .slice none 0 0, .int .u64 0, .int .i64 0, .int .i64 0] 43)) := ((Below.refl _ W1).alloc (Nat.le_refl _) _).alloc (by rw [World.size_alloc]; omega) _
  have hs2 : (W1.alloc (.cells #[.int .i64 2, .bool false, .int .u64 0, .int .i64 0, .int .i64 0] 98)).heap.size = W.heap.size + 2 := by rw [World.size_alloc, hs1]
  have hs3 : ((W1.alloc (.cells #[.int .i64 2, .bool false, .int .u64 0, .int .i64 0, .int .i64 0] 98)).alloc (.cells #[.int .i64 2, .bool false, .int .i64 0, .string ⟨#[]⟩, .slice none 0 0, .slice none 0 0, .int .u64 0, .int .i64 0, .int .i64 0] 43)).heap.size = W.heap.size + 3 := by rw [World.size_alloc, hs2]
  have eO := World.cell?_alloc_new (W1.alloc (.cells #[.int .i64 2, .bool false, .int .u64 0, .int .i64 0, .int .i64 0] 98)) #[.int .i64 2, .bool false, .int .i64 0, .string ⟨#[]⟩, .slice none 0 0, .slice none 0 0, .int .u64 0, .int .i64 0, .int .i64 0] 43
  have eC := World.cell?_alloc_new W1 #[.int .i64 2, .bool false, .int .u64 0, .int .i64 0, .int .i64 0] 98
  have eC3 : ∀ j, ((W1.alloc (.cells #[.int .i64 2, .bool false, .int .u64 0, .int .i64 0, .int .i64 0] 98)).alloc (.cells #[.int .i64 2, .bool false, .int .i64 0, .string ⟨#[]⟩, .slice none 0 0, .slice none 0 0, .int .u64 0, .int .i64 0, .int .i64 0] 43)).cell? ⟨W.heap.size + 1, j, none⟩ = #[Value.int .i64 2, .bool false, .int .u64 0, .int .i64 0, .int .i64 0][j]? := by
    intro j
    rw [← hs1, ← eC j]
    exact World.cell?_of_block (Below.heap_alloc _ _ _ (by show W1.heap.size < _; rw [World.size_alloc]; omega))
  have fO := World.alloc_heap_new (W1.alloc (.cells #[.int .i64 2, .bool false, .int .u64 0, .int .i64 0, .int .i64 0] 98)) (.cells #[.int .i64 2, .bool false, .int .i64 0, .string ⟨#[]⟩, .slice none 0 0, .slice none 0 0, .int .u64 0, .int .i64 0, .int .i64 0] 43)
  rw [hs2, show W.heap.size + 2 = W.heap.size + 1 + 1 from rfl] at eO fO
  generalize (W1.alloc (.cells #[.int .i64 2, .bool false, .int .u64 0, .int .i64 0, .int .i64 0] 98)).alloc (.cells #[.int .i64 2, .bool false, .int .i64 0, .string ⟨#[]⟩, .slice none 0 0, .slice none 0 0, .int .u64 0, .int .i64 0, .int .i64 0] 43) = W3 at *
  have eR3 : ∀ j, W3.cell? ⟨W.heap.size, j, none⟩ = #[.int .i64 0, .bool false, .int .i64 0, .string ⟨#[]⟩, .slice none 0 0, .slice none 0 0, .int .u64 0, .int .i64 0, .int .i64 0][j]? := by
    intro j
    rw [World.cell?_of_block (hB3.block W.heap.size (by omega))]
    exact e1 j
  have hBW : Below W.heap.size W W3 := hB1.trans (hB3.mono hB1.size)
  have g3 := g.below hBW
  have fR : W3.heap[W.heap.size]? = some (.cells #[.int .i64 0, .bool false, .int .i64 0, .string ⟨#[]⟩, .slice none 0 0, .slice none 0 0, .int .u64 0, .int .i64 0, .int .i64 0] 43) := (hB3.block W.heap.size (by omega)).trans f1
  have c0 := g3.cell 0
  simp only [List.getElem?_cons_zero] at c0
  have ho := g.ok id _ hc
  have cl := load_st g3.st id _ (hA_some hc) 0 8 (.inr (.inr (.inr rfl))) (by omega) (by show 0 + 8 ≤ (le8 _).length; rw [le8_len]; omega)
  have el : leN (seg (Hc.num i).bytes 0 8) = (i % 18446744073709551616).toNat := by
    have h1 : seg (Hc.num i).bytes 0 8 = le8 (i % 18446744073709551616).toNat := by
      show ((le8 _).drop 0).take 8 = _
      rw [List.drop_zero, List.take_of_length_le (by rw [le8_len]; omega)]
    rw [h1, leN_le8 _ (by omega)]
  rw [el, show ((0 : Nat) : Int) = 0 from rfl, show ((8 : Nat) : Int) = 8 from rfl] at cl
  have ei : IntKind.i64.wrap (((i % 18446744073709551616).toNat : Nat) : Int) = i := by
    have h1 := ho.1
    have h2 := ho.2
    rw [IntKind.wrap_i64]; omega
  generalize (i % 18446744073709551616).toNat = X at cl ei
  have kp : Hid (∀ w4, Below W3.heap.size W3 w4 → w4.heap[W.heap.size]? = some (.cells #[.int .i64 0, .bool false, .int .i64 0, .string ⟨#[]⟩, .slice none 0 0, .slice none 0 0, .int .u64 0, .int .i64 0, .int .i64 0] 43) ∧ w4.heap[W.heap.size + 1 + 1]? = some (.cells #[.int .i64 2, .bool false, .int .i64 0, .string ⟨#[]⟩, .slice none 0 0, .slice none 0 0, .int .u64 0, .int .i64 0, .int .i64 0] 43)) := by
    show ∀ w4, _
    intro w4 hB4
    exact ⟨(hB4.block _ (by omega)).trans fR, (hB4.block _ (by omega)).trans fO⟩
  clear eR3 fR fO g3 e1 c1' k0' k1' k2' k3' k4' f1
  go_upto_region 6 with (first | (go_at_call 54; (with_reducible refine (cs _).mono ?_); rintro e w' ⟨rfl, hw⟩; (have hw' := hw.symm); subst hw'; clear hw) | (go_at_call 70; (with_reducible refine cl.mono ?_); rintro e w4 ⟨rfl, hB4⟩; clear cl))
  obtain ⟨fR, fO⟩ := kp.out w4 hB4
  have eR := fun j => cell_of_row w4 W.heap.size j _ _ _ fR
  have eO := fun j => cell_of_row w4 (W.heap.size + 1 + 1) j _ _ _ fO
  have zR : ∀ j, w4.frozen? ⟨W.heap.size, j, none⟩ = false := fun j => by simp [World.frozen?, fR]
  have zO : ∀ j, w4.frozen? ⟨W.heap.size + 1 + 1, j, none⟩ = false := fun j => by simp [World.frozen?, fO]
  have hBf : Below W.heap.size W w4 := hBW.trans (hB4.mono hBW.size)
  have hO1 : W.heap.size ≤ W.heap.size + 1 + 1 := by omega
  have FR := hid fR
  clear kp fR fO g ho hc hBW hB4
  go_wp2
  refine bodyPost_ret (cell_ret rfl _ _ W.heap.size _ _ _ _ _ _ _ _ _ (0, 0) rfl (nine_set ((Below.heap_setCell _ _ _ _ (by show W.heap.size ≠ W.heap.size + 1 + 1; omega)).trans FR.out) _ _ _ _ _ _ _ _ _)) rfl ?_
  exact ⟨rfl, nine_below (hBf.setCell (p := ⟨W.heap.size + 1 + 1, 2, none⟩) hO1 _) (Nat.le_refl _) _ _ _ _ _ _ _ _ _⟩
end
end Go.Proofs.Ytbgabpgohkcahaa.W
/- Package heap: Get. -/
namespace Go.Proofs.Ytbgabpgohkcahaa.W
open Go.ChangeShapes Go.WideShapes Go.RowKit Go.Shelf
set_option linter.unusedVariables false
section
variable {W W' : World} {hb sb : Nat} {vc : Value} {T : Nat → Prop} {H : List (Option Hc)} {u h : Nat}
theorem cell_ret2 {fn : Func} {p q : Tmp} (h : fn.results = #[.cell p 43, .tmp q]) (tmps : Array Value) (w : World) (gb : Nat) (v0 v1 v2 v3 v4 v5 v6 v7 v8 : Value) (fr : Nat × Nat) (hp : tmps.getD p undef = .pointer (some ⟨gb, 0, none⟩)) (hg : w.heap[gb]? = some (.cells #[v0, v1, v2, v3, v4, v5, v6, v7, v8] 43 fr)) : (results fn tmps).run Try.prog w = .ok (.tuple #[.agg #[v0, v1, v2, v3, v4, v5, v6, v7, v8], tmps.getD q undef]) w := by
  have ht := cellT
  rw [results_cell_tmp h, hp]
  cases hu : Try.prog.underlying 43 with
  | none => rw [hu] at ht; cases ht
  | some d =>
    rw [hu] at ht
    simp only [Option.map_some, Option.some.injEq] at ht
    have hl := run_loadVar_row (P := Try.prog) w gb 43 43 #[v0, v1, v2, v3, v4, v5, v6, v7, v8] fr d hg hu (by cases d <;> first | rfl | exact ht) (by rw [cellSz]; rfl)
    simp [asAddr, hl]
theorem get_c (g : HLay W hb sb vc T H u h) (w : Nat) (hw : w < 18446744073709551616) (id : Nat) (hi : hit H w = some id) (kd : Int) (vw : Bool) (i : Int) (t : ByteArray) (ob ow : Option Addr) (bl bc wl wc : Nat) (ba fr ln : Int) (hld : ∀ w1, Below W.heap.size W w1 → Calls Try.prog 66 #[.pointer (some ⟨hb, 0, none⟩), .int .i64 id] w1 fun e w' => e = .returned (.agg #[.int .i64 kd, .bool vw, .int .i64 i, .string t, .slice ob bl bc, .slice ow wl wc, .int .u64 ba, .int .i64 fr, .int .i64 ln]) ∧ Below w1.heap.size w1 w') :
    Calls Try.prog 38 #[.pointer (some ⟨hb, 0, none⟩), .int .u64 w] W fun e w' => e = .returned (.tuple #[.agg #[.int .i64 kd, .bool vw, .int .i64 i, .string t, .slice ob bl bc, .slice ow wl wc, .int .u64 ba, .int .i64 fr, .int .i64 ln], .int .i64 0]) ∧ Below W.heap.size W w' := by
  have hB1 : Below W.heap.size W (W.alloc (.cells #[.int .i64 0, .bool false, .int .i64 0, .string ⟨#[]⟩, .slice none 0 0, .slice none 0 0, .int .u64 0, .int .i64 0, .int .i64 0] 43)) := (Below.refl _ W).alloc (Nat.le_refl _) _
  have hs1 : (W.alloc (.cells #[.int .i64 0, .bool false, .int .i64 0, .string ⟨#[]⟩, .slice none 0 0, .slice none 0 0, .int .u64 0, .int .i64 0, .int .i64 0] 43)).heap.size = W.heap.size + 1 := World.size_alloc ..
  have f1 := World.alloc_heap_new W (.cells #[.int .i64 0, .bool false, .int .i64 0, .string ⟨#[]⟩, .slice none 0 0, .slice none 0 0, .int .u64 0, .int .i64 0, .int .i64 0] 43)
  have cf := find_c (g.below hB1) w hw
  rw [hi] at cf
  simp only [Option.getD_some, Option.isSome_some] at cf
  have cl := hld _ hB1
  have kp : Hid (∀ w4, Below (W.alloc (.cells #[.int .i64 0, .bool false, .int .i64 0, .string ⟨#[]⟩, .slice none 0 0, .slice none 0 0, .int .u64 0, .int .i64 0, .int .i64 0] 43)).heap.size (W.alloc (.cells #[.int .i64 0, .bool false, .int .i64 0, .string ⟨#[]⟩, .slice none 0 0, .slice none 0 0, .int .u64 0, .int .i64 0, .int .i64 0] 43)) w4 → w4.heap[W.heap.size]? = some (.cells #[.int .i64 0, .bool false, .int .i64 0, .string ⟨#[]⟩, .slice none 0 0, .slice none 0 0, .int .u64 0, .int .i64 0, .int .i64 0] 43) ∧ Below W.heap.size W w4) := by
    show ∀ w4, _
    intro w4 hB4
    exact ⟨(hB4.block _ (by omega)).trans f1, hB1.trans (hB4.mono hB1.size)⟩
  clear hld
  go_enter Try.func38, Try.ntmps38
  go_upto_region 1 with fail
  generalize W.alloc (.cells #[.int .i64 0, .bool false, .int .i64 0, .string ⟨#[]⟩, .slice none 0 0, .slice none 0 0, .int .u64 0, .int .i64 0, .int .i64 0] 43) = W1 at *
  go_wp2_with (first | (go_at_call 51; (with_reducible refine cf.mono ?_); rintro e w' ⟨rfl, hw⟩; (have hw' := hw.symm); subst hw'; clear hw cf) | (go_at_call 66; (with_reducible refine cl.mono ?_); rintro e w4 ⟨rfl, hB4⟩; clear cl; (obtain ⟨fR, hBf⟩ := kp.out w4 hB4); (have eR := fun j => cell_of_row w4 W.heap.size j _ _ _ fR); (have zR := (fun j => by simp [World.frozen?, fR] : ∀ j, w4.frozen? ⟨W.heap.size, j, none⟩ = false)); (have FR := hid fR); clear fR))
  refine bodyPost_ret (cell_ret2 rfl _ _ W.heap.size _ _ _ _ _ _ _ _ _ (0, 0) rfl (nine_set FR.out _ _ _ _ _ _ _ _ _)) rfl ?_
  exact ⟨rfl, nine_below hBf (Nat.le_refl _) _ _ _ _ _ _ _ _ _⟩
theorem get_num (g : HLay W hb sb vc T H u h) (w : Nat) (hw : w < 18446744073709551616) (id : Nat) (hi : hit H w = some id) (i : Int) (hc : H[id]? = some (some (.num i))) :
    Calls Try.prog 38 #[.pointer (some ⟨hb, 0, none⟩), .int .u64 w] W fun e w' => e = .returned (.tuple #[.agg #[.int .i64 2, .bool false, .int .i64 i, .string ByteArray.empty, .slice none 0 0, .slice none 0 0, .int .u64 0, .int .i64 0, .int .i64 0], .int .i64 0]) ∧ Below W.heap.size W w' :=
  get_c g w hw id hi 2 false i ByteArray.empty none none 0 0 0 0 0 0 0 (fun w1 hB => load_num (g.below hB) id i hc)
end
end Go.Proofs.Ytbgabpgohkcahaa.W
/- casketlaw6's awake. -/
namespace Go.Proofs.Ytbgabpgohkcahaa.W
open Go.ChangeShapes Go.WideShapes Go.RowKit Go.Shelf
set_option linter.unusedVariables false
def aw0 : List (Option Hc) := [some (.num 5)]
def aw1 : List (Option Hc) := [some (.num 5), some (.row [18445336698825998336, 9221120237041090560])]
theorem aw_need0 (i : Int) : (Hc.num i).need = 2 := by unfold Hc.need; rw [show (Hc.num i).bytes.length = 8 from le8_len _]
theorem aw_need1 : (Hc.row [18445336698825998336, 9221120237041090560]).need = 3 := by unfold Hc.need; rw [show (Hc.row [18445336698825998336, 9221120237041090560]).bytes.length = 16 from row_len _]
theorem aw_sum1 : sumH aw1 = 5 := by show (Hc.num 5).need + ((Hc.row _).need + 0) = 5; rw [aw_need0, aw_need1]
theorem aw_hit0 : hit aw1 18445336698825998336 = some 0 := by decide
theorem aw_hit1 : hit aw1 18445336698825998337 = some 1 := by decide
theorem aw_val : ∀ w ∈ [18445336698825998336, 9221120237041090560], isVal aw0 w = true := by decide
theorem aw_rch (rs : List Nat) : rchB aw1 ([18445336698825998337] ++ rs) = [true, true] := by
  refine needR_eq (H := aw1) (rchB_len _ _) rfl (fun i => ?_)
  rw [rchB_get]
  have h1 : Rch aw1 ([18445336698825998337] ++ rs) 1 := .root 18445336698825998337 1 (by simp) aw_hit1
  have h0 : Rch aw1 ([18445336698825998337] ++ rs) 0 := .step 1 0 18445336698825998336 (.row [18445336698825998336, 9221120237041090560]) h1 rfl (by simp [Hc.succ]) aw_hit0
  constructor
  · intro h
    obtain ⟨c, hc⟩ := h.live
    have : i < 2 := (List.getElem?_eq_some_iff.1 hc).1
    rcases (by omega : i = 0 ∨ i = 1) with rfl | rfl <;> rfl
  · intro h
    have : i < 2 := (List.getElem?_eq_some_iff.1 h).1
    rcases (by omega : i = 0 ∨ i = 1) with rfl | rfl
    · exact h0
    · exact h1
theorem aw_reach : reachN aw1 [18445336698825998337] = 5 := by
  have := aw_rch []
  rw [List.append_nil] at this
  unfold reachN
  rw [this]
  show (if true = true then (Hc.num 5).need else 0) + ((if true = true then (Hc.row _).need else 0) + 0) = 5
  rw [aw_need0, aw_need1]; rfl
theorem aw_room : roomH aw1 6 (.num 6) [18445336698825998337] = aw1 := by
  unfold roomH
  rw [aw_sum1, aw_need0, if_neg (by decide), aw_rch]
  rfl
theorem aw_put0 {W : World} {S : Nat → Prop} {hb : Nat} (g : HSt W S hb [] 6) (hS : ∀ k, S k → k < W.heap.size) :
    Calls Try.prog 13 #[.pointer (some ⟨hb, 0, none⟩), .agg #[.int .i64 2, .bool false, .int .i64 5, .string ⟨#[]⟩, .slice none 0 0, .slice none 0 0, .int .u64 0, .int .i64 0, .int .i64 0], .slice none 0 0] W fun e w' => e = .returned (.tuple #[.int .u64 18445336698825998336, .int .i64 0]) ∧ Upd S W w' ∧ HSt w' (Nx S W w') hb aw0 6 := by
  refine (put_num g hS 5 (by omega) (by omega) none none 0 0 (.slice none 0 0) [] (words_nil W _ _)).mono ?_
  intro e w' h
  exact h.fits (by rw [aw_need0]; decide)
theorem aw_put1 {W : World} {S : Nat → Prop} {hb : Nat} (g : HSt W S hb aw0 6) (hS : ∀ k, S k → k < W.heap.size) :
    Calls Try.prog 13 #[.pointer (some ⟨hb, 0, none⟩), .agg #[.int .i64 9, .bool false, .int .i64 0, .string ⟨#[]⟩, .slice none 0 0, .slice (some ⟨W.heap.size, 0, none⟩) 2 2, .int .u64 0, .int .i64 0, .int .i64 0], .slice (some ⟨W.heap.size + 1, 0, none⟩) 1 1] ((W.alloc (.cells #[.int .u64 18445336698825998336, .int .u64 9221120237041090560] 22)).alloc (.cells #[.int .u64 18445336698825998336] 22)) fun e w' => e = .returned (.tuple #[.int .u64 18445336698825998337, .int .i64 0]) ∧ Upd S W w' ∧ HSt w' (Nx S W w') hb aw1 6 := by
  have hB1 : Below W.heap.size W (W.alloc (.cells #[.int .u64 18445336698825998336, .int .u64 9221120237041090560] 22)) := (Below.refl _ W).alloc (Nat.le_refl _) _
  have hs1 : (W.alloc (.cells #[.int .u64 18445336698825998336, .int .u64 9221120237041090560] 22)).heap.size = W.heap.size + 1 := World.size_alloc ..
  have hB2 : Below (W.alloc (.cells #[.int .u64 18445336698825998336, .int .u64 9221120237041090560] 22)).heap.size (W.alloc (.cells #[.int .u64 18445336698825998336, .int .u64 9221120237041090560] 22)) ((W.alloc (.cells #[.int .u64 18445336698825998336, .int .u64 9221120237041090560] 22)).alloc (.cells #[.int .u64 18445336698825998336] 22)) := (Below.refl _ _).alloc (Nat.le_refl _) _
  have hs2 : (((W.alloc (.cells #[.int .u64 18445336698825998336, .int .u64 9221120237041090560] 22)).alloc (.cells #[.int .u64 18445336698825998336] 22))).heap.size = W.heap.size + 2 := by rw [World.size_alloc, hs1]
  have hB : Below W.heap.size W ((W.alloc (.cells #[.int .u64 18445336698825998336, .int .u64 9221120237041090560] 22)).alloc (.cells #[.int .u64 18445336698825998336] 22)) := hB1.trans (hB2.mono hB1.size)
  have hw := words_below (words_new W [18445336698825998336, 9221120237041090560] _ (by decide) (by decide) rfl 22) hB2
  have hr := words_new (W.alloc (.cells #[.int .u64 18445336698825998336, .int .u64 9221120237041090560] 22)) [18445336698825998336] _ (by decide) (by decide) rfl 22
  rw [hs1] at hr
  refine (put_row (g.below hB) (fun k e => by have := hS k e; omega) [18445336698825998336, 9221120237041090560] (by decide) (by decide) aw_val none (some ⟨W.heap.size, 0, none⟩) 0 2 hw ?_ _ _ hr).mono ?_
  · intro o n cap e k
    cases e
    rcases k with k | k
    · have := hS _ k; exact absurd this (Nat.lt_irrefl _)
    · have k' : (((W.alloc (.cells #[.int .u64 18445336698825998336, .int .u64 9221120237041090560] 22)).alloc (.cells #[.int .u64 18445336698825998336] 22))).heap.size ≤ W.heap.size := k
      omega
  · intro e w' h
    obtain ⟨h1, h2, h3⟩ := h.fits (by rw [aw_need1]; show (Hc.num 5).need + 0 + 3 ≤ 6; rw [aw_need0]; decide)
    have hz := h2.size
    refine ⟨h1, (Upd.of_below hB).trans' h2, h3.mono ?_⟩
    rintro k (e | e)
    · exact .inl e
    · exact .inr ⟨by omega, e.2⟩
theorem aw_put2 {W : World} {S : Nat → Prop} {hb : Nat} (g : HSt W S hb aw1 6) (hS : ∀ k, S k → k < W.heap.size) :
    Calls Try.prog 13 #[.pointer (some ⟨hb, 0, none⟩), .agg #[.int .i64 2, .bool false, .int .i64 6, .string ⟨#[]⟩, .slice none 0 0, .slice none 0 0, .int .u64 0, .int .i64 0, .int .i64 0], .slice (some ⟨W.heap.size, 0, none⟩) 1 1] (W.alloc (.cells #[.int .u64 18445336698825998337] 22)) fun e w' => e = .returned (.tuple #[.int .u64 0, .int .i64 40]) ∧ Upd S W w' ∧ HSt w' (Nx S W w') hb aw1 6 := by
  have hB1 : Below W.heap.size W (W.alloc (.cells #[.int .u64 18445336698825998337] 22)) := (Below.refl _ W).alloc (Nat.le_refl _) _
  have hs1 : (W.alloc (.cells #[.int .u64 18445336698825998337] 22)).heap.size = W.heap.size + 1 := World.size_alloc ..
  have hr := words_new W [18445336698825998337] _ (by decide) (by decide) rfl 22
  refine (put_num (g.below hB1) (fun k e => by have := hS k e; omega) 6 (by omega) (by omega) none none 0 0 _ _ hr).mono ?_
  intro e w' h
  rw [aw_room] at h
  obtain ⟨h1, h2, h3⟩ := h.not (by rw [aw_need0, aw_sum1]; decide)
  have hz := h2.size
  refine ⟨h1, (Upd.of_below hB1).trans' h2, h3.mono ?_⟩
  rintro k (e | e)
  · exact .inl e
  · exact .inr ⟨by omega, e.2⟩
theorem HSt.lt {W : World} {S : Nat → Prop} {hb : Nat} {H : List (Option Hc)} {u : Nat} {W' : World} (hS : ∀ k, S k → k < W.heap.size) (hU : Upd S W W') : ∀ k, Nx S W W' k → k < W'.heap.size := by
  rintro k (e | e)
  · have := hS k e; have := hU.size; omega
  · exact e.2
theorem awake6_c (W : World) : Calls Try.prog 16 #[] W fun e w' => e = .returned (.bool true) ∧ Below W.heap.size W w' := by
  have cn := hnew_c 6 (by decide) W
  rw [show ((6 : Nat) : Int) = 6 from rfl] at cn
  go_enter Try.func16, Try.ntmps16
  go_upto_region 4 with (go_at_call 6; (with_reducible refine cn.mono ?_); rintro e W1 ⟨hb, rfl, hB1, g1⟩; clear cn)
  have hS1 : ∀ k, (W.heap.size ≤ k ∧ k < W1.heap.size) → k < W1.heap.size := fun k e => e.2
  have c1 := aw_put0 g1 hS1
  go_upto_region 5 with (go_at_call 13; (with_reducible refine c1.mono ?_); rintro e W2 ⟨rfl, hU2, g2⟩; clear c1)
  have c2 := aw_put1 g2 (HSt.lt (hb := hb) (H := aw0) (u := 6) hS1 hU2)
  go_upto_region 6 with (go_at_call 13; (with_reducible refine c2.mono ?_); rintro e W3 ⟨rfl, hU3, g3⟩; clear c2)
  have c3 := aw_put2 g3 (HSt.lt (hb := hb) (H := aw0) (u := 6) (HSt.lt (hb := hb) (H := aw0) (u := 6) hS1 hU2) hU3)
  go_upto_region 7 with (go_at_call 13; (with_reducible refine c3.mono ?_); rintro e W4 ⟨rfl, hU4, g4⟩; clear c3)
  obtain ⟨sb, vc, T, l4⟩ := g4.lay
  have c4 := get_num l4 18445336698825998336 (by decide) 0 aw_hit0 5 rfl
  rw [show ((18445336698825998336 : Nat) : Int) = 18445336698825998336 from rfl] at c4
  go_upto_region 8 with (go_at_call 38; (with_reducible refine c4.mono ?_); rintro e W5 ⟨rfl, hB5⟩; clear c4)
  have hB6 : Below W5.heap.size W5 (W5.alloc (.cells #[.int .i64 2, .bool false, .int .i64 5, .string ByteArray.empty, .slice none 0 0, .slice none 0 0, .int .u64 0, .int .i64 0, .int .i64 0] 43)) := (Below.refl _ W5).alloc (Nat.le_refl _) _
  have e6 := World.cell?_alloc_new W5 #[.int .i64 2, .bool false, .int .i64 5, .string ByteArray.empty, .slice none 0 0, .slice none 0 0, .int .u64 0, .int .i64 0, .int .i64 0] 43
  have d0 := e6 0
  have d2 := e6 2
  simp only [List.getElem?_toArray, List.getElem?_cons_succ, List.getElem?_cons_zero] at d0 d2
  generalize W5.alloc (.cells #[.int .i64 2, .bool false, .int .i64 5, .string ByteArray.empty, .slice none 0 0, .slice none 0 0, .int .u64 0, .int .i64 0, .int .i64 0] 43) = W6 at *
  have hB46 : Below W4.heap.size W4 W6 := hB5.trans (hB6.mono hB5.size)
  have hB7 : Below W6.heap.size W6 (W6.alloc (.cells #[.int .u64 18445336698825998337] 22)) := (Below.refl _ W6).alloc (Nat.le_refl _) _
  have l7 := l4.below (hB46.trans (hB7.mono hB46.size))
  have c5 : Calls Try.prog 11 #[.pointer (some ⟨hb, 0, none⟩), .slice (some ⟨W6.heap.size, 0, none⟩) 1 1] (W6.alloc (.cells #[.int .u64 18445336698825998337] 22)) fun e w' => e = .returned (.int .i64 5) ∧ Below (W6.alloc (.cells #[.int .u64 18445336698825998337] 22)).heap.size (W6.alloc (.cells #[.int .u64 18445336698825998337] 22)) w' := by
    have := hreach_c l7 (by rw [aw_sum1]; decide) _ _ (words_new W6 [18445336698825998337] _ (by decide) (by decide) rfl 22)
    rw [aw_reach] at this
    exact this
  have fin : Hid (∀ w', Below (W6.alloc (.cells #[.int .u64 18445336698825998337] 22)).heap.size (W6.alloc (.cells #[.int .u64 18445336698825998337] 22)) w' → Below W.heap.size W w') := by
    show ∀ w', _
    intro w' hB8
    have hB4 : Below W1.heap.size W1 W1 := Below.refl _ _
    have u14 : Upd (fun k => W.heap.size ≤ k ∧ k < W1.heap.size) W1 W4 := (hU2.trans hU3).trans (hU4.mono (fun k e => by
      rcases e with (e | e) | e
      · exact .inl e
      · exact .inr ⟨e.1, by have := hU3.size; omega⟩
      · exact .inr ⟨by have := hU2.size; omega, e.2⟩))
    have b14 : Below W.heap.size W1 W4 := u14.below hB1.size (fun k e => e.1)
    have b4 : Below W.heap.size W W4 := hB1.trans b14
    have z1 := b4.size
    have z2 := hB46.size
    have z3 := hB7.size
    exact ((b4.trans (hB46.mono z1)).trans (hB7.mono (by omega))).trans (hB8.mono (by omega))
  clear hB46 hB7 l7 l4 hB5 hB6 g1 g2 g3 g4 hU2 hU3 hU4 e6
  go_wp2_with (go_at_call 11; (with_reducible refine c5.mono ?_); rintro e w8 ⟨rfl, hB8⟩; clear c5)
  go_ret
  exact ⟨rfl, fin.out _ hB8⟩
end Go.Proofs.Ytbgabpgohkcahaa.W
