import Derived.Test.YtndkfjoaiinjoaaGreatBase20
import Derived.Test.YtndkfjoaiinjoaaGreatBase17
import Derived.Lib.ConvBytes
import Derived.Laws.Strings
import Derived.Test.YtndkfjoaiinjoaaGreatBase12
import Derived.Test.YtndkfjoaiinjoaaGreatBase0
/- Package heap: Put. -/
namespace Go.Proofs.YtndkfjoaiinjoaaGreat.W
open Go.ChangeShapes Go.WideShapes Go.RowKit Go.Shelf
set_option linter.unusedVariables false
section
variable {W W' : World} {hb sb : Nat} {vc : Value} {T S : Nat → Prop} {H : List (Option Hc)} {u h : Nat}
/-- what Put answers and leaves -/
def PutPost (W : World) (S : Nat → Prop) (hb : Nat) (H1 : List (Option Hc)) (u : Nat) (c : Hc) (e : Ending) (w' : World) : Prop := Upd S W w' ∧ ((sumH H1 + c.need ≤ u ∧ e = .returned (.tuple #[.int .u64 (18445336698825998336 + lid H1 : Nat), .int .i64 0]) ∧ HSt w' (Nx S W w') hb (putH H1 (lid H1) (some c)) u) ∨ (u < sumH H1 + c.need ∧ e = .returned (.tuple #[.int .u64 0, .int .i64 40]) ∧ HSt w' (Nx S W w') hb H1 u))
set_option maxHeartbeats 2000000 in
theorem hput_c (g : HSt W S hb H u) (hS : ∀ k, S k → k < W.heap.size) (c : Hc) (hok : c.ok) (i : Int) (t : ByteArray) (ob ow : Option Addr) (bl bc wl wc : Nat) (htl : t.size ≤ 8388608) (hbl : bl ≤ 8388608) (hwl : wl ≤ 1048576) (hsz : sizeV c.cl.kind c.cl.view t.size bl wl = c.bytes.length) (hws : WordsAt W (.slice ow wl wc) c.ws) (hbase : c.cl.base < 18446744073709551616)
    (hright : ∀ w, Below W.heap.size W w → Calls Tryz.prog 26 #[.agg #[.int .i64 c.cl.kind, .bool c.cl.view, .int .i64 i, .string t, .slice ob bl bc, .slice ow wl wc, .int .u64 c.cl.base, .int .i64 c.cl.frm, .int .i64 c.cl.len], (.func (.func 27) #[.pointer (some ⟨hb, 0, none⟩)] #[])] w fun e w' => e = .returned (.bool true) ∧ Below w.heap.size w w')
    (hsv : ∀ sb h, SaveOk W hb sb S c (.agg #[.int .i64 c.cl.kind, .bool c.cl.view, .int .i64 i, .string t, .slice ob bl bc, .slice ow wl wc, .int .u64 c.cl.base, .int .i64 c.cl.frm, .int .i64 c.cl.len]) u h) (vr : Value) (rs : List Nat) (hr : WordsAt W vr rs) :
    Calls Tryz.prog 13 #[.pointer (some ⟨hb, 0, none⟩), .agg #[.int .i64 c.cl.kind, .bool c.cl.view, .int .i64 i, .string t, .slice ob bl bc, .slice ow wl wc, .int .u64 c.cl.base, .int .i64 c.cl.frm, .int .i64 c.cl.len], vr] W (PutPost W S hb (roomH H u c rs) u c) := by
  obtain ⟨orr, capr, hvr, _⟩ := id hr
  subst hvr
  obtain ⟨sb, vc, T, g1, s1, s2, s3, s4⟩ := g
  have hu := g1.u1
  have hBa : Below W.heap.size W (W.alloc (.cells #[.int .i64 c.cl.kind, .bool c.cl.view, .int .i64 i, .string t, .slice ob bl bc, .slice ow wl wc, .int .u64 c.cl.base, .int .i64 c.cl.frm, .int .i64 c.cl.len] 41)) := (Below.refl _ W).alloc (Nat.le_refl _) _
  have n9 := World.cell?_alloc_new W #[.int .i64 c.cl.kind, .bool c.cl.view, .int .i64 i, .string t, .slice ob bl bc, .slice ow wl wc, .int .u64 c.cl.base, .int .i64 c.cl.frm, .int .i64 c.cl.len] 41
  have hsa : ((W.alloc (.cells #[.int .i64 c.cl.kind, .bool c.cl.view, .int .i64 i, .string t, .slice ob bl bc, .slice ow wl wc, .int .u64 c.cl.base, .int .i64 c.cl.frm, .int .i64 c.cl.len] 41))).heap.size = W.heap.size + 1 := World.size_alloc ..
  have cn := need_c c.cl.kind c.cl.view i t ob ow bl bc wl wc c.cl.base c.cl.frm c.cl.len (by omega) (by omega) (by omega)
  rw [hsz] at cn
  have en : (1 + (c.bytes.length + 7) / 8 : Nat) = c.need := rfl
  rw [en] at cn
  unfold cellV at cn
  have cr := hright (W.alloc (.cells #[.int .i64 c.cl.kind, .bool c.cl.view, .int .i64 i, .string t, .slice ob bl bc, .slice ow wl wc, .int .u64 c.cl.base, .int .i64 c.cl.frm, .int .i64 c.cl.len] 41)) hBa
  have k2 : Hid (∀ w2, Below ((W.alloc (.cells #[.int .i64 c.cl.kind, .bool c.cl.view, .int .i64 i, .string t, .slice ob bl bc, .slice ow wl wc, .int .u64 c.cl.base, .int .i64 c.cl.frm, .int .i64 c.cl.len] 41))).heap.size (W.alloc (.cells #[.int .i64 c.cl.kind, .bool c.cl.view, .int .i64 i, .string t, .slice ob bl bc, .slice ow wl wc, .int .u64 c.cl.base, .int .i64 c.cl.frm, .int .i64 c.cl.len] 41)) w2 → (∀ j, w2.cell? ⟨W.heap.size, j, none⟩ = #[.int .i64 c.cl.kind, .bool c.cl.view, .int .i64 i, .string t, .slice ob bl bc, .slice ow wl wc, .int .u64 c.cl.base, .int .i64 c.cl.frm, .int .i64 c.cl.len][j]?)) := by
    show ∀ w2, _
    intro w2 hB2 j
    rw [World.cell?_of_block (hB2.block W.heap.size (by omega))]
    exact n9 j
  go_enter Tryz.func13, Tryz.ntmps13
  go_upto_region 4 with (first | (go_at_call 26; (with_reducible refine cr.mono ?_); rintro e w2 ⟨rfl, hB2⟩; (have n92 := k2.out w2 hB2)) | (go_at_call 28; (with_reducible refine (cn _).mono ?_); rintro e w3 ⟨rfl, hB3⟩; clear cn))
  have hBa3 : Below ((W.alloc (.cells #[.int .i64 c.cl.kind, .bool c.cl.view, .int .i64 i, .string t, .slice ob bl bc, .slice ow wl wc, .int .u64 c.cl.base, .int .i64 c.cl.frm, .int .i64 c.cl.len] 41))).heap.size (W.alloc (.cells #[.int .i64 c.cl.kind, .bool c.cl.view, .int .i64 i, .string t, .slice ob bl bc, .slice ow wl wc, .int .u64 c.cl.base, .int .i64 c.cl.frm, .int .i64 c.cl.len] 41)) w3 := hB2.trans (hB3.mono hB2.size)
  have n93 := k2.out w3 hBa3
  have hBW : Below W.heap.size W w3 := hBa.trans (hBa3.mono hBa.size)
  have hz3 := hBa3.size
  have g3 := g1.below hBW
  have c3 := g3.cell 3
  have c2 := g3.cell 2
  simp only [List.getElem?_cons_succ, List.getElem?_cons_zero] at c3 c2
  have hU3 : Upd S W w3.drew := (Upd.of_below hBW).drew
  have nx3 : ∀ k, S k → Nx S W w3.drew k := fun k e => .inl e
  have wadd : IntKind.i64.wrap ((sumH H : Int) + (c.need : Int)) = (sumH H : Int) + (c.need : Int) := by
    have h1 : c.need ≤ 1048577 := by
      have := Hc.bytes_len hok
      unfold Hc.need; omega
    rw [IntKind.wrap_i64]; omega
  clear k2 cr n92 hB2 hB3 n9
  by_cases hfit : sumH H + c.need ≤ u
  · have hf1 : ¬ ((sumH H : Int) + (c.need : Int)) > (u : Int) := by omega
    have hro : roomH H u c rs = H := by unfold roomH; rw [if_pos hfit]
    have g5 : HLay w3.drew.drew hb sb vc T H u (sumH H) := g3.same rfl
    have hU5 : Upd S W w3.drew.drew := hU3.drew
    obtain ⟨d3, d2, d4, hl, ca⟩ := put_tail g5 hU5 (.inl s1) (fun k e => .inl (s2 k e)) (fun k e => .inl (s3 k e)) c hok i t ob ow bl bc wl wc hwl hsz hfit hsv
    have n95 : ∀ j, w3.drew.drew.cell? ⟨W.heap.size, j, none⟩ = #[.int .i64 c.cl.kind, .bool c.cl.view, .int .i64 i, .string t, .slice ob bl bc, .slice ow wl wc, .int .u64 c.cl.base, .int .i64 c.cl.frm, .int .i64 c.cl.len][j]? := n93
    have cw := wordOf_c (lid H) hl
    have hne : Hid (W.heap.size ≠ hb) := (show _ ≠ _ by have := g1.hlt; omega)
    clear g5 g3 g1 hsv hright hU5 hU3 hBW hBa3 hBa
    go_region
    go_upto_region 6 with fail
    go_region
    go_upto_region 8 with fail
    generalize w3.drew.drew = w5 at *
    have n96 : ∀ j, (w5.setCell ⟨hb, 3, none⟩ (.int .i64 ((sumH H : Int) + (c.need : Int)))).cell? ⟨W.heap.size, j, none⟩ = #[.int .i64 c.cl.kind, .bool c.cl.view, .int .i64 i, .string t, .slice ob bl bc, .slice ow wl wc, .int .u64 c.cl.base, .int .i64 c.cl.frm, .int .i64 c.cl.len][j]? := by
      intro j
      rw [World.cell?_of_block (Below.heap_setCell _ _ _ _ hne.out)]
      exact n95 j
    go_wp2_with (first | (go_at_call 32; (with_reducible refine ca.mono ?_); rintro e w6 ⟨rfl, hf⟩; clear ca) | (go_at_call 31; (with_reducible refine (cw _).mono ?_); rintro e w' ⟨rfl, hw⟩; (have hw' := hw.symm); subst hw'; clear hw))
    go_ret2
    show PutPost W S hb (roomH H u c rs) u c _ _
    rw [hro]
    exact ⟨hf.out.1, .inl ⟨hfit, rfl, hf.out.2⟩⟩
  · have hf1 : ((sumH H : Int) + (c.need : Int)) > (u : Int) := by omega
    have hro : roomH H u c rs = zipK H (rchB H (rs ++ (c.ws ++ [c.cl.base]))) := by unfold roomH Hc.seeds; rw [if_neg hfit]
    have g4 : HLay w3.drew hb sb vc T H u (sumH H) := g3.same rfl
    have csw := put_sweep g4 s4 hU3 (.inl s1) (fun k e => .inl (s2 k e)) (fun k e => .inl (s3 k e)) _ (.slice ow wl wc) rs c.ws c.cl.base (words_below (W' := w3.drew) hr ⟨hBW.os, hBW.tape, hBW.output, hBW.size, hBW.block⟩) (words_below (W' := w3.drew) hws ⟨hBW.os, hBW.tape, hBW.output, hBW.size, hBW.block⟩) hbase
    have n94 : ∀ j, w3.drew.cell? ⟨W.heap.size, j, none⟩ = #[.int .i64 c.cl.kind, .bool c.cl.view, .int .i64 i, .string t, .slice ob bl bc, .slice ow wl wc, .int .u64 c.cl.base, .int .i64 c.cl.frm, .int .i64 c.cl.len][j]? := n93
    generalize zipK H (rchB H (rs ++ (c.ws ++ [c.cl.base]))) = H1 at *
    generalize reachN H (rs ++ (c.ws ++ [c.cl.base])) = rN at *
    have hne : Hid (W.heap.size ≠ hb) := (show _ ≠ _ by have := g1.hlt; omega)
    have kk : Hid (∀ w' : World, (∀ k < w3.drew.heap.size, ¬ (T k ∨ k = hb ∨ vc.ownBlock = some k) → w'.heap[k]? = w3.drew.heap[k]?) → ∀ j : Nat, w'.cell? ⟨W.heap.size, j, none⟩ = #[.int .i64 c.cl.kind, .bool c.cl.view, .int .i64 i, .string t, .slice ob bl bc, .slice ow wl wc, .int .u64 c.cl.base, .int .i64 c.cl.frm, .int .i64 c.cl.len][j]?) := by
      show ∀ w' : World, _
      intro w' hk j
      have e4 := hk W.heap.size (by show _ < w3.heap.size; omega) (by
        rintro (e | e | e)
        · have := g1.tlt _ e; omega
        · exact hne.out e
        · have := g1.clt _ e; omega)
      rw [World.cell?_of_block e4]
      exact n94 j
    clear g3 g1 hright hU3 hBW hBa3 hBa
    go_region
    go_upto_region 5 with fail
    generalize w3.drew = w4 at *
    go_upto_region 6 with (first | (go_at_call 30; (with_reducible refine csw.mono ?_); rintro e w5 ⟨vb, rfl, hk5, ck⟩; clear csw) | (go_at_call 29; (with_reducible refine ck.mono ?_); rintro e w6 ⟨rfl, hk6, hb6⟩; clear ck))
    have n96 := kk.out w6 hb6
    obtain ⟨T', g6, hU6, t1, t2, t3, t4⟩ := hk6.out
    clear n94 kk hk5 hb6 c3 c2
    have c3 := g6.cell 3
    have c2 := g6.cell 2
    simp only [List.getElem?_cons_succ, List.getElem?_cons_zero] at c3 c2
    have wadd1 : IntKind.i64.wrap ((sumH H1 : Int) + (c.need : Int)) = (sumH H1 : Int) + (c.need : Int) := by
      have h1 : c.need ≤ 1048577 := by
        have := Hc.bytes_len hok
        unfold Hc.need; omega
      rw [IntKind.wrap_i64]; omega
    by_cases hfit1 : sumH H1 + c.need ≤ u
    · have hf2 : ¬ ((sumH H1 : Int) + (c.need : Int)) > (u : Int) := by omega
      have g7 : HLay w6.drew hb sb vc T' H1 u (sumH H1) := g6.same rfl
      obtain ⟨d3, d2, d4, hl, ca⟩ := put_tail g7 hU6.drew t1 t2 t3 c hok i t ob ow bl bc wl wc hwl hsz hfit1 hsv
      have n97 : ∀ j, w6.drew.cell? ⟨W.heap.size, j, none⟩ = #[.int .i64 c.cl.kind, .bool c.cl.view, .int .i64 i, .string t, .slice ob bl bc, .slice ow wl wc, .int .u64 c.cl.base, .int .i64 c.cl.frm, .int .i64 c.cl.len][j]? := n96
      have cw := wordOf_c (lid H1) hl
      clear g7 g6 hsv hU6 hf1 hfit
      go_region
      go_upto_region 8 with fail
      generalize w6.drew = w7 at *
      have n98 : ∀ j, (w7.setCell ⟨hb, 3, none⟩ (.int .i64 ((sumH H1 : Int) + (c.need : Int)))).cell? ⟨W.heap.size, j, none⟩ = #[.int .i64 c.cl.kind, .bool c.cl.view, .int .i64 i, .string t, .slice ob bl bc, .slice ow wl wc, .int .u64 c.cl.base, .int .i64 c.cl.frm, .int .i64 c.cl.len][j]? := by
        intro j
        rw [World.cell?_of_block (Below.heap_setCell _ _ _ _ hne.out)]
        exact n97 j
      go_wp2_with (first | (go_at_call 32; (with_reducible refine ca.mono ?_); rintro e w8 ⟨rfl, hf⟩; clear ca) | (go_at_call 31; (with_reducible refine (cw _).mono ?_); rintro e w' ⟨rfl, hw⟩; (have hw' := hw.symm); subst hw'; clear hw))
      go_ret2
      show PutPost W S hb (roomH H u c rs) u c _ _
      rw [hro]
      exact ⟨hf.out.1, .inl ⟨hfit1, rfl, hf.out.2⟩⟩
    · have hf2 : ((sumH H1 : Int) + (c.need : Int)) > (u : Int) := by omega
      have fin : Hid (Upd S W w6.drew ∧ HSt w6.drew (Nx S W w6.drew) hb H1 u) := ⟨hU6.drew, sb, vc, T', g6.same rfl, t1, t2, t3, t4⟩
      clear g6 hsv hU6 hf1 hfit
      go_region
      go_wp2
      go_ret2
      show PutPost W S hb (roomH H u c rs) u c _ _
      rw [hro]
      exact ⟨fin.out.1, .inr ⟨by omega, rfl, fin.out.2⟩⟩
end
end Go.Proofs.YtndkfjoaiinjoaaGreat.W
/- Package heap: Put, of a number and of a row. -/
namespace Go.Proofs.YtndkfjoaiinjoaaGreat.W
open Go.ChangeShapes Go.WideShapes Go.RowKit Go.Shelf
set_option linter.unusedVariables false
section
variable {W W' : World} {hb sb : Nat} {vc : Value} {T S : Nat → Prop} {H : List (Option Hc)} {u h : Nat}
theorem words_nil (W : World) (o : Option Addr) (cap : Nat) : WordsAt W (.slice o 0 cap) [] := ⟨o, cap, rfl, by simp, by simp, fun i hi => by simp at hi⟩
theorem HSt.lay (g : HSt W S hb H u) : ∃ sb vc T, HLay W hb sb vc T H u (sumH H) := by
  obtain ⟨sb, vc, T, g1, _⟩ := g
  exact ⟨sb, vc, T, g1⟩
theorem put_num (g : HSt W S hb H u) (hS : ∀ k, S k → k < W.heap.size) (i : Int) (h0 : -9223372036854775808 ≤ i) (h1 : i < 9223372036854775808) (ob ow : Option Addr) (bc wc : Nat) (vr : Value) (rs : List Nat) (hr : WordsAt W vr rs) :
    Calls Tryz.prog 13 #[.pointer (some ⟨hb, 0, none⟩), .agg #[.int .i64 2, .bool false, .int .i64 i, .string ByteArray.empty, .slice ob 0 bc, .slice ow 0 wc, .int .u64 0, .int .i64 0, .int .i64 0], vr] W (PutPost W S hb (roomH H u (.num i) rs) u (.num i)) := by
  obtain ⟨sb, vc, T, g1⟩ := g.lay
  refine hput_c g hS (.num i) ⟨h0, h1⟩ i ByteArray.empty ob ow 0 bc 0 wc (by decide) (by decide) (by decide) ?_ (words_nil W ow wc) (show 0 < _ by decide) ?_ ?_ vr rs hr
  · show sizeV 2 false 0 0 0 = (le8 _).length
    rw [le8_len]; decide
  · intro w hB
    exact right_num (g1.below hB) i ob ow bc wc
  · intro sb h W' T' vc' H' id hl hi hT hU
    exact save_num hl id i 0 hi h0 h1 ob ow bc wc
end
end Go.Proofs.YtndkfjoaiinjoaaGreat.W
/- Package heap: save and Put, of a string. -/
namespace Go.Proofs.YtndkfjoaiinjoaaGreat.W
open Go.ChangeShapes Go.WideShapes Go.RowKit Go.Shelf
set_option linter.unusedVariables false
section
variable {W W' : World} {hb sb : Nat} {vc : Value} {T : Nat → Prop} {H : List (Option Hc)} {u h : Nat}
theorem mkc_text (n : Nat) (h : n ≤ 8388608) : Mkc Hc.text n := ⟨fun b => rfl, fun b b' => rfl, fun b hb hl => ⟨hb, by omega⟩⟩
theorem save_text (g : HLay W hb sb vc T H u h) (id : Nat) (t : ByteArray) (hc : H[id]? = some (some (.text (List.replicate t.size 0)))) (hl : t.size ≤ 8388608) (ob ow : Option Addr) (bc wc : Nat) :
    Calls Tryz.prog 72 #[.pointer (some ⟨hb, 0, none⟩), .int .i64 id, .agg #[.int .i64 4, .bool false, .int .i64 0, .string t, .slice ob 0 bc, .slice ow 0 wc, .int .u64 0, .int .i64 0, .int .i64 0]] W fun e w' => e = .returned (.tuple #[]) ∧ Upd T W w' ∧ HLay w' hb sb vc T (H.set id (some (.text (t.data.toList.map UInt8.toNat)))) u h := by
  have hBa : Below W.heap.size W (W.alloc (.cells #[.int .i64 4, .bool false, .int .i64 0, .string t, .slice ob 0 bc, .slice ow 0 wc, .int .u64 0, .int .i64 0, .int .i64 0] 41)) := (Below.refl _ W).alloc (Nat.le_refl _) _
  have ga := g.below hBa
  have cs : ∀ w, Calls Tryz.prog 58 #[.int .i64 4, .bool false] w fun e w' => e = .returned (.int .i64 2) ∧ w' = w := fun w => shape_c 4 false w
  go_enter Tryz.func72, Tryz.ntmps72
  go_upto_region 5 with (go_at_call 58; (with_reducible refine (cs _).mono ?_); rintro e w' ⟨rfl, hw⟩; (have hw' := hw.symm); subst hw'; clear hw)
  have c3 := World.cell?_alloc_new W #[.int .i64 4, .bool false, .int .i64 0, .string t, .slice ob 0 bc, .slice ow 0 wc, .int .u64 0, .int .i64 0, .int .i64 0] 41 3
  simp only [List.getElem?_toArray, List.getElem?_cons_succ, List.getElem?_cons_zero] at c3
  have hsa : (W.alloc (.cells #[.int .i64 4, .bool false, .int .i64 0, .string t, .slice ob 0 bc, .slice ow 0 wc, .int .u64 0, .int .i64 0, .int .i64 0] 41)).heap.size = W.heap.size + 1 := World.size_alloc ..
  generalize W.alloc (.cells #[.int .i64 4, .bool false, .int .i64 0, .string t, .slice ob 0 bc, .slice ow 0 wc, .int .u64 0, .int .i64 0, .int .i64 0] 41) = Wa at *
  have hcv : (convert 9 39 (.string t)).run Tryz.prog Wa = .ok (.slice (some ⟨Wa.heap.size, 0, none⟩) t.size (grownCap Wa t.size 0 5)) (Lib.bytesWorld Wa 5 t) := Lib.run_convert_string_bytes Wa _ _ _ t Tryz.underlying9 Tryz.underlying39 Tryz.underlying5
  have hBb : Below Wa.heap.size Wa (Lib.bytesWorld Wa 5 t) := ⟨rfl, rfl, rfl, by rw [Lib.bytesWorld_size]; omega, fun k hk => Lib.bytesWorld_at_old Wa _ t k hk⟩
  have hsb := Lib.bytesWorld_size Wa 5 t
  have hbl : (t.data.toList.map UInt8.toNat).length = t.size := by rw [List.length_map]; rfl
  have hrow : ByteRow (Lib.bytesWorld Wa 5 t) (some ⟨Wa.heap.size, 0, none⟩) (t.data.toList.map UInt8.toNat) := by
    refine .inr ⟨_, _, rfl, fun i hi => ?_⟩
    rw [Nat.zero_add, Lib.bytesWorld_cell Wa _ t i (by omega)]
    have hi2 : i < t.data.size := by simpa using hi
    rw [List.getElem_map]
    simp
    rw [Array.getElem?_eq_getElem hi2]
    rfl
  have hcp : t.size ≤ grownCap Wa t.size 0 5 := grownCap_ge Wa t.size 0 _
  have cb := saveBytes_c (ga.below hBb) Hc.text (t.data.toList.map UInt8.toNat) (by rw [hbl]; exact mkc_text _ hl) (fun x hx => by obtain ⟨y, _, rfl⟩ := List.mem_map.1 hx; exact y.toNat_lt) (by omega) id (by rw [hbl]; exact hc) (some ⟨Wa.heap.size, 0, none⟩) (grownCap Wa t.size 0 5) (by omega) hrow (fun x e => by cases e; exact ⟨fun e2 => by have h9 := g.tlt Wa.heap.size e2; omega, by show Wa.heap.size < _; omega⟩)
  rw [hbl] at cb
  have fin : Hid (∀ w2, Upd T (Lib.bytesWorld Wa 5 t) w2 → Upd T W w2) := by
    show ∀ w2, _
    intro w2 hU
    exact ((Upd.of_below hBa).trans' (Upd.of_below hBb)).trans' hU
  generalize grownCap Wa t.size 0 5 = cp at *
  generalize Lib.bytesWorld Wa 5 t = Wb at *
  clear hrow hBb hsb ga g hBa hsa
  go_wp2_with (go_at_call 106; (with_reducible refine cb.mono ?_); rintro e w2 ⟨rfl, hU2, hL2⟩; clear cb)
  go_end0
  exact ⟨rfl, fin.out _ hU2, hL2⟩
/-- the bytes of a string -/
def strB (t : ByteArray) : List Nat := t.data.toList.map UInt8.toNat
theorem strB_len (t : ByteArray) : (strB t).length = t.size := by unfold strB; rw [List.length_map]; rfl
theorem strB_ok (t : ByteArray) (h : t.size ≤ 8388608) : (Hc.text (strB t)).ok := ⟨fun x hx => by obtain ⟨y, _, rfl⟩ := List.mem_map.1 hx; exact y.toNat_lt, by rw [strB_len]; exact h⟩
theorem text_need (t : ByteArray) : (Hc.text (strB t)).need = 1 + (t.size + 7) / 8 := by
  unfold Hc.need
  rw [show (Hc.text (strB t)).bytes.length = t.size from strB_len t]
theorem put_text {S : Nat → Prop} (g : HSt W S hb H u) (hS : ∀ k, S k → k < W.heap.size) (t : ByteArray) (hl : t.size ≤ 8388608) (ob ow : Option Addr) (bc wc : Nat) (vr : Value) (rs : List Nat) (hr : WordsAt W vr rs) :
    Calls Tryz.prog 13 #[.pointer (some ⟨hb, 0, none⟩), .agg #[.int .i64 4, .bool false, .int .i64 0, .string t, .slice ob 0 bc, .slice ow 0 wc, .int .u64 0, .int .i64 0, .int .i64 0], vr] W (PutPost W S hb (roomH H u (.text (strB t)) rs) u (.text (strB t))) := by
  refine hput_c g hS (.text (strB t)) (strB_ok t hl) 0 t ob ow 0 bc 0 wc hl (by decide) (by decide) ?_ (words_nil W ow wc) (show 0 < _ by decide) ?_ ?_ vr rs hr
  · show sizeV 4 false t.size 0 0 = (strB t).length
    rw [strB_len]; rfl
  · intro w hB
    exact right_text t ob ow bc wc hl hb w
  · intro sb h W' T' vc' H' id hl' hi hT hU
    have e : (Hc.text (strB t)).zero = .text (List.replicate t.size 0) := by show Hc.text (List.replicate (strB t).length 0) = _; rw [strB_len]
    rw [e] at hi
    exact save_text hl' id t hi hl ob ow bc wc
end
end Go.Proofs.YtndkfjoaiinjoaaGreat.W
/- casketlaw7's plain; plain values. -/
namespace Go.Proofs.YtndkfjoaiinjoaaGreat.W
open Go.ChangeShapes Go.WideShapes Go.RowKit Go.Shelf
set_option linter.unusedVariables false
/-- a right value that is no thing -/
def PV (kd i bi re : Int) (t : ByteArray) : Prop := (kd = 0 ∧ i = 0 ∧ bi = 0 ∧ t = ⟨#[]⟩ ∧ re = 0) ∨ (kd = 1 ∧ (i = 0 ∨ i = 1) ∧ bi = 0 ∧ t = ⟨#[]⟩ ∧ re = 0) ∨ (kd = 2 ∧ bi = 0 ∧ t = ⟨#[]⟩ ∧ re = 0) ∨ (kd = 3 ∧ i = 0 ∧ t = ⟨#[]⟩ ∧ re = 0) ∨ (kd = 4 ∧ i = 0 ∧ bi = 0 ∧ re = 0)
end Go.Proofs.YtndkfjoaiinjoaaGreat.W
/- Contracts of package word's FromText and of the statements' awake. -/
namespace Go.Proofs.YtndkfjoaiinjoaaGreat.W
open Go.ChangeShapes Go.WideShapes Go.RowKit

theorem take_snoc (s : ByteArray) (k : Nat) (h : k < s.size) : s.data.toList.take (k + 1) = s.data.toList.take k ++ [s[k]] := by
  rw [List.take_succ_eq_append_getElem (by simpa using h)]; rfl
theorem pow8 (k : Nat) : 2 ^ (8 * k) = 256 ^ k := by rw [Nat.pow_mul]
theorem pow_lt5 (k : Nat) (h : k ≤ 5) : 256 ^ k ≤ 1099511627776 := by
  have := Nat.pow_le_pow_right (n := 256) (by decide) h
  have e : 256 ^ 5 = 1099511627776 := by decide
  omega
theorem or_byte (z k b e : Nat) (hz : z ≤ 5) (hk : k < 5) (he : e < 256 ^ k) (hb : b < 256) :
    bits .or .u64 ((z : Int) * 1099511627776 + (e : Int)) (IntKind.u64.wrap (IntKind.u64.wrap (b : Int) * 2 ^ (8 * k))) = (z : Int) * 1099511627776 + ((e + b * 256 ^ k : Nat) : Int) := by
  have e1 : IntKind.u64.wrap (b : Int) = b := by rw [IntKind.wrap_u64]; omega
  have hp := pow_lt5 (k + 1) (by omega)
  rw [Nat.pow_succ] at hp
  have hbk : b * 256 ^ k ≤ 255 * 256 ^ k := Nat.mul_le_mul_right _ (by omega)
  have e2 : (b : Int) * 2 ^ (8 * k) = ((b * 256 ^ k : Nat) : Int) := by rw [← pow8]; simp
  have e3 : IntKind.u64.wrap ((b * 256 ^ k : Nat) : Int) = ((b * 256 ^ k : Nat) : Int) := by rw [IntKind.wrap_u64]; exact Int.emod_eq_of_lt (Int.natCast_nonneg _) (by omega)
  have e4 : (z : Int) * 1099511627776 + (e : Int) = ((z * 1099511627776 + e : Nat) : Int) := by omega
  rw [e1, e2, e3, e4, u64_or_nat _ _ (by omega) (by omega)]
  have j1 : z * 1099511627776 + e = z * 1099511627776 ||| e := (nat_join 40 _ _ (by omega) (by omega)).symm
  have j2 : e ||| b * 256 ^ k = b * 256 ^ k + e := by
    rw [Nat.or_comm, ← pow8]
    exact nat_join (8 * k) _ _ (Nat.mul_mod_left _ _) (by rw [pow8]; exact he)
  rw [j1, Nat.or_assoc, j2, nat_join 40 _ _ (by omega) (by omega)]
  omega
theorem enc_step (s : ByteArray) (k : Nat) (hs : s.size ≤ 5) (h : k < s.size) :
    bits .or .u64 ((s.size : Int) * 1099511627776 + (encN (s.data.toList.take k) : Int)) (IntKind.u64.wrap (IntKind.u64.wrap (s[k].toNat : Int) * 2 ^ (8 * k))) = (s.size : Int) * 1099511627776 + (encN (s.data.toList.take (k + 1)) : Int) := by
  have hl : (s.data.toList.take k).length = k := by
    have : k < s.data.toList.length := by simpa using h
    rw [List.length_take]; omega
  have he := encN_lt (s.data.toList.take k)
  rw [take_snoc s k h, encN_snoc]
  rw [hl] at he ⊢
  exact or_byte s.size k s[k].toNat _ hs (by omega) he s[k].toNat_lt
theorem enc_all (s : ByteArray) (k : Nat) (h : ¬ k < s.size) : s.data.toList.take k = s.data.toList := List.take_of_length_le (by simp; omega)
theorem enc_lt (s : ByteArray) (hs : s.size ≤ 5) : (s.size : Int) * 1099511627776 + (encN s.data.toList : Int) < 281474976710656 := by
  have he := encN_lt s.data.toList
  have hl : s.data.toList.length = s.size := by simp
  rw [hl] at he
  have := pow_lt5 s.size hs
  omega
set_option maxHeartbeats 400000 in
theorem fromText_c (s : ByteArray) (hs : s.size ≤ maxLen) (w : World) :
    Calls Tryz.prog 76 #[.string s] w fun e w' => e = .returned (.tuple #[.int .u64 (txtW s), .bool (decide (s.size ≤ 5))]) ∧ w' = w := by
  unfold maxLen at hs
  by_cases c : s.size ≤ 5
  · have H := hid (show txtW s = 18445055223849287680 + s.size * 1099511627776 + encN s.data.toList by simp [txtW, c])
    go_enter Tryz.func76, Tryz.ntmps76
    go_wp2
    go_loop [4, 15] (fun l i => ∃ k : Nat, k ≤ s.size ∧ i = .int .i64 k ∧ l = .int .u64 (s.size * 1099511627776 + encN (s.data.toList.take k))) (fun _ i => s.size - (intOf i).toNat)
    case atStart => exact ⟨0, Nat.zero_le _, rfl, int_eq (by simp [encN])⟩
    case round =>
      obtain ⟨k, hk, rfl, rfl⟩ := hrel
      by_cases hlt : k < s.size
      · go_wp2
        go_round
        case rel => exact ⟨k + 1, hlt, by go_num, int_eq (enc_step s k c hlt)⟩
        case measure => simp [intOf]; omega
      · have hb := enc_lt s c
        have he := enc_all s k hlt
        rw [he]
        clear he
        go_wp2_with (go_at_call 73; refine (join_c _ _ (by omega) (by omega) (by omega) (by omega) _).mono ?_; rintro e w' ⟨rfl, rfl⟩)
        go_ret2
        exact ⟨ret_ib (by rw [H.out]; omega) (by simpa using c), rfl⟩
  · have H := hid (show txtW s = 0 by simp [txtW, c])
    go_enter Tryz.func76, Tryz.ntmps76
    go_wp2
    go_ret2
    exact ⟨ret_ib H.out.symm (by simpa using c), rfl⟩
end Go.Proofs.YtndkfjoaiinjoaaGreat.W
/- What each class says of a pattern, as numbers. -/
namespace Go.Proofs.YtndkfjoaiinjoaaGreat.W

theorem cls_is5 (n : Int) (h : cls n = 5) : 18445055223849287680 ≤ n ∧ n < 18445336698825998336 ∧ txtOk (n % 281474976710656) = true := by
  unfold cls at h
  (repeat' split at h) <;> first | (exfalso; revert h; decide) | exact ⟨by omega, by omega, by assumption⟩
end Go.Proofs.YtndkfjoaiinjoaaGreat.W
/- Plain facts on what is put into a word and comes out of it: no Go in sight. -/
namespace Go.Proofs.YtndkfjoaiinjoaaGreat.W

theorem cls_mk2 (n : Int) (a : 18444773748872577024 ≤ n) (b : n < 18445055223849287680) : cls n = 2 := cls_t1 n (by omega) (by omega) (by omega)
theorem intW_bd (i : Int) (h : smallB i = true) : 18444773748872577024 ≤ intW i ∧ intW i < 18445055223849287680 := by
  simp only [intW, h, if_true]; omega
theorem intW_cls (i : Int) (h : smallB i = true) : cls (intW i) = 2 := by
  have := intW_bd i h
  exact cls_mk2 _ this.1 this.2
theorem toInt_intW (i : Int) (h : smallB i = true) : toInt (intW i) = i := by
  have hc := intW_cls i h
  simp only [toInt, hc, if_true]
  have hs := h
  simp only [smallB, decide_eq_true_eq] at hs
  simp only [intW, h, if_true]
  split <;> omega
theorem txtW_rest (s : ByteArray) (h : s.size ≤ 5) : txtW s % 281474976710656 / 1099511627776 = s.size ∧ txtW s % 1099511627776 = encN s.data.toList := by
  have he := encN_lt s.data.toList
  have hl : s.data.toList.length = s.size := by simp
  rw [hl] at he
  have := pow_lt5 s.size h
  simp only [txtW, if_pos h]
  omega
theorem txtW_cls (s : ByteArray) (h : s.size ≤ 5) : cls (txtW s) = 5 := by
  have he := encN_lt s.data.toList
  have hl : s.data.toList.length = s.size := by simp
  rw [hl] at he
  have hp := pow_lt5 s.size h
  obtain ⟨r1, r2⟩ := txtW_rest s h
  have hb : 18445055223849287680 ≤ txtW s ∧ txtW s < 18445336698825998336 := by
    have := enc_lt s h
    simp only [txtW, if_pos h]; omega
  rw [cls_t2 (txtW s) (by omega) (by omega) (by omega)]
  unfold textCls
  rw [if_pos]
  simp only [txtOk, decide_eq_true_eq]
  have e : txtW s % 281474976710656 % 1099511627776 = txtW s % 1099511627776 := by omega
  rw [r1, e, r2]
  refine ⟨by omega, ?_⟩
  have e8 : (8 * (s.size : Int)).toNat = 8 * s.size := by omega
  rw [e8]
  have e2 : (2 : Int) ^ (8 * s.size) = ((256 ^ s.size : Nat) : Int) := by rw [← pow8]; simp
  rw [e2]
  omega
theorem toTxt_txtW (s : ByteArray) (h : s.size ≤ 5) : toTxt (txtW s) = s := by
  obtain ⟨r1, r2⟩ := txtW_rest s h
  simp only [toTxt, txtW_cls s h, if_true]
  rw [r1, r2, Int.toNat_natCast, Int.toNat_natCast]
  have hl : s.data.toList.length = s.size := by simp
  rw [← hl, decN_encN]
end Go.Proofs.YtndkfjoaiinjoaaGreat.W
