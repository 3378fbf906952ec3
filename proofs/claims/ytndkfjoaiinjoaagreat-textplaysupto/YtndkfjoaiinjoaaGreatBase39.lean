import Derived.Test.YtndkfjoaiinjoaaGreatBase38
/- TextPlays: roots. -/
namespace Go.Proofs.YtndkfjoaiinjoaaGreat.W
open Go.ChangeShapes Go.WideShapes Go.RowKit Go.Shelf
set_option linter.unusedVariables false
set_option linter.unusedSimpArgs false
/-- those of the first j that are there still -/
def rsel (L : List Rc) (vs : List Tv) (N : Nat → Int) : Nat → List Nat
  | 0 => []
  | j + 1 => rsel L vs N j ++ (if aliveB L vs (N j) = true then [(N j).toNat] else [])
def wsel (ws : List Nat) (r : List Nat) : List Nat := r.map (fun i => (ws[i]?).getD 0)
def vsel (vs : List Tv) (r : List Nat) : List Tv := r.map (fun i => (vs[i]?).getD ⟨true, 0, ⟨#[]⟩, -1⟩)
theorem rsel_len (L : List Rc) (vs : List Tv) (N : Nat → Int) (j : Nat) : (rsel L vs N j).length ≤ j := by
  induction j with
  | zero => simp [rsel]
  | succ j ih => unfold rsel; rw [List.length_append]; split <;> simp <;> omega
theorem aliveB_get {L : List Rc} {vs : List Tv} {i : Int} (h : aliveB L vs i = true) : ∃ (n : Nat) (v : Tv), i = n ∧ vs[n]? = some v := by
  unfold aliveB at h
  cases hv : vs[i.toNat]? with
  | none => rw [hv] at h; cases h
  | some v =>
    rw [hv] at h
    simp only [Bool.and_eq_true, decide_eq_true_eq] at h
    exact ⟨i.toNat, v, by omega, hv⟩
/-- what roots reads -/
def Rr (pb gw gv m cw cv n : Nat) (a : Addr) (j : Nat) (x : Nat) (kd vi : Int) (vt : ByteArray) (vc : Int) (w : World) : Prop :=
  w.cell? ⟨pb, 2, none⟩ = some (.slice (some ⟨gw, 0, none⟩) m cw) ∧ w.cell? ⟨pb, 3, none⟩ = some (.slice (some ⟨gv, 0, none⟩) m cv) ∧ w.cell? (a.add j) = some (.int .i64 n) ∧ w.cell? ⟨gw, n, none⟩ = some (.int .u64 (x : Nat)) ∧ w.cell? ⟨gv, n * 5, none⟩ = some (.int .i64 kd) ∧ w.cell? ⟨gv, n * 5 + 1, none⟩ = some (.int .i64 vi) ∧ w.cell? ⟨gv, n * 5 + 2, none⟩ = some (.int .u64 0) ∧ w.cell? ⟨gv, n * 5 + 3, none⟩ = some (.string vt) ∧ w.cell? ⟨gv, n * 5 + 4, none⟩ = some (.int .i64 vc)
section
variable {W W' : World} {pb hb rb : Nat} {lv wv vv : Value} {room : Nat} {L : List Rc} {ws : List Nat} {vs : List Tv}
/-- two rows of one's own, behind B -/
def Two (B : Nat) (w : World) (a b : Value) (xs : List Nat) (ys : List Tv) : Prop :=
  w.ownsRow 0 26 1 a xs.length (xs.map (fun n => Value.int .u64 (n : Nat))) ∧ w.ownsRow 0 95 5 b ys.length (flatT ys) ∧ (∀ k, a.ownBlock = some k → B ≤ k) ∧ (∀ k, b.ownBlock = some k → B ≤ k) ∧ (∀ k, a.ownBlock = some k → b.ownBlock ≠ some k)
theorem Two.below {B : Nat} {w w' : World} {a b : Value} {xs : List Nat} {ys : List Tv} (h : Two B w a b xs ys) (hB : Below w.heap.size w w') : Two B w' a b xs ys :=
  ⟨owns_on h.1 (fun k e => hB.block k (h.1.lt k e).2), owns_on h.2.1 (fun k e => hB.block k (h.2.1.lt k e).2), h.2.2⟩
set_option maxRecDepth 100000 in
set_option maxHeartbeats 4000000 in
theorem roots_c (h : Tpl W pb hb rb lv wv vv room L ws vs) (o : Option Addr) (l c : Nat) (N : Nat → Int) (hI : ∀ i, i < l → ∃ a, o = some a ∧ W.cell? (a.add i) = some (.int .i64 (N i))) (hl : l ≤ 1100000) :
    Calls Tryz.prog 40 #[.pointer (some ⟨pb, 0, none⟩), .slice o l c] W fun e w' => ∃ v1 v2, e = .returned (.tuple #[v1, v2]) ∧ Below W.heap.size W w' ∧ Two W.heap.size w' v1 v2 (wsel ws (rsel L vs N l)) (vsel vs (rsel L vs N l)) := by
  have HH := hid h
  have HI := hid hI
  clear h hI
  go_enter Tryz.func40, Tryz.ntmps40
  go_wp2
  go_loopw [6, 7, 8] (fun a b ii wr => ∃ j : Nat, j ≤ l ∧ ii = .int .i64 j ∧ Below W.heap.size W wr ∧ Two W.heap.size wr a b (wsel ws (rsel L vs N j)) (vsel vs (rsel L vs N j))) (fun _ _ ii _ => l - (intOf ii).toNat)
  case atStart => exact ⟨0, Nat.zero_le _, rfl, Below.refl _ _, World.ownsRow_nil _ _ _ _, World.ownsRow_nil _ _ _ _, (fun k e => by cases e), (fun k e => by cases e), (fun k e => by cases e)⟩
  case round =>
    obtain ⟨j, hj, rfl, hB, h2⟩ := hrel
    by_cases hjl : j < l
    · obtain ⟨a, rfl, hca⟩ := HI.out j hjl
      have k0 : (0 : Int) ≤ j := Int.natCast_nonneg _
      have k1 : (j : Int) < l := by omega
      have wk : IntKind.i64.wrap ((j : Int) + 1) = (j : Int) + 1 := by rw [IntKind.wrap_i64]; omega
      have HM := hid (show l - ((j : Int) + 1).toNat < l - ((j : Int)).toNat by omega)
      have HJ := hid (show j + 1 ≤ l by omega)
      have ci := below_cell hB hca
      have ca := alive_c (HH.out.below hB) (N j)
      have hsl : (rsel L vs N j).length ≤ 1100000 := Nat.le_trans (rsel_len L vs N j) (by omega)
      cases hal : aliveB L vs (N j) with
      | false =>
        have e1 : rsel L vs N (j + 1) = rsel L vs N j := by
          conv => lhs; unfold rsel
          rw [hal]; simp
        rw [hal] at ca
        have H2 := hid h2
        have HB := hid hB
        clear h2 hB hca
        go_upto_region 5 with (go_at_call 19; (with_reducible refine ca.mono ?_); rintro e w3 ⟨rfl, hB3⟩; clear ca)
        clear ci
        go_wp2
        go_roundw
        case rel => exact ⟨j + 1, HJ.out, rfl, HB.out.trans (hB3.mono HB.out.size), by rw [e1]; exact H2.out.below hB3⟩
        case measure => exact HM.out
      | true =>
        obtain ⟨n, v, hNj, hv⟩ := aliveB_get hal
        have hnm := (List.getElem?_eq_some_iff.1 hv).1
        obtain ⟨x, hx⟩ : ∃ x, ws[n]? = some x := ⟨_, List.getElem?_eq_getElem (by rw [HH.out.len]; exact hnm)⟩
        have e1 : rsel L vs N (j + 1) = rsel L vs N j ++ [n] := by
          conv => lhs; unfold rsel
          rw [hal, hNj]; simp
        have ex : wsel ws (rsel L vs N (j + 1)) = wsel ws (rsel L vs N j) ++ [x] := by rw [e1]; unfold wsel; rw [List.map_append]; simp [hx]
        have ey : vsel vs (rsel L vs N (j + 1)) = vsel vs (rsel L vs N j) ++ [v] := by rw [e1]; unfold vsel; rw [List.map_append]; simp [hv]
        rw [hal, hNj] at ca
        rw [hNj] at ci
        obtain ⟨gw, gv, cw, cv, tr⟩ := HH.out.tr hv hx
        have lx : (wsel ws (rsel L vs N j)).length = (rsel L vs N j).length := by simp [wsel]
        have ly : (vsel vs (rsel L vs N j)).length = (rsel L vs N j).length := by simp [vsel]
        obtain ⟨p, hp⟩ : ∃ p, (rsel L vs N j).length = p := ⟨_, rfl⟩
        rw [hp] at lx ly hsl
        have H2 := hid h2
        have HB := hid hB
        have LL := hid (And.intro lx ly)
        have EE := hid (And.intro ex ey)
        have n0 : (0 : Int) ≤ n := Int.natCast_nonneg _
        have n1 : (n : Int) < vs.length := by omega
        obtain ⟨oa, cpa, hva⟩ := slice_of h2.1
        obtain ⟨ob, cpb, hvb⟩ := slice_of h2.2.1
        rw [lx] at hva
        rw [ly] at hvb
        subst hva
        subst hvb
        have FV := hid (show (flatT [v]).toArray = #[.int .i64 (kdW v.whole), .int .i64 v.i, .int .u64 0, .string v.t, .int .i64 v.cell] by rfl)
        have RR := hid (show ∀ w, Below W.heap.size W w → w.cell? (a.add j) = some (.int .i64 n) → Rr pb gw gv vs.length cw cv n a j x (kdW v.whole) v.i v.t v.cell w from fun w hw hc => by
          have t := tr.below hw
          exact ⟨t.p2, t.p3, hc, t.w0, t.v0, t.v1, t.v2, t.v3, t.v4⟩)
        have CA := hid (show ∀ w, Below W.heap.size W w → w.cell? (a.add j) = some (.int .i64 n) from fun w hw => by rw [← hNj]; exact below_cell hw hca)
        clear h2 hB hca tr lx ly ex ey e1 hv hx
        generalize kdW v.whole = kd at *
        generalize v.i = vi at *
        generalize v.t = vt at *
        generalize v.cell = vc at *
        go_upto_region 7 with (go_at_call 19; (with_reducible refine ca.mono ?_); rintro e w3 ⟨rfl, hB3⟩; clear ca)
        clear ci
        have hBW := HB.out.trans (hB3.mono HB.out.size)
        have TW := hid (H2.out.below hB3)
        have BW3 := hid hBW
        clear hB3 hBW
        have SS := hid (show ∀ w, Below W.heap.size W w → Rr pb gw gv vs.length cw cv n a j x kd vi vt vc w from fun w hw => RR.out w hw (CA.out w hw))
        clear RR CA
        have hS := SS.out w3.drew (BW3.out.drew)
        refine wp_region_noPanic ?_
        refine plain_anyM (z := []) (S := Rr pb gw gv vs.length cw cv n a j x kd vi vt vc) (T := fun _ => True) (by kernel_rfl) ?_
        (refine anyM_take (i := 0) (v := ?_) rfl (by kernel_rfl) (by kernel_rfl) (by kernel_rfl) (by kernel_rfl) (fun _ _ _ h => h) (Or.inl ⟨by rfl, ?_⟩) hS ?_); rotate_left; (focus (intro w' hSw; obtain ⟨p2, p3, hi, w0, v0, v1, v2, v3, v4⟩ := hSw; go_simp; (try with_reducible rfl))); (try simp only [Act.put, List.getElem_toArray, List.getElem_cons_zero, List.getElem_cons_succ, List.setIfInBounds_toArray, List.set_cons_zero, List.set_cons_succ])
        (refine anyM_take (i := 1) (v := ?_) rfl (by kernel_rfl) (by kernel_rfl) (by kernel_rfl) (by kernel_rfl) (fun _ _ _ h => h) (Or.inl ⟨by rfl, ?_⟩) hS ?_); rotate_left; (focus (intro w' hSw; obtain ⟨p2, p3, hi, w0, v0, v1, v2, v3, v4⟩ := hSw; go_simp; (try with_reducible rfl))); (try simp only [Act.put, List.getElem_toArray, List.getElem_cons_zero, List.getElem_cons_succ, List.setIfInBounds_toArray, List.set_cons_zero, List.set_cons_succ])
        (refine anyM_take (i := 2) (v := ?_) rfl (by kernel_rfl) (by kernel_rfl) (by kernel_rfl) (by kernel_rfl) (fun _ _ _ h => h) (Or.inl ⟨by rfl, ?_⟩) hS ?_); rotate_left; (focus (intro w' hSw; obtain ⟨p2, p3, hi, w0, v0, v1, v2, v3, v4⟩ := hSw; go_simp; (try with_reducible rfl))); (try simp only [Act.put, List.getElem_toArray, List.getElem_cons_zero, List.getElem_cons_succ, List.setIfInBounds_toArray, List.set_cons_zero, List.set_cons_succ])
        (refine anyM_take (i := 3) (v := ?_) rfl (by kernel_rfl) (by kernel_rfl) (by kernel_rfl) (by kernel_rfl) (fun _ _ _ h => h) (Or.inl ⟨by rfl, ?_⟩) hS ?_); rotate_left; (focus (intro w' hSw; obtain ⟨p2, p3, hi, w0, v0, v1, v2, v3, v4⟩ := hSw; go_simp; (try with_reducible rfl))); (try simp only [Act.put, List.getElem_toArray, List.getElem_cons_zero, List.getElem_cons_succ, List.setIfInBounds_toArray, List.set_cons_zero, List.set_cons_succ])
        (refine anyM_take (i := 4) (v := ?_) rfl (by kernel_rfl) (by kernel_rfl) (by kernel_rfl) (by kernel_rfl) (fun _ _ _ h => h) (Or.inl ⟨by rfl, ?_⟩) hS ?_); rotate_left; (focus (intro w' hSw; obtain ⟨p2, p3, hi, w0, v0, v1, v2, v3, v4⟩ := hSw; go_simp; (try with_reducible rfl))); (try simp only [Act.put, List.getElem_toArray, List.getElem_cons_zero, List.getElem_cons_succ, List.setIfInBounds_toArray, List.set_cons_zero, List.set_cons_succ])
        (refine anyM_take (i := 5) (v := ?_) rfl (by kernel_rfl) (by kernel_rfl) (by kernel_rfl) (by kernel_rfl) (fun _ _ _ h => h) (Or.inl ⟨by rfl, ?_⟩) hS ?_); rotate_left; (focus (intro w' hSw; obtain ⟨p2, p3, hi, w0, v0, v1, v2, v3, v4⟩ := hSw; go_simp; (try with_reducible rfl))); (try simp only [Act.put, List.getElem_toArray, List.getElem_cons_zero, List.getElem_cons_succ, List.setIfInBounds_toArray, List.set_cons_zero, List.set_cons_succ])
        (refine anyM_take (i := 6) (v := ?_) rfl (by kernel_rfl) (by kernel_rfl) (by kernel_rfl) (by kernel_rfl) (fun _ _ _ h => h) (Or.inl ⟨by rfl, ?_⟩) hS ?_); rotate_left; (focus (intro w' hSw; obtain ⟨p2, p3, hi, w0, v0, v1, v2, v3, v4⟩ := hSw; go_simp; (try with_reducible rfl))); (try simp only [Act.put, List.getElem_toArray, List.getElem_cons_zero, List.getElem_cons_succ, List.setIfInBounds_toArray, List.set_cons_zero, List.set_cons_succ])
        (refine anyM_take (i := 7) (v := ?_) rfl (by kernel_rfl) (by kernel_rfl) (by kernel_rfl) (by kernel_rfl) (fun _ _ _ h => h) (Or.inl ⟨by rfl, ?_⟩) hS ?_); rotate_left; (focus (intro w' hSw; obtain ⟨p2, p3, hi, w0, v0, v1, v2, v3, v4⟩ := hSw; go_simp; (try with_reducible rfl))); (try simp only [Act.put, List.getElem_toArray, List.getElem_cons_zero, List.getElem_cons_succ, List.setIfInBounds_toArray, List.set_cons_zero, List.set_cons_succ])
        (refine anyM_take (i := 8) (v := ?_) rfl (by kernel_rfl) (by kernel_rfl) (by kernel_rfl) (by kernel_rfl) (fun _ _ _ h => h) (Or.inl ⟨by rfl, ?_⟩) hS ?_); rotate_left; (focus (intro w' hSw; obtain ⟨p2, p3, hi, w0, v0, v1, v2, v3, v4⟩ := hSw; go_simp; (try with_reducible rfl))); (try simp only [Act.put, List.getElem_toArray, List.getElem_cons_zero, List.getElem_cons_succ, List.setIfInBounds_toArray, List.set_cons_zero, List.set_cons_succ])
        (refine anyM_take (i := 9) (v := ?_) rfl (by kernel_rfl) (by kernel_rfl) (by kernel_rfl) (by kernel_rfl) (fun _ _ _ h => h) (Or.inl ⟨by rfl, ?_⟩) hS ?_); rotate_left; (focus (intro w' hSw; obtain ⟨p2, p3, hi, w0, v0, v1, v2, v3, v4⟩ := hSw; go_simp; (try with_reducible rfl))); (try simp only [Act.put, List.getElem_toArray, List.getElem_cons_zero, List.getElem_cons_succ, List.setIfInBounds_toArray, List.set_cons_zero, List.set_cons_succ])
        (refine anyM_take (i := 10) (v := ?_) rfl (by kernel_rfl) (by kernel_rfl) (by kernel_rfl) (by kernel_rfl) (fun _ _ _ h => h) (Or.inl ⟨by rfl, ?_⟩) hS ?_); rotate_left; (focus (intro w' hSw; obtain ⟨p2, p3, hi, w0, v0, v1, v2, v3, v4⟩ := hSw; go_simp; (try with_reducible rfl))); (try simp only [Act.put, List.getElem_toArray, List.getElem_cons_zero, List.getElem_cons_succ, List.setIfInBounds_toArray, List.set_cons_zero, List.set_cons_succ])
        (refine anyM_take (i := 13) (v := ?_) rfl (by kernel_rfl) (by kernel_rfl) (by kernel_rfl) (by kernel_rfl) (fun _ _ _ h => h) (Or.inl ⟨by rfl, ?_⟩) hS ?_); rotate_left; (focus (intro w' hSw; obtain ⟨p2, p3, hi, w0, v0, v1, v2, v3, v4⟩ := hSw; go_simp; (try with_reducible rfl))); (try simp only [Act.put, List.getElem_toArray, List.getElem_cons_zero, List.getElem_cons_succ, List.setIfInBounds_toArray, List.set_cons_zero, List.set_cons_succ])
        (refine anyM_take (i := 14) (v := ?_) rfl (by kernel_rfl) (by kernel_rfl) (by kernel_rfl) (by kernel_rfl) (fun _ _ _ h => h) (Or.inl ⟨by rfl, ?_⟩) hS ?_); rotate_left; (focus (intro w' hSw; obtain ⟨p2, p3, hi, w0, v0, v1, v2, v3, v4⟩ := hSw; go_simp; (try with_reducible rfl))); (try simp only [Act.put, List.getElem_toArray, List.getElem_cons_zero, List.getElem_cons_succ, List.setIfInBounds_toArray, List.set_cons_zero, List.set_cons_succ])
        (refine anyM_take (i := 15) (v := ?_) rfl (by kernel_rfl) (by kernel_rfl) (by kernel_rfl) (by kernel_rfl) (fun _ _ _ h => h) (Or.inl ⟨by rfl, ?_⟩) hS ?_); rotate_left; (focus (intro w' hSw; obtain ⟨p2, p3, hi, w0, v0, v1, v2, v3, v4⟩ := hSw; go_simp; (try with_reducible rfl))); (try simp only [Act.put, List.getElem_toArray, List.getElem_cons_zero, List.getElem_cons_succ, List.setIfInBounds_toArray, List.set_cons_zero, List.set_cons_succ])
        (refine anyM_take (i := 16) (v := ?_) rfl (by kernel_rfl) (by kernel_rfl) (by kernel_rfl) (by kernel_rfl) (fun _ _ _ h => h) (Or.inl ⟨by rfl, ?_⟩) hS ?_); rotate_left; (focus (intro w' hSw; obtain ⟨p2, p3, hi, w0, v0, v1, v2, v3, v4⟩ := hSw; go_simp; (try with_reducible rfl))); (try simp only [Act.put, List.getElem_toArray, List.getElem_cons_zero, List.getElem_cons_succ, List.setIfInBounds_toArray, List.set_cons_zero, List.set_cons_succ])
        (refine anyM_take (i := 17) (v := ?_) rfl (by kernel_rfl) (by kernel_rfl) (by kernel_rfl) (by kernel_rfl) (fun _ _ _ h => h) (Or.inl ⟨by rfl, ?_⟩) hS ?_); rotate_left; (focus (intro w' hSw; obtain ⟨p2, p3, hi, w0, v0, v1, v2, v3, v4⟩ := hSw; go_simp; (try with_reducible rfl))); (try simp only [Act.put, List.getElem_toArray, List.getElem_cons_zero, List.getElem_cons_succ, List.setIfInBounds_toArray, List.set_cons_zero, List.set_cons_succ])
        (refine anyM_take (i := 18) (v := ?_) rfl (by kernel_rfl) (by kernel_rfl) (by kernel_rfl) (by kernel_rfl) (fun _ _ _ h => h) (Or.inl ⟨by rfl, ?_⟩) hS ?_); rotate_left; (focus (intro w' hSw; obtain ⟨p2, p3, hi, w0, v0, v1, v2, v3, v4⟩ := hSw; go_simp; (try with_reducible rfl))); (try simp only [Act.put, List.getElem_toArray, List.getElem_cons_zero, List.getElem_cons_succ, List.setIfInBounds_toArray, List.set_cons_zero, List.set_cons_succ])
        (refine anyM_take (i := 19) (v := ?_) rfl (by kernel_rfl) (by kernel_rfl) (by kernel_rfl) (by kernel_rfl) (fun _ _ _ h => h) (Or.inl ⟨by rfl, ?_⟩) hS ?_); rotate_left; (focus (intro w' hSw; obtain ⟨p2, p3, hi, w0, v0, v1, v2, v3, v4⟩ := hSw; go_simp; (try with_reducible rfl))); (try simp only [Act.put, List.getElem_toArray, List.getElem_cons_zero, List.getElem_cons_succ, List.setIfInBounds_toArray, List.set_cons_zero, List.set_cons_succ])
        (refine anyM_take (i := 20) (v := ?_) rfl (by kernel_rfl) (by kernel_rfl) (by kernel_rfl) (by kernel_rfl) (fun _ _ _ h => h) (Or.inl ⟨by rfl, ?_⟩) hS ?_); rotate_left; (focus (intro w' hSw; obtain ⟨p2, p3, hi, w0, v0, v1, v2, v3, v4⟩ := hSw; go_simp; (try with_reducible rfl))); (try simp only [Act.put, List.getElem_toArray, List.getElem_cons_zero, List.getElem_cons_succ, List.setIfInBounds_toArray, List.set_cons_zero, List.set_cons_succ])
        (refine anyM_take (i := 21) (v := ?_) rfl (by kernel_rfl) (by kernel_rfl) (by kernel_rfl) (by kernel_rfl) (fun _ _ _ h => h) (Or.inl ⟨by rfl, ?_⟩) hS ?_); rotate_left; (focus (intro w' hSw; obtain ⟨p2, p3, hi, w0, v0, v1, v2, v3, v4⟩ := hSw; go_simp; (try with_reducible rfl))); (try simp only [Act.put, List.getElem_toArray, List.getElem_cons_zero, List.getElem_cons_succ, List.setIfInBounds_toArray, List.set_cons_zero, List.set_cons_succ])
        (refine anyM_take (i := 22) (v := ?_) rfl (by kernel_rfl) (by kernel_rfl) (by kernel_rfl) (by kernel_rfl) (fun _ _ _ h => h) (Or.inl ⟨by rfl, ?_⟩) hS ?_); rotate_left; (focus (intro w' hSw; obtain ⟨p2, p3, hi, w0, v0, v1, v2, v3, v4⟩ := hSw; go_simp; (try with_reducible rfl))); (try simp only [Act.put, List.getElem_toArray, List.getElem_cons_zero, List.getElem_cons_succ, List.setIfInBounds_toArray, List.set_cons_zero, List.set_cons_succ])
        (refine anyM_take (i := 23) (v := ?_) rfl (by kernel_rfl) (by kernel_rfl) (by kernel_rfl) (by kernel_rfl) (fun _ _ _ h => h) (Or.inl ⟨by rfl, ?_⟩) hS ?_); rotate_left; (focus (intro w' hSw; obtain ⟨p2, p3, hi, w0, v0, v1, v2, v3, v4⟩ := hSw; go_simp; (try with_reducible rfl))); (try simp only [Act.put, List.getElem_toArray, List.getElem_cons_zero, List.getElem_cons_succ, List.setIfInBounds_toArray, List.set_cons_zero, List.set_cons_succ])
        clear hS
        refine anyM_cut (fun a0 a' w' => ∃ s32 o1 c1 s45 o2 c2, a' = (((a0.put (some 32) s32).put (some 33) (.slice o1 (p + 1) c1)).put (some 45) s45).put (some 46) (.slice o2 (p + 1) c2) ∧ Below W.heap.size W w' ∧ Two W.heap.size w' (.slice o1 (p + 1) c1) (.slice o2 (p + 1) c2) ((wsel ws (rsel L vs N j)) ++ [x]) ((vsel vs (rsel L vs N j)) ++ [v])) 2 #[true, true, true, true, true, true, true, true, true, true, true, true, true, true, true, true, true, true, true, true, true, true, true, true, true, true, false, false] ?tail (fun TAIL => ?main)
        case tail =>
          rintro a' w4 ⟨s32, o1, c1, s45, o2, c2, rfl, hB4, hT4⟩
          (try simp only [Act.put, List.getElem_toArray, List.getElem_cons_zero, List.getElem_cons_succ, List.setIfInBounds_toArray, List.set_cons_zero, List.set_cons_succ])
          refine anyM_one (i := 26) (by kernel_rfl) rfl rfl (fun K hK => ?_)
          go_simp
          refine hK _ _ ⟨.inr id, id⟩ ?_
          clear hK K
          (try simp only [Act.put, List.getElem_toArray, List.getElem_cons_zero, List.getElem_cons_succ, List.setIfInBounds_toArray, List.set_cons_zero, List.set_cons_succ])
          refine anyM_one (i := 27) (by kernel_rfl) rfl rfl (fun K hK => ?_)
          go_simp
          refine hK _ _ ⟨.inr id, id⟩ ?_
          clear hK K
          (try simp only [Act.put, List.getElem_toArray, List.getElem_cons_zero, List.getElem_cons_succ, List.setIfInBounds_toArray, List.set_cons_zero, List.set_cons_succ])
          refine anyM_done (by kernel_rfl) ?_ _
          refine NoPanic.normal ?_
          have FIN := hid (And.intro hB4 hT4)
          clear hB4 hT4
          go_wp2
          go_roundw
          case rel => exact ⟨j + 1, HJ.out, rfl, FIN.out.1, by rw [EE.out.1, EE.out.2]; exact FIN.out.2⟩
          case measure => exact HM.out
        case main =>
          refine anyM_two (i := 11) (j := 24) (by kernel_rfl) rfl rfl rfl rfl (fun K hK => ?_) (fun K hK => ?_)
          · go_simp
            have hBa : Below w3.heap.size w3 (w3.alloc (.cells #[.int .u64 (x : Nat)] 26)).drew := ((Below.refl _ w3).alloc (Nat.le_refl _) _).drew
            have ga : (w3.alloc (.cells #[.int .u64 (x : Nat)] 26)).drew.heap[w3.heap.size]? = some (.cells #[.int .u64 (x : Nat)] 26) := World.alloc_heap_new w3 (.cells #[.int .u64 (x : Nat)] 26)
            have za : (w3.alloc (.cells #[.int .u64 (x : Nat)] 26)).drew.heap.size = w3.heap.size + 1 := World.size_alloc w3 _
            have hWa : Below W.heap.size W (w3.alloc (.cells #[.int .u64 (x : Nat)] 26)).drew := BW3.out.trans (hBa.mono BW3.out.size)
            refine hK _ _ ⟨.inr (fun _ => SS.out _ hWa), fun _ => trivial⟩ ?_
            clear hK K
            (try simp only [Act.put, List.getElem_toArray, List.getElem_cons_zero, List.getElem_cons_succ, List.setIfInBounds_toArray, List.set_cons_zero, List.set_cons_succ])
            generalize (w3.alloc (.cells #[.int .u64 (x : Nat)] 26)).drew = wa at *
            have ZA := hid za
            clear za
            refine anyM_two (i := 12) (j := 24) (by kernel_rfl) rfl rfl rfl rfl (fun K hK => ?_) (fun K hK => ?_)
            · have hza := hBa.size
              have hzW := BW3.out.size
              obtain ⟨v1, wb, hrun, ho1, hg1, hk1⟩ := app_word wa 29 _ (wsel ws (rsel L vs N j)) (owns_on TW.out.1 (fun k e => hBa.block k (TW.out.1.lt k e).2)) w3.heap.size x ga (by rw [LL.out.1]; omega)
              obtain ⟨o1, c1, hv1⟩ := slice_of ho1
              rw [show ((wsel ws (rsel L vs N j)) ++ [x]).length = p + 1 by rw [List.length_append, LL.out.1]; rfl] at hv1
              subst hv1
              have hWb : Below W.heap.size W wb := hWa.grown hg1 hWa.size (fun k e => TW.out.2.2.1 k e)
              have ovb := owns_on TW.out.2.1 (W' := wb) (fun k e => (hg1.block k (by have := (TW.out.2.1.lt k e).2; omega) (fun e2 => TW.out.2.2.2.2 k e2.symm e)).trans (hBa.block k (TW.out.2.1.lt k e).2))
              refine opIn_plain (fun c h => by cases h) ?_
              refine Lib.wp_append_run _ (.tmp 21) (.tmp 32) 29 29 rfl _ _ rfl rfl _ _ hrun ?_
              refine hK _ _ ⟨.inr (fun _ => SS.out _ hWb), fun _ => trivial⟩ ?_
              clear hK K hrun
              (try simp only [Act.put, List.getElem_toArray, List.getElem_cons_zero, List.getElem_cons_succ, List.setIfInBounds_toArray, List.set_cons_zero, List.set_cons_succ])
              refine anyM_one (i := 24) (by kernel_rfl) rfl rfl (fun K hK => ?_)
              go_simp
              have hBc : Below wb.heap.size wb (wb.alloc (.cells #[.int .i64 kd, .int .i64 vi, .int .u64 0, .string vt, .int .i64 vc] 95)) := (Below.refl _ wb).alloc (Nat.le_refl _) _
              have hWc : Below W.heap.size W (wb.alloc (.cells #[.int .i64 kd, .int .i64 vi, .int .u64 0, .string vt, .int .i64 vc] 95)) := hWb.trans (hBc.mono hWb.size)
              have gd : (wb.alloc (.cells #[.int .i64 kd, .int .i64 vi, .int .u64 0, .string vt, .int .i64 vc] 95)).heap[wb.heap.size]? = some (.cells #[.int .i64 kd, .int .i64 vi, .int .u64 0, .string vt, .int .i64 vc] 95) := World.alloc_heap_new wb _
              have zc : (wb.alloc (.cells #[.int .i64 kd, .int .i64 vi, .int .u64 0, .string vt, .int .i64 vc] 95)).heap.size = wb.heap.size + 1 := World.size_alloc wb _
              refine hK _ _ ⟨.inr (fun _ => SS.out _ hWc), fun _ => trivial⟩ ?_
              clear hK K
              (try simp only [Act.put, List.getElem_toArray, List.getElem_cons_zero, List.getElem_cons_succ, List.setIfInBounds_toArray, List.set_cons_zero, List.set_cons_succ])
              generalize wb.alloc (.cells #[.int .i64 kd, .int .i64 vi, .int .u64 0, .string vt, .int .i64 vc] 95) = wc at *
              have ovc := owns_on ovb (W' := wc) (fun k e => hBc.block k (ovb.lt k e).2)
              have ho1c := owns_on ho1 (W' := wc) (fun k e => hBc.block k (ho1.lt k e).2)
              rw [← FV.out] at gd
              have hzb := hg1.size
              obtain ⟨v2, we, hrun2, ho2, hg2, hk2⟩ := app_vals wc 57 _ (vsel vs (rsel L vs N j)) ovc _ [v] (lit_own wc wb.heap.size [v] (by simp) gd) (by rw [LL.out.2]; simp; omega)
              obtain ⟨o2, c2, hv2⟩ := slice_of ho2
              rw [show ((vsel vs (rsel L vs N j)) ++ [v]).length = p + 1 by rw [List.length_append, LL.out.2]; rfl] at hv2
              subst hv2
              have hWe : Below W.heap.size W we := hWc.grown hg2 hWc.size (fun k e => TW.out.2.2.2.1 k e)
              have nk : ∀ k, (Value.slice o1 (p + 1) c1).ownBlock = some k → (Value.slice ob p cpb).ownBlock ≠ some k := fun k e e2 => by
                rcases hk1 k e with e | e
                · exact TW.out.2.2.2.2 k e e2
                · have := (TW.out.2.1.lt k e2).2
                  omega
              have ow1 := owns_on ho1c (W' := we) (fun k e => hg2.block k (ho1c.lt k e).2 (fun e2 => nk k e e2.symm))
              have kk1 : ∀ k, (Value.slice o1 (p + 1) c1).ownBlock = some k → W.heap.size ≤ k := fun k e => by
                rcases hk1 k e with e | e
                · exact TW.out.2.2.1 k e
                · omega
              have kk2 : ∀ k, (Value.slice o2 (p + 1) c2).ownBlock = some k → W.heap.size ≤ k := fun k e => by
                rcases hk2 k e with e | e
                · exact TW.out.2.2.2.1 k e
                · omega
              have kk3 : ∀ k, (Value.slice o1 (p + 1) c1).ownBlock = some k → (Value.slice o2 (p + 1) c2).ownBlock ≠ some k := fun k e e2 => by
                rcases hk2 k e2 with e3 | e3
                · exact nk k e e3
                · have := (ho1.lt k e).2
                  omega
              refine anyM_one (i := 25) (by kernel_rfl) rfl rfl (fun K hK => ?_)
              refine opIn_plain (fun c h => by cases h) ?_
              refine Lib.wp_append_run _ (.tmp 34) (.tmp 45) 57 57 rfl _ _ rfl rfl _ _ hrun2 ?_
              refine hK _ _ ⟨.inr (fun _ => SS.out _ hWe), fun _ => trivial⟩ ?_
              clear hK K hrun2
              (try simp only [Act.put, List.getElem_toArray, List.getElem_cons_zero, List.getElem_cons_succ, List.setIfInBounds_toArray, List.set_cons_zero, List.set_cons_succ])
              refine anyM_same (by kernel_rfl) ?_ (TAIL _ _ ⟨.slice (some ⟨w3.heap.size, 0, none⟩) 1 1, o1, c1, .slice (some ⟨wb.heap.size, 0, none⟩) 1 1, o2, c2, rfl, hWe, ow1, ho2, kk1, kk2, kk3⟩)
              (try simp only [Act.put, List.getElem_toArray, List.getElem_cons_zero, List.getElem_cons_succ, List.setIfInBounds_toArray, List.set_cons_zero, List.set_cons_succ])
            · go_simp
              have za := ZA.out
              have hBc0 : Below wa.heap.size wa (wa.alloc (.cells #[.int .i64 kd, .int .i64 vi, .int .u64 0, .string vt, .int .i64 vc] 95)) := (Below.refl _ wa).alloc (Nat.le_refl _) _
              have hBc : Below w3.heap.size w3 (wa.alloc (.cells #[.int .i64 kd, .int .i64 vi, .int .u64 0, .string vt, .int .i64 vc] 95)) := hBa.trans (hBc0.mono hBa.size)
              have hWc : Below W.heap.size W (wa.alloc (.cells #[.int .i64 kd, .int .i64 vi, .int .u64 0, .string vt, .int .i64 vc] 95)) := BW3.out.trans (hBc.mono BW3.out.size)
              have G14 : (wa.alloc (.cells #[.int .i64 kd, .int .i64 vi, .int .u64 0, .string vt, .int .i64 vc] 95)).heap[wa.heap.size]? = some (.cells #[.int .i64 kd, .int .i64 vi, .int .u64 0, .string vt, .int .i64 vc] 95) := World.alloc_heap_new wa _
              have G7 : (wa.alloc (.cells #[.int .i64 kd, .int .i64 vi, .int .u64 0, .string vt, .int .i64 vc] 95)).heap[w3.heap.size]? = some (.cells #[.int .u64 (x : Nat)] 26) := (hBc0.block _ (by omega)).trans ga
              refine hK _ _ ⟨.inr (fun _ => SS.out _ hWc), fun _ => trivial⟩ ?_
              clear hK K
              (try simp only [Act.put, List.getElem_toArray, List.getElem_cons_zero, List.getElem_cons_succ, List.setIfInBounds_toArray, List.set_cons_zero, List.set_cons_succ])
              generalize wa.alloc (.cells #[.int .i64 kd, .int .i64 vi, .int .u64 0, .string vt, .int .i64 vc] 95) = wc at *
              have hzc := hBc.size
              have hzW := BW3.out.size
              obtain ⟨v1, wd, hrun, ho1, hg1, hk1⟩ := app_word wc 29 _ (wsel ws (rsel L vs N j)) (owns_on TW.out.1 (fun k e => hBc.block k (TW.out.1.lt k e).2)) w3.heap.size x G7 (by rw [LL.out.1]; omega)
              obtain ⟨o1, c1, hv1⟩ := slice_of ho1
              rw [show ((wsel ws (rsel L vs N j)) ++ [x]).length = p + 1 by rw [List.length_append, LL.out.1]; rfl] at hv1
              subst hv1
              have hWd : Below W.heap.size W wd := hWc.grown hg1 hWc.size (fun k e => TW.out.2.2.1 k e)
              have gd : wd.heap[wa.heap.size]? = some (.cells #[.int .i64 kd, .int .i64 vi, .int .u64 0, .string vt, .int .i64 vc] 95 (0, 0)) := (hg1.block _ (Array.getElem?_eq_some_iff.1 G14).1 (fun e => by have := (TW.out.1.lt _ e.symm).2; omega)).trans G14
              have ovd := owns_on TW.out.2.1 (W' := wd) (fun k e => (hg1.block k (by have := (TW.out.2.1.lt k e).2; omega) (fun e2 => TW.out.2.2.2.2 k e2.symm e)).trans (hBc.block k (TW.out.2.1.lt k e).2))
              refine anyM_one (i := 12) (by kernel_rfl) rfl rfl (fun K hK => ?_)
              refine opIn_plain (fun c h => by cases h) ?_
              refine Lib.wp_append_run _ (.tmp 21) (.tmp 32) 29 29 rfl _ _ rfl rfl _ _ hrun ?_
              refine hK _ _ ⟨.inr (fun _ => SS.out _ hWd), fun _ => trivial⟩ ?_
              clear hK K hrun
              (try simp only [Act.put, List.getElem_toArray, List.getElem_cons_zero, List.getElem_cons_succ, List.setIfInBounds_toArray, List.set_cons_zero, List.set_cons_succ])
              rw [← FV.out] at gd
              have hzd := hg1.size
              obtain ⟨v2, we, hrun2, ho2, hg2, hk2⟩ := app_vals wd 57 _ (vsel vs (rsel L vs N j)) ovd _ [v] (lit_own wd wa.heap.size [v] (by simp) gd) (by rw [LL.out.2]; simp; omega)
              obtain ⟨o2, c2, hv2⟩ := slice_of ho2
              rw [show ((vsel vs (rsel L vs N j)) ++ [v]).length = p + 1 by rw [List.length_append, LL.out.2]; rfl] at hv2
              subst hv2
              have hWe : Below W.heap.size W we := hWd.grown hg2 hWd.size (fun k e => TW.out.2.2.2.1 k e)
              have nk : ∀ k, (Value.slice o1 (p + 1) c1).ownBlock = some k → (Value.slice ob p cpb).ownBlock ≠ some k := fun k e e2 => by
                rcases hk1 k e with e | e
                · exact TW.out.2.2.2.2 k e e2
                · have := (TW.out.2.1.lt k e2).2
                  omega
              have ow1 := owns_on ho1 (W' := we) (fun k e => hg2.block k (ho1.lt k e).2 (fun e2 => nk k e e2.symm))
              have kk1 : ∀ k, (Value.slice o1 (p + 1) c1).ownBlock = some k → W.heap.size ≤ k := fun k e => by
                rcases hk1 k e with e | e
                · exact TW.out.2.2.1 k e
                · omega
              have kk2 : ∀ k, (Value.slice o2 (p + 1) c2).ownBlock = some k → W.heap.size ≤ k := fun k e => by
                rcases hk2 k e with e | e
                · exact TW.out.2.2.2.1 k e
                · omega
              have kk3 : ∀ k, (Value.slice o1 (p + 1) c1).ownBlock = some k → (Value.slice o2 (p + 1) c2).ownBlock ≠ some k := fun k e e2 => by
                rcases hk2 k e2 with e3 | e3
                · exact nk k e e3
                · have := (ho1.lt k e).2
                  omega
              refine anyM_one (i := 25) (by kernel_rfl) rfl rfl (fun K hK => ?_)
              refine opIn_plain (fun c h => by cases h) ?_
              refine Lib.wp_append_run _ (.tmp 34) (.tmp 45) 57 57 rfl _ _ rfl rfl _ _ hrun2 ?_
              refine hK _ _ ⟨.inr (fun _ => SS.out _ hWe), fun _ => trivial⟩ ?_
              clear hK K hrun2
              (try simp only [Act.put, List.getElem_toArray, List.getElem_cons_zero, List.getElem_cons_succ, List.setIfInBounds_toArray, List.set_cons_zero, List.set_cons_succ])
              refine anyM_same (by kernel_rfl) ?_ (TAIL _ _ ⟨.slice (some ⟨w3.heap.size, 0, none⟩) 1 1, o1, c1, .slice (some ⟨wa.heap.size, 0, none⟩) 1 1, o2, c2, rfl, hWe, ow1, ho2, kk1, kk2, kk3⟩)
              (try simp only [Act.put, List.getElem_toArray, List.getElem_cons_zero, List.getElem_cons_succ, List.setIfInBounds_toArray, List.set_cons_zero, List.set_cons_succ])
          · go_simp
            have hBa : Below w3.heap.size w3 (w3.alloc (.cells #[.int .i64 kd, .int .i64 vi, .int .u64 0, .string vt, .int .i64 vc] 95)).drew := ((Below.refl _ w3).alloc (Nat.le_refl _) _).drew
            have ga : (w3.alloc (.cells #[.int .i64 kd, .int .i64 vi, .int .u64 0, .string vt, .int .i64 vc] 95)).drew.heap[w3.heap.size]? = some (.cells #[.int .i64 kd, .int .i64 vi, .int .u64 0, .string vt, .int .i64 vc] 95) := World.alloc_heap_new w3 (.cells #[.int .i64 kd, .int .i64 vi, .int .u64 0, .string vt, .int .i64 vc] 95)
            have za : (w3.alloc (.cells #[.int .i64 kd, .int .i64 vi, .int .u64 0, .string vt, .int .i64 vc] 95)).drew.heap.size = w3.heap.size + 1 := World.size_alloc w3 _
            have hWa : Below W.heap.size W (w3.alloc (.cells #[.int .i64 kd, .int .i64 vi, .int .u64 0, .string vt, .int .i64 vc] 95)).drew := BW3.out.trans (hBa.mono BW3.out.size)
            refine hK _ _ ⟨.inr (fun _ => SS.out _ hWa), fun _ => trivial⟩ ?_
            clear hK K
            (try simp only [Act.put, List.getElem_toArray, List.getElem_cons_zero, List.getElem_cons_succ, List.setIfInBounds_toArray, List.set_cons_zero, List.set_cons_succ])
            generalize (w3.alloc (.cells #[.int .i64 kd, .int .i64 vi, .int .u64 0, .string vt, .int .i64 vc] 95)).drew = wa at *
            have ZA := hid za
            clear za
            refine anyM_one (i := 11) (by kernel_rfl) rfl rfl (fun K hK => ?_)
            go_simp
            have za := ZA.out
            have hBc0 : Below wa.heap.size wa (wa.alloc (.cells #[.int .u64 (x : Nat)] 26)) := (Below.refl _ wa).alloc (Nat.le_refl _) _
            have hBc : Below w3.heap.size w3 (wa.alloc (.cells #[.int .u64 (x : Nat)] 26)) := hBa.trans (hBc0.mono hBa.size)
            have hWc : Below W.heap.size W (wa.alloc (.cells #[.int .u64 (x : Nat)] 26)) := BW3.out.trans (hBc.mono BW3.out.size)
            have G7 : (wa.alloc (.cells #[.int .u64 (x : Nat)] 26)).heap[wa.heap.size]? = some (.cells #[.int .u64 (x : Nat)] 26) := World.alloc_heap_new wa _
            have G14 : (wa.alloc (.cells #[.int .u64 (x : Nat)] 26)).heap[w3.heap.size]? = some (.cells #[.int .i64 kd, .int .i64 vi, .int .u64 0, .string vt, .int .i64 vc] 95) := (hBc0.block _ (by omega)).trans ga
            refine hK _ _ ⟨.inr (fun _ => SS.out _ hWc), fun _ => trivial⟩ ?_
            clear hK K
            (try simp only [Act.put, List.getElem_toArray, List.getElem_cons_zero, List.getElem_cons_succ, List.setIfInBounds_toArray, List.set_cons_zero, List.set_cons_succ])
            generalize wa.alloc (.cells #[.int .u64 (x : Nat)] 26) = wc at *
            have hzc := hBc.size
            have hzW := BW3.out.size
            obtain ⟨v1, wd, hrun, ho1, hg1, hk1⟩ := app_word wc 29 _ (wsel ws (rsel L vs N j)) (owns_on TW.out.1 (fun k e => hBc.block k (TW.out.1.lt k e).2)) wa.heap.size x G7 (by rw [LL.out.1]; omega)
            obtain ⟨o1, c1, hv1⟩ := slice_of ho1
            rw [show ((wsel ws (rsel L vs N j)) ++ [x]).length = p + 1 by rw [List.length_append, LL.out.1]; rfl] at hv1
            subst hv1
            have hWd : Below W.heap.size W wd := hWc.grown hg1 hWc.size (fun k e => TW.out.2.2.1 k e)
            have gd : wd.heap[w3.heap.size]? = some (.cells #[.int .i64 kd, .int .i64 vi, .int .u64 0, .string vt, .int .i64 vc] 95 (0, 0)) := (hg1.block _ (Array.getElem?_eq_some_iff.1 G14).1 (fun e => by have := (TW.out.1.lt _ e.symm).2; omega)).trans G14
            have ovd := owns_on TW.out.2.1 (W' := wd) (fun k e => (hg1.block k (by have := (TW.out.2.1.lt k e).2; omega) (fun e2 => TW.out.2.2.2.2 k e2.symm e)).trans (hBc.block k (TW.out.2.1.lt k e).2))
            refine anyM_one (i := 12) (by kernel_rfl) rfl rfl (fun K hK => ?_)
            refine opIn_plain (fun c h => by cases h) ?_
            refine Lib.wp_append_run _ (.tmp 21) (.tmp 32) 29 29 rfl _ _ rfl rfl _ _ hrun ?_
            refine hK _ _ ⟨.inr (fun _ => SS.out _ hWd), fun _ => trivial⟩ ?_
            clear hK K hrun
            (try simp only [Act.put, List.getElem_toArray, List.getElem_cons_zero, List.getElem_cons_succ, List.setIfInBounds_toArray, List.set_cons_zero, List.set_cons_succ])
            rw [← FV.out] at gd
            have hzd := hg1.size
            obtain ⟨v2, we, hrun2, ho2, hg2, hk2⟩ := app_vals wd 57 _ (vsel vs (rsel L vs N j)) ovd _ [v] (lit_own wd w3.heap.size [v] (by simp) gd) (by rw [LL.out.2]; simp; omega)
            obtain ⟨o2, c2, hv2⟩ := slice_of ho2
            rw [show ((vsel vs (rsel L vs N j)) ++ [v]).length = p + 1 by rw [List.length_append, LL.out.2]; rfl] at hv2
            subst hv2
            have hWe : Below W.heap.size W we := hWd.grown hg2 hWd.size (fun k e => TW.out.2.2.2.1 k e)
            have nk : ∀ k, (Value.slice o1 (p + 1) c1).ownBlock = some k → (Value.slice ob p cpb).ownBlock ≠ some k := fun k e e2 => by
              rcases hk1 k e with e | e
              · exact TW.out.2.2.2.2 k e e2
              · have := (TW.out.2.1.lt k e2).2
                omega
            have ow1 := owns_on ho1 (W' := we) (fun k e => hg2.block k (ho1.lt k e).2 (fun e2 => nk k e e2.symm))
            have kk1 : ∀ k, (Value.slice o1 (p + 1) c1).ownBlock = some k → W.heap.size ≤ k := fun k e => by
              rcases hk1 k e with e | e
              · exact TW.out.2.2.1 k e
              · omega
            have kk2 : ∀ k, (Value.slice o2 (p + 1) c2).ownBlock = some k → W.heap.size ≤ k := fun k e => by
              rcases hk2 k e with e | e
              · exact TW.out.2.2.2.1 k e
              · omega
            have kk3 : ∀ k, (Value.slice o1 (p + 1) c1).ownBlock = some k → (Value.slice o2 (p + 1) c2).ownBlock ≠ some k := fun k e e2 => by
              rcases hk2 k e2 with e3 | e3
              · exact nk k e e3
              · have := (ho1.lt k e).2
                omega
            refine anyM_one (i := 25) (by kernel_rfl) rfl rfl (fun K hK => ?_)
            refine opIn_plain (fun c h => by cases h) ?_
            refine Lib.wp_append_run _ (.tmp 34) (.tmp 45) 57 57 rfl _ _ rfl rfl _ _ hrun2 ?_
            refine hK _ _ ⟨.inr (fun _ => SS.out _ hWe), fun _ => trivial⟩ ?_
            clear hK K hrun2
            (try simp only [Act.put, List.getElem_toArray, List.getElem_cons_zero, List.getElem_cons_succ, List.setIfInBounds_toArray, List.set_cons_zero, List.set_cons_succ])
            refine anyM_same (by kernel_rfl) ?_ (TAIL _ _ ⟨.slice (some ⟨wa.heap.size, 0, none⟩) 1 1, o1, c1, .slice (some ⟨w3.heap.size, 0, none⟩) 1 1, o2, c2, rfl, hWe, ow1, ho2, kk1, kk2, kk3⟩)
            (try simp only [Act.put, List.getElem_toArray, List.getElem_cons_zero, List.getElem_cons_succ, List.setIfInBounds_toArray, List.set_cons_zero, List.set_cons_succ])
    · have e1 : j = l := by omega
      subst e1
      have k1 : ¬ (j : Int) < j := by omega
      have H2 := hid h2
      have HB := hid hB
      clear h2 hB
      go_wp2
      go_ret2
      exact ⟨_, _, rfl, HB.out, H2.out⟩
end
end Go.Proofs.YtndkfjoaiinjoaaGreat.W
