import Derived.Test.YtmeoonnofiicpaaS8dJ
/- same. -/
namespace Go.Proofs.Ytmeoonnofiicpaa.W.R5
open Go.ChangeShapes Go.WideShapes Go.RowKit Go.Shelf
set_option linter.unusedVariables false
set_option linter.unusedSimpArgs false
section
variable {W : World} {S : Nat → Prop} {sb U N rb M B0 : Nat} {A : List (Option (List Nat))} {l : List En} {v : Value}
set_option maxRecDepth 100000 in
set_option maxHeartbeats 2000000 in
theorem same_c (h : St W S sb A U N) (hS : ∀ k, S k → k < W.heap.size) (hR : Rs B0 W rb A M l v) : Calls Try.prog 9 #[(Value.pointer (some ⟨sb, 0, none⟩)), (Value.pointer (some ⟨rb, 0, none⟩))] W fun e w' => e = .returned (.bool true) ∧ Below W.heap.size W w' := by
  obtain ⟨o, cap, hv⟩ := slice_of (owns_base hR.row (b' := 0) (fun _ _ => Nat.zero_le _))
  have hn0 : l.length ≤ 1000 := hR.lt
  have C0 : Hid (∀ w', Below W.heap.size W w' → w'.cell? ⟨rb, 0, none⟩ = some (.slice o l.length cap)) := by
    show ∀ w', _
    intro w' hB
    rw [← hv]
    exact cell_of_row _ _ 0 _ _ _ (hR.below hB).top
  have AT := hid (fun w' (hB : Below W.heap.size W w') => fun (k : Nat) (e : En) (he : l[k]? = some e) => And.intro ((hR.below hB).at he) ((hR.below hB).byte he))
  have LD : Hid (∀ w', Below W.heap.size W w' → ∀ (k : Nat) (e : En), l[k]? = some e → ∀ (j b : Nat), e.xs[j]? = some b → Calls Try.prog 17 #[(Value.pointer (some ⟨sb, 0, none⟩)), .int .i64 (e.id : Nat), .int .i64 (j : Nat), .int .i64 1] w' fun r w'' => r = .returned (.tuple #[.int .u64 (b : Nat), .int .i64 0]) ∧ Below w'.heap.size w' w'') := by
    show ∀ w', _
    intro w' hB k e he j b hb
    have hm := hR.mem (List.mem_of_getElem? he)
    obtain ⟨i, h1, h2⟩ := (refL_mem _ _ _).1 hm
    simp only [En.pr, Nat.zero_add] at h1 h2
    have hst := h.on (W' := w') (fun q e => hB.block q (hS q e))
    have hj := (List.getElem?_eq_some_iff.1 hb).1
    have := load_st hst e.id e.xs (by rw [h2]; exact h1) j 1 (.inl rfl) (Nat.mod_one _) (by omega)
    rw [seg_one _ _ _ hb] at this
    exact this
  have LOW := hid (fun (k : Nat) (e : En) (he : l[k]? = some e) => And.intro (hR.low _ (hR.mem (List.mem_of_getElem? he))) (And.intro (hR.xs_le (List.mem_of_getElem? he)) (hR.id (List.mem_of_getElem? he))))
  have HV := hid hv
  obtain ⟨n, hn⟩ : ∃ n, l.length = n := ⟨_, rfl⟩
  rw [hn] at C0 hn0
  have HN := hid hn
  clear h hS hR hv hn
  go_enter Try.func9, Try.ntmps9
  go_wp2
  go_loopw [5, 6, 7, 8, 9] (fun ii _ _ _ _ wr => ∃ i : Nat, i ≤ n ∧ ii = .int .i64 (i : Nat) ∧ Below W.heap.size W wr) (fun ii _ _ _ _ _ => n - (intOf ii).toNat)
  case atStart => exact ⟨0, Nat.zero_le _, rfl, Below.refl _ _⟩
  case round =>
    obtain ⟨i, hi, rfl, hB⟩ := hrel
    have c0 := C0.out _ hB
    by_cases hin : i < n
    · obtain ⟨e, he⟩ : ∃ e, l[i]? = some e := ⟨_, List.getElem?_eq_getElem (by rw [HN.out]; exact hin)⟩
      obtain ⟨⟨g, cap', hvv, hkl, d0, c1, c2⟩, _⟩ := AT.out _ hB i e he
      have hv' := HV.out.symm.trans hvv
      injection hv' with hv1 hv2 hv3
      subst hv1
      clear hvv hv2 hv3 d0 hkl
      obtain ⟨hlow, hxl, hid9⟩ := LOW.out i e he
      have k0 : (0 : Int) ≤ i := Int.natCast_nonneg _
      have k1 : (i : Int) < n := by omega
      have HI := hid hin
      have HE := hid he
      have HB := hid hB
      clear hin he hB hi
      obtain ⟨m, hm⟩ : ∃ m, e.xs.length = m := ⟨_, rfl⟩
      rw [hm] at c2 hxl
      have HMM := hid hm
      have HLOW := hid hlow
      clear hm hlow c2
      go_wp2
      go_loopw [7, 8, 9] (fun jj _ _ w2 => ∃ j : Nat, j ≤ m ∧ jj = .int .i64 (j : Nat) ∧ Below W.heap.size W w2) (fun jj _ _ _ => m - (intOf jj).toNat)
      case atStart => exact ⟨0, Nat.zero_le _, rfl, HB.out⟩
      case round =>
        obtain ⟨j, hj, rfl, hB2⟩ := hrel
        have c0' := C0.out _ hB2
        obtain ⟨⟨g', cap2, hvv, hkl, d0, e1, e2⟩, hby⟩ := AT.out _ hB2 i e HE.out
        have hv' := HV.out.symm.trans hvv
        injection hv' with hv1 hv2 hv3
        injection hv1 with hv1
        injection hv1 with hv1
        subst hv1
        clear hvv hv2 hv3 d0 hkl
        rw [HMM.out] at e2
        by_cases hjm : j < m
        · obtain ⟨b, hb⟩ : ∃ b, e.xs[j]? = some b := ⟨_, List.getElem?_eq_getElem (by rw [HMM.out]; exact hjm)⟩
          have cl := LD.out _ hB2 i e HE.out j b hb
          have hb2 := HLOW.out b (List.mem_of_getElem? hb)
          have j0 : (0 : Int) ≤ j := Int.natCast_nonneg _
          have j1 : (j : Int) < m := by omega
          have wj : IntKind.i64.wrap ((j : Int) + 1) = (j : Int) + 1 := by rw [IntKind.wrap_i64]; omega
          have wb : IntKind.u64.wrap ((b : Nat) : Int) = ((b : Nat) : Int) := by rw [IntKind.wrap_u64]; omega
          have HM := hid (show m - ((j : Int) + 1).toNat < m - ((j : Int)).toNat by omega)
          have HJ := hid (show j + 1 ≤ m from hjm)
          have LT : Hid (∀ w3, Below wr.heap.size wr w3 → True) := by show ∀ w3, _; exact fun _ _ => trivial
          clear LT hjm hj hxl hb2 hby
          have HB2 := hid hB2
          have HBB := hid hb
          clear hB2 hb
          go_upto_region 9 with (go_at_call 17; (with_reducible refine cl.mono ?_); rintro ee w3 ⟨rfl, b3⟩; clear cl)
          have hB3 := HB2.out.trans (b3.mono HB2.out.size)
          clear c0' e1 e2
          have c03 := C0.out _ hB3
          obtain ⟨⟨g3, cap3, hvv, -, -, e13, e23⟩, hby⟩ := AT.out _ hB3 i e HE.out
          have hv' := HV.out.symm.trans hvv
          injection hv' with hv1 hv2 hv3
          injection hv1 with hv1
          injection hv1 with hv1
          subst hv1
          clear hvv hv2 hv3
          rw [HMM.out] at e23
          have cby := hby j b HBB.out
          have HB3 := hid hB3
          clear hB3 b3 hby
          go_wp2
          go_roundw
          case rel => exact ⟨j + 1, HJ.out, rfl, HB3.out⟩
          case measure => exact HM.out
        · have j1 : ¬ (j : Int) < m := by omega
          have HB2 := hid hB2
          have wi : IntKind.i64.wrap ((i : Int) + 1) = (i : Int) + 1 := by rw [IntKind.wrap_i64]; omega
          have HM := hid (show n - ((i : Int) + 1).toNat < n - ((i : Int)).toNat by have := HI.out; omega)
          clear hB2 hjm hj hxl hby e1
          go_wp2
          go_roundw
          case rel => exact ⟨i + 1, HI.out, rfl, HB2.out⟩
          case measure => exact HM.out
    · have hk1 : ¬ (i : Int) < n := by omega
      have HB := hid hB
      clear hB hi hin
      go_wp2
      go_ret
      exact ⟨rfl, HB.out⟩
end
end Go.Proofs.Ytmeoonnofiicpaa.W.R5
