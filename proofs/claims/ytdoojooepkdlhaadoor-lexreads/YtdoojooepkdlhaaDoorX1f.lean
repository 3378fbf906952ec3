/- Package lex: names. -/
import Derived.Test.YtdoojooepkdlhaaDoorX1e
namespace Go.Proofs.YtdoojooepkdlhaaDoor.W
open Go.ChangeShapes Go.WideShapes Go.RowKit Go.Shelf
set_option linter.unusedVariables false
theorem tkT : (Tryd.prog.underlying 30).map (fun d => match d with | .struct _ | .array _ _ => true | _ => false) = some true := by kernel_rfl
theorem tkSz : (Tryd.prog.info? 30).map (·.size) = some 5 := by kernel_rfl
theorem tk_ret {fn : Func} {p : Tmp} (h : fn.results = #[.cell p 30]) (tmps : Array Value) (w : World) (gb : Nat) (v0 v1 v2 v3 v4 : Value) (fr : Nat × Nat) (hp : tmps.getD p undef = .pointer (some ⟨gb, 0, none⟩)) (hg : w.heap[gb]? = some (.cells #[v0, v1, v2, v3, v4] 30 fr)) : (results fn tmps).run Tryd.prog w = .ok (.agg #[v0, v1, v2, v3, v4]) w := by
  have ht := tkT
  cases hu : Tryd.prog.underlying 30 with
  | none => rw [hu] at ht; cases ht
  | some d =>
    rw [hu] at ht
    simp only [Option.map_some, Option.some.injEq] at ht
    refine results_cell_row h tmps w gb _ _ fr d hp hg hu ?_ (by rw [tkSz]; rfl)
    cases d <;> first | rfl | exact ht
theorem five_setX {w : World} {gb : Nat} {z0 z1 z2 z3 z4 : Value} {t : TypeId} (hg : w.heap[gb]? = some (.cells #[z0, z1, z2, z3, z4] t (0, 0))) (v0 v1 v2 v3 v4 : Value) : (((((w.setCell ⟨gb, 0, none⟩ v0).setCell ⟨gb, 1, none⟩ v1).setCell ⟨gb, 2, none⟩ v2).setCell ⟨gb, 3, none⟩ v3).setCell ⟨gb, 4, none⟩ v4).heap[gb]? = some (.cells #[v0, v1, v2, v3, v4] t (0, 0)) := by
  have h0 : w.heap[gb]? = some (.cells [z0, z1, z2, z3, z4].toArray t (0, 0)) := hg
  exact heap_setX (heap_setX (heap_setX (heap_setX (heap_setX h0 0 v0) 1 v1) 2 v2) 3 v3) 4 v4
theorem five_belowX {w a : World} {gb B : Nat} (h : Below B a w) (hB : B ≤ gb) (v0 v1 v2 v3 v4 : Value) : Below B a (((((w.setCell ⟨gb, 0, none⟩ v0).setCell ⟨gb, 1, none⟩ v1).setCell ⟨gb, 2, none⟩ v2).setCell ⟨gb, 3, none⟩ v3).setCell ⟨gb, 4, none⟩ v4) :=
  ((((h.setCell (p := ⟨gb, 0, none⟩) hB v0).setCell (p := ⟨gb, 1, none⟩) hB v1).setCell (p := ⟨gb, 2, none⟩) hB v2).setCell (p := ⟨gb, 3, none⟩) hB v3).setCell (p := ⟨gb, 4, none⟩) hB v4
/-- a token as a value -/
def tv (t : Tk) (at' : Int) : Value := .agg #[.int .i64 t.kind, .int .i64 at', .string t.text, .int .i64 t.int, .int .u64 t.bits]
theorem named_num (s : ByteArray) (x : Int) (h : s = ⟨#[105, 110, 102]⟩ ∨ s = ⟨#[110, 97, 110]⟩) (w : World) (cp : Calls Tryd.prog 41 #[.string s] (w.alloc (.cells #[.int .i64 0, .int .i64 0, .string ⟨#[]⟩, .int .i64 0, .int .u64 0] 30)) fun e w' => e = .returned (.tuple #[.int .u64 x, .int .i64 0]) ∧ Below (w.alloc (.cells #[.int .i64 0, .int .i64 0, .string ⟨#[]⟩, .int .i64 0, .int .u64 0] 30)).heap.size (w.alloc (.cells #[.int .i64 0, .int .i64 0, .string ⟨#[]⟩, .int .i64 0, .int .u64 0] 30)) w') :
    Calls Tryd.prog 36 #[.string s] w fun e w' => e = .returned (tv ⟨5, ⟨#[]⟩, 0, x⟩ 0) ∧ Below w.heap.size w w' := by
  have hB1 : Below w.heap.size w (w.alloc (.cells #[.int .i64 0, .int .i64 0, .string ⟨#[]⟩, .int .i64 0, .int .u64 0] 30)) := (Below.refl _ w).alloc (Nat.le_refl _) _
  have FR := hid (World.alloc_heap_new w (.cells #[.int .i64 0, .int .i64 0, .string ⟨#[]⟩, .int .i64 0, .int .u64 0] 30))
  have HB := hid hB1
  clear hB1
  unfold tv
  rcases h with rfl | rfl
  all_goals (
    go_enter Tryd.func36, Tryd.ntmps36
    go_wp2_with (go_at_call 41; (with_reducible refine cp.mono ?_); rintro e w2 ⟨rfl, hB2⟩; (have hr := row_keepX FR.out hB2); (have ec := row_cellsX hr); (have ef := row_thawX hr); (have HR := hid hr); (replace HB := hid (HB.out.trans (hB2.mono HB.out.size))); clear hr hB2 cp FR)
    refine bodyPost_ret (tk_ret rfl _ _ w.heap.size _ _ _ _ _ (0, 0) rfl (five_setX HR.out _ _ _ _ _)) rfl ?_
    exact ⟨rfl, five_belowX HB.out (Nat.le_refl _) _ _ _ _ _⟩)
set_option maxRecDepth 100000 in
theorem named_none (s : ByteArray) (n0 : (s.toList == [105, 110, 102]) = false) (n1 : (s.toList == [110, 97, 110]) = false) (n2 : (s.toList == [102, 110]) = false) (n3 : (s.toList == [108, 101, 116]) = false) (n4 : (s.toList == [105, 102]) = false) (n5 : (s.toList == [101, 108, 115, 101]) = false) (n6 : (s.toList == [119, 104, 105, 108, 101]) = false) (n7 : (s.toList == [102, 111, 114]) = false) (n8 : (s.toList == [105, 110]) = false) (n9 : (s.toList == [98, 114, 101, 97, 107]) = false) (n10 : (s.toList == [99, 111, 110, 116, 105, 110, 117, 101]) = false) (n11 : (s.toList == [114, 101, 116, 117, 114, 110]) = false) (n12 : (s.toList == [111, 117, 116]) = false) (n13 : (s.toList == [97, 110, 100]) = false) (n14 : (s.toList == [111, 114]) = false) (n15 : (s.toList == [110, 111, 116]) = false) (n16 : (s.toList == [116, 114, 117, 101]) = false) (n17 : (s.toList == [102, 97, 108, 115, 101]) = false) (n18 : (s.toList == [110, 105, 108]) = false) (w : World) : Calls Tryd.prog 36 #[.string s] w fun e w' => e = .returned (tv ⟨1, s, 0, 0⟩ 0) ∧ Below w.heap.size w w' := by
  unfold tv
  go_enter Tryd.func36, Tryd.ntmps36
  go_wp2
  refine bodyPost_ret (tk_ret rfl _ _ w.heap.size _ _ _ _ _ (0, 0) rfl (World.alloc_heap_new w _)) rfl ?_
  exact ⟨rfl, (Below.refl _ w).alloc (Nat.le_refl _) _⟩
set_option maxRecDepth 100000 in
set_option maxHeartbeats 1000000 in
theorem named_word (s : ByteArray) (h : s = ⟨#[102, 110]⟩ ∨ s = ⟨#[108, 101, 116]⟩ ∨ s = ⟨#[105, 102]⟩ ∨ s = ⟨#[101, 108, 115, 101]⟩ ∨ s = ⟨#[119, 104, 105, 108, 101]⟩ ∨ s = ⟨#[102, 111, 114]⟩ ∨ s = ⟨#[105, 110]⟩ ∨ s = ⟨#[98, 114, 101, 97, 107]⟩ ∨ s = ⟨#[99, 111, 110, 116, 105, 110, 117, 101]⟩ ∨ s = ⟨#[114, 101, 116, 117, 114, 110]⟩ ∨ s = ⟨#[111, 117, 116]⟩ ∨ s = ⟨#[97, 110, 100]⟩ ∨ s = ⟨#[111, 114]⟩ ∨ s = ⟨#[110, 111, 116]⟩ ∨ s = ⟨#[116, 114, 117, 101]⟩ ∨ s = ⟨#[102, 97, 108, 115, 101]⟩ ∨ s = ⟨#[110, 105, 108]⟩) (w : World) : Calls Tryd.prog 36 #[.string s] w fun e w' => e = .returned (tv ⟨2, s, 0, 0⟩ 0) ∧ Below w.heap.size w w' := by
  unfold tv
  rcases h with rfl | rfl | rfl | rfl | rfl | rfl | rfl | rfl | rfl | rfl | rfl | rfl | rfl | rfl | rfl | rfl | rfl
  all_goals (
    go_enter Tryd.func36, Tryd.ntmps36
    go_wp2
    refine bodyPost_ret (tk_ret rfl _ _ w.heap.size _ _ _ _ _ (0, 0) rfl (World.alloc_heap_new w _)) rfl ?_
    exact ⟨rfl, (Below.refl _ w).alloc (Nat.le_refl _) _⟩)
theorem bytes_self (s : ByteArray) : bytesOf s.data.toList = s := by unfold bytesOf; simp
theorem bytes_of {s : ByteArray} {l : List UInt8} (h : s.data.toList = l) : s = ⟨l.toArray⟩ := by rw [← h]
theorem lexNamed_c (s : ByteArray) (hs : s.size ≤ maxLen) (w : World) (ht : Tabs w) : Calls Tryd.prog 36 #[.string s] w fun e w' => e = .returned (tv (namedT s.data.toList) 0) ∧ Below w.heap.size w w' := by
  have cp := parseFloat_c s hs (w.alloc (.cells #[.int .i64 0, .int .i64 0, .string ⟨#[]⟩, .int .i64 0, .int .u64 0] 30)) (ht.on _)
  unfold namedT
  by_cases c1 : s.data.toList = infT
  · rw [if_pos c1]
    rw [c1] at cp
    exact named_num s _ (.inl (bytes_of c1)) w cp
  · rw [if_neg c1]
    by_cases c2 : s.data.toList = nanT
    · rw [if_pos c2]
      rw [c2] at cp
      exact named_num s _ (.inr (bytes_of c2)) w cp
    · rw [if_neg c2, bytes_self]
      by_cases c3 : s.data.toList ∈ words
      · rw [if_pos c3]
        refine named_word s ?_ w
        unfold words at c3
        simp only [List.mem_cons, List.not_mem_nil, or_false] at c3
        rcases c3 with c | c | c | c | c | c | c | c | c | c | c | c | c | c | c | c | c
        · exact .inl (bytes_of c)
        · exact .inr (.inl (bytes_of c))
        · exact .inr (.inr (.inl (bytes_of c)))
        · exact .inr (.inr (.inr (.inl (bytes_of c))))
        · exact .inr (.inr (.inr (.inr (.inl (bytes_of c)))))
        · exact .inr (.inr (.inr (.inr (.inr (.inl (bytes_of c))))))
        · exact .inr (.inr (.inr (.inr (.inr (.inr (.inl (bytes_of c)))))))
        · exact .inr (.inr (.inr (.inr (.inr (.inr (.inr (.inl (bytes_of c))))))))
        · exact .inr (.inr (.inr (.inr (.inr (.inr (.inr (.inr (.inl (bytes_of c)))))))))
        · exact .inr (.inr (.inr (.inr (.inr (.inr (.inr (.inr (.inr (.inl (bytes_of c))))))))))
        · exact .inr (.inr (.inr (.inr (.inr (.inr (.inr (.inr (.inr (.inr (.inl (bytes_of c)))))))))))
        · exact .inr (.inr (.inr (.inr (.inr (.inr (.inr (.inr (.inr (.inr (.inr (.inl (bytes_of c))))))))))))
        · exact .inr (.inr (.inr (.inr (.inr (.inr (.inr (.inr (.inr (.inr (.inr (.inr (.inl (bytes_of c)))))))))))))
        · exact .inr (.inr (.inr (.inr (.inr (.inr (.inr (.inr (.inr (.inr (.inr (.inr (.inr (.inl (bytes_of c))))))))))))))
        · exact .inr (.inr (.inr (.inr (.inr (.inr (.inr (.inr (.inr (.inr (.inr (.inr (.inr (.inr (.inl (bytes_of c)))))))))))))))
        · exact .inr (.inr (.inr (.inr (.inr (.inr (.inr (.inr (.inr (.inr (.inr (.inr (.inr (.inr (.inr (.inl (bytes_of c))))))))))))))))
        · exact .inr (.inr (.inr (.inr (.inr (.inr (.inr (.inr (.inr (.inr (.inr (.inr (.inr (.inr (.inr (.inr (bytes_of c))))))))))))))))
      · rw [if_neg c3]
        have ne : ∀ l : List UInt8, s.data.toList ≠ l → (s.toList == l) = false := fun l h => by rw [toList_eq]; simpa using h
        have nw : ∀ l, l ∈ words → (s.toList == l) = false := fun l hl => ne l (fun e => c3 (e ▸ hl))
        exact named_none s (ne _ c1) (ne _ c2) (nw _ (by decide)) (nw _ (by decide)) (nw _ (by decide)) (nw _ (by decide)) (nw _ (by decide)) (nw _ (by decide)) (nw _ (by decide)) (nw _ (by decide)) (nw _ (by decide)) (nw _ (by decide)) (nw _ (by decide)) (nw _ (by decide)) (nw _ (by decide)) (nw _ (by decide)) (nw _ (by decide)) (nw _ (by decide)) (nw _ (by decide)) w
theorem clone_c (s : ByteArray) (hs : s.size ≤ 1000000) (w : World) : Calls Tryd.prog 37 #[.string s] w fun e w' => e = .returned (.string s) ∧ Below w.heap.size w w' := by
  have c := Tryd.stringslite_Clone s w (by omega)
  clear hs
  go_enter Tryd.func37, Tryd.ntmps37
  go_wp2_with (go_at_call 47; (with_reducible refine c.mono ?_); rintro e w2 ⟨rfl, hB⟩)
  go_ret
  exact ⟨rfl, hB⟩
set_option maxHeartbeats 1000000 in
theorem name_c (s : ByteArray) (h0 : 0 < s.size) (hs : s.size ≤ 1000000) (w : World) (ht : Tabs w) : Calls Tryd.prog 21 #[.string s] w fun e w' => e = .returned (pv (nameP s.data.toList)) ∧ Below w.heap.size w w' := by
  have hm : s.size ≤ maxLen := Nat.le_trans hs (by decide)
  have cr := fun w => run_g s hm 34 nameB eg_inName inName_c w
  have hn := runN_le nameB s.data.toList
  rw [size_list] at hn
  have cd := fun w => isDigit_c s[0] w
  have hh : headB digB s.data.toList = digB s[0] := by
    have e := get_at s 0 h0
    cases hl : s.data.toList with
    | nil => rw [hl] at e; cases e
    | cons c r => rw [hl] at e; injection e with e; rw [← e]; rfl
  unfold nameP
  rw [hh]
  by_cases c : runN nameB s.data.toList = 0
  · rw [if_pos (.inl c)]
    rw [c] at cr
    clear c hn hh cd hs hm ht h0
    unfold pv noPc
    go_enter Tryd.func21, Tryd.ntmps21
    go_wp2_with (go_at_call 31; (with_reducible refine (cr _).mono ?_); rintro e w' ⟨rfl, rfl⟩)
    refine bodyPost_ret (pc_ret rfl _ _ w.heap.size _ _ _ _ _ _ _ (0, 0) rfl (World.alloc_heap_new w _)) rfl ?_; exact ⟨rfl, (Below.refl _ w).alloc (Nat.le_refl _) _⟩
  · cases hd : digB s[0] with
    | true =>
      rw [if_pos (.inr rfl)]
      rw [hd] at cd
      generalize runN nameB s.data.toList = n at *
      clear hh hn hs hm ht hd
      unfold pv noPc
      go_enter Tryd.func21, Tryd.ntmps21
      go_wp2_with (first | (go_at_call 31; (with_reducible refine (cr _).mono ?_); rintro e w' ⟨rfl, rfl⟩) | (go_at_call 35; (with_reducible refine (cd _).mono ?_); rintro e w' ⟨rfl, rfl⟩))
      refine bodyPost_ret (pc_ret rfl _ _ w.heap.size _ _ _ _ _ _ _ (0, 0) rfl (World.alloc_heap_new w _)) rfl ?_; exact ⟨rfl, (Below.refl _ w).alloc (Nat.le_refl _) _⟩
    | false =>
      rw [if_neg (by rintro (g | g); exact c g; cases g)]
      rw [hd] at cd
      by_cases c2 : 31 < runN nameB s.data.toList
      · rw [if_pos c2]
        generalize runN nameB s.data.toList = n at *
        have c3 : (n : Int) > 31 := by omega
        clear hh hs hm ht hd hn
        unfold pv badPc
        go_enter Tryd.func21, Tryd.ntmps21
        go_wp2_with (first | (go_at_call 31; (with_reducible refine (cr _).mono ?_); rintro e w' ⟨rfl, rfl⟩) | (go_at_call 35; (with_reducible refine (cd _).mono ?_); rintro e w' ⟨rfl, rfl⟩))
        refine bodyPost_ret (pc_ret rfl _ _ w.heap.size _ _ _ _ _ _ _ (0, 0) rfl (World.alloc_heap_new w _)) rfl ?_; exact ⟨rfl, (Below.refl _ w).alloc (Nat.le_refl _) _⟩
      · rw [if_neg c2]
        have FR := hid (World.alloc_heap_new w (.cells #[.int .i64 0, .int .i64 0, .string ⟨#[]⟩, .int .i64 0, .int .u64 0, .int .i64 0, .int .i64 0] 45))
        have HB := hid (show Below w.heap.size w (w.alloc (.cells #[.int .i64 0, .int .i64 0, .string ⟨#[]⟩, .int .i64 0, .int .u64 0, .int .i64 0, .int .i64 0] 45)) from (Below.refl _ w).alloc (Nat.le_refl _) _)
        have el : (s.extract 0 (runN nameB s.data.toList)).data.toList = s.data.toList.take (runN nameB s.data.toList) := by rw [cut_to]
        have cs := cut_size s (runN nameB s.data.toList)
        have cc := fun w => clone_c (s.extract 0 (runN nameB s.data.toList)) (Nat.le_trans cs hs) w
        have cN : ∀ w', Below w.heap.size w w' → Calls Tryd.prog 36 #[.string (s.extract 0 (runN nameB s.data.toList))] w' fun e w2 => e = .returned (tv (namedT (s.data.toList.take (runN nameB s.data.toList))) 0) ∧ Below w'.heap.size w' w2 := fun w' hB => by
          have := lexNamed_c (s.extract 0 (runN nameB s.data.toList)) (Nat.le_trans cs hm) w' (ht.below hB)
          rw [el] at this
          exact this
        have CN := hid cN
        obtain ⟨t, hxt⟩ : ∃ t, s.extract 0 (runN nameB s.data.toList) = t := ⟨_, rfl⟩
        rw [hxt] at cc CN
        clear el cs
        generalize namedT (s.data.toList.take (runN nameB s.data.toList)) = T at *
        generalize runN nameB s.data.toList = n at *
        have c3 : ¬ (n : Int) > 31 := by omega
        clear hh hs hm ht hd cN
        unfold pv okPc
        unfold tv at CN
        go_enter Tryd.func21, Tryd.ntmps21
        go_wp2_with (first | (go_at_call 31; (with_reducible refine (cr _).mono ?_); rintro e w' ⟨rfl, rfl⟩) | (go_at_call 35; (with_reducible refine (cd _).mono ?_); rintro e w' ⟨rfl, rfl⟩) | (go_at_call 37; (with_reducible refine (cc _).mono ?_); rintro e w2 ⟨rfl, hB2⟩; (have hr := row_keepX FR.out hB2); (have HR := hid hr); (replace HB := hid (HB.out.trans (hB2.mono HB.out.size))); (have cN := CN.out w2 HB.out); clear hr hB2 FR CN) | (go_at_call 36; (with_reducible refine cN.mono ?_); rintro e w3 ⟨rfl, hB3⟩; (have hr := row_keepX HR.out hB3); (have ec := row_cellsX hr); (have ef := row_thawX hr); (replace HR := hid hr); (replace HB := hid (HB.out.trans (hB3.mono HB.out.size))); clear hr hB3 cN))
        refine bodyPost_ret (pc_ret rfl _ _ w.heap.size _ _ _ _ _ _ _ (0, 0) rfl (seven_set HR.out _ _ _ _ _ _ _)) rfl ?_
        exact ⟨rfl, seven_below HB.out (Nat.le_refl _) _ _ _ _ _ _ _⟩
end Go.Proofs.YtdoojooepkdlhaaDoor.W
