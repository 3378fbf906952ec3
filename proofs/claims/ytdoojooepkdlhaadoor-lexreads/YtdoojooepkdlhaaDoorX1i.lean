/- Package lex: strings. -/
import Derived.Test.YtdoojooepkdlhaaDoorX1h
import Derived.Test.YtdoojooepkdlhaaDoorC4
namespace Go.Proofs.YtdoojooepkdlhaaDoor.W
open Go.ChangeShapes Go.WideShapes Go.RowKit Go.Shelf
set_option linter.unusedVariables false
theorem infoB : (Tryd.prog.info? 5).map (fun i => (i.zero, i.size, i.bytes)) = some (some (.int .u8 0), 1, 1) := by kernel_rfl
theorem own_neX {W : World} {e : TypeId} {base size : Nat} {v : Value} {n : Nat} {xs : List Value} (h : W.ownsRow base e size v n xs) {b : Nat} {c : Array Value} {t : TypeId} (hb : W.heap[b]? = some (.cells c t (0, 0))) (hne : e ≠ t) : v.ownBlock ≠ some b := by
  rcases h.2 with ⟨rfl, _⟩ | ⟨g, cap, cur, rfl, _, hg, _⟩
  · simp [Value.ownBlock]
  · simp only [Value.ownBlock]
    intro e1
    cases e1
    rw [hb] at hg
    simp at hg
    exact hne hg.2.symm
theorem hexBP_lt (l : List UInt8) : (hexBP l).1 < 256 ∧ (hexBP l).2 ≤ l.length := by
  unfold hexBP
  split
  · rename_i h lo _
    split
    · rename_i g
      have g1 : 0 ≤ hexV h := of_decide_eq_true g.1
      have g2 : 0 ≤ hexV lo := of_decide_eq_true g.2
      have := hexV_lt h
      have := hexV_lt lo
      exact ⟨by dsimp only; omega, by simp⟩
    · exact ⟨by decide, Nat.zero_le _⟩
  · exact ⟨by decide, Nat.zero_le _⟩
theorem speltP_lt (l : List UInt8) : (speltP l).1 < 256 ∧ (speltP l).2 ≤ l.length := by
  cases l with
  | nil => exact ⟨by decide, Nat.zero_le _⟩
  | cons c q =>
    obtain ⟨f1, f2⟩ := spelt_head c q
    by_cases a : c.toNat < 32 ∨ 126 < c.toNat
    · rw [f1 a]; exact ⟨by decide, Nat.zero_le _⟩
    · by_cases b : c = 92
      · subst b
        obtain ⟨g1, g2⟩ := spelt_esc q
        cases q with
        | nil => rw [g1 rfl]; exact ⟨by decide, Nat.zero_le _⟩
        | cons d r =>
          obtain ⟨k1, k2, k3, k4, k5⟩ := g2 d r rfl
          by_cases d1 : d = 92
          · rw [k1 d1]; exact ⟨by decide, by simp⟩
          · by_cases d2 : d = 34
            · rw [k2 d2]; exact ⟨by decide, by simp⟩
            · by_cases d3 : d = 110
              · rw [k3 d3]; exact ⟨by decide, by simp⟩
              · by_cases d4 : d = 120
                · rw [k4 d4]; exact hexBP_lt _
                · rw [k5 d1 d2 d3 d4]; exact ⟨by decide, Nat.zero_le _⟩
      · rw [f2 a b]
        exact ⟨c.toNat_lt, by simp⟩
theorem quote_end (f n : Nat) (acc : List UInt8) : quoteGo f [] n acc = badPc n 61 := by cases f <;> rfl
theorem quote_stop (f n : Nat) (c : UInt8) (r acc : List UInt8) (hf : 0 < f) (h : c = 34) : quoteGo f (c :: r) n acc = okPc ⟨6, bytesOf acc, 0, 0⟩ (n + 1) := by
  cases f with
  | zero => omega
  | succ f => unfold quoteGo; dsimp only; rw [if_pos h]
theorem quote_bad (f n : Nat) (c : UInt8) (r acc : List UInt8) (hf : 0 < f) (h : c ≠ 34) (h2 : (speltP (c :: r)).2 = 0) : quoteGo f (c :: r) n acc = badPc n 61 := by
  cases f with
  | zero => omega
  | succ f => unfold quoteGo; dsimp only; rw [if_neg h, if_pos h2]
theorem quote_on (f n : Nat) (c : UInt8) (r acc : List UInt8) (h : c ≠ 34) (h2 : (speltP (c :: r)).2 ≠ 0) : quoteGo (f + 1) (c :: r) n acc = quoteGo f ((c :: r).drop (speltP (c :: r)).2) (n + (speltP (c :: r)).2) (acc ++ [(speltP (c :: r)).1.toUInt8]) := by
  conv => lhs; unfold quoteGo
  dsimp only
  rw [if_neg h, if_neg h2]
theorem drop_cons (s : ByteArray) (k : Nat) (h : k < s.size) : s.data.toList.drop k = s[k] :: s.data.toList.drop (k + 1) := by
  have e := get_at s k h
  rw [List.drop_eq_getElem_cons (by rw [size_list]; exact h)]
  congr 1
theorem own_keepX {W W' : World} {base : Nat} {e : TypeId} {size : Nat} {v : Value} {n : Nat} {xs : List Value} (h : W.ownsRow base e size v n xs) (hB : Below W.heap.size W W') : W'.ownsRow base e size v n xs := by
  refine ⟨h.1, ?_⟩
  rcases h.2 with h2 | ⟨g, cap, cur, h1, h2, h3, h4⟩
  · exact .inl h2
  · exact .inr ⟨g, cap, cur, h1, h2, (hB.block g (Array.getElem?_eq_some_iff.1 h3).1).trans h3, h4⟩
set_option maxRecDepth 100000 in
set_option maxHeartbeats 2000000 in
theorem quoted_in (s : ByteArray) (h0 : 0 < s.size) (hs : s.size ≤ 1000000) (hq : s[0].toNat = 34) (R : Pc) (hR : quoteGo s.size (s.data.toList.drop 1) 1 [] = R) (w : World) : Calls Tryd.prog 24 #[.string s] w fun e w' => e = .returned (pv R) ∧ Below w.heap.size w w' := by
  have FR := hid (World.alloc_heap_new w (.cells #[.int .i64 0, .int .i64 0, .string ⟨#[]⟩, .int .i64 0, .int .u64 0, .int .i64 0, .int .i64 0] 45))
  have HR0 := hid hR
  have HS := hid hs
  have z0 : (0 : Int) < s.size := by omega
  clear hR hs
  obtain ⟨i0, hi, hz0, hz1, hz2⟩ := info_parts infoB
  go_enter Tryd.func24, Tryd.ntmps24
  go_wp2_with fail
  go_loopw [3, 4, 5, 6] (fun v sz _ _ wr => ∃ (k f : Nat) (acc : List UInt8), sz = .int .i64 k ∧ 1 ≤ k ∧ k ≤ s.size ∧ s.size ≤ k + f ∧ acc.length ≤ k ∧ quoteGo f (s.data.toList.drop k) k acc = R ∧ wr.ownsRow w.heap.size 5 1 v acc.length (bytesV acc) ∧ Below w.heap.size w wr ∧ wr.heap[w.heap.size]? = some (.cells #[.int .i64 0, .int .i64 0, .string ⟨#[]⟩, .int .i64 0, .int .u64 0, .int .i64 0, .int .i64 0] 45 (0, 0))) (fun _ sz _ _ _ => s.size - (intOf sz).toNat)
  case atStart => exact ⟨1, s.size, [], rfl, Nat.le_refl _, h0, by omega, by simp, HR0.out, World.ownsRow_nil _ _ _ _, (Below.refl _ w).alloc (Nat.le_refl _) _, FR.out⟩
  case round =>
    obtain ⟨k, f, acc, rfl, hk1, hk2, hkf, hac, hgo, hown, hB, hr⟩ := hrel
    clear FR HR0
    have HR := hid hr
    have HB := hid hB
    by_cases c : k < s.size
    · have c' : (k : Int) < s.size := by omega
      have hd := drop_cons s k c
      rw [hd] at hgo
      by_cases c2 : s[k].toNat = 34
      · have eR := hid ((quote_stop f k s[k] _ acc (by omega) (u8_is c2)).symm.trans hgo)
        have kc := conv_own _ hown
        have ec := row_cellsX hr
        have ef := row_thawX hr
        have c3 : ¬ k = s.size := by omega
        have e1 : IntKind.i64.wrap ((k : Int) + 1) = ((k + 1 : Nat) : Int) := by have := HS.out; rw [IntKind.wrap_i64]; omega
        clear hgo hown hB hr hd
        go_wp2_with fail
        refine bodyPost_ret (pc_ret rfl _ _ w.heap.size _ _ _ _ _ _ _ (0, 0) rfl (seven_set HR.out _ _ _ _ _ _ _)) rfl ?_
        exact ⟨by rw [← eR.out]; rfl, seven_below HB.out (Nat.le_refl _) _ _ _ _ _ _ _⟩
      · obtain ⟨t, ht⟩ : ∃ t, s.extract k s.size = t := ⟨_, rfl⟩
        have tl : t.data.toList = s[k] :: s.data.toList.drop (k + 1) := by rw [← ht, cut_from, ← hd]
        have tz : t.size ≤ s.size := by rw [← size_list t, tl, ← hd, List.length_drop, size_list]; omega
        have t0 : 0 < t.size := by rw [← size_list t, tl]; simp
        have cs := fun w => spelt_c t t0 (Nat.le_trans tz HS.out) w
        rw [tl] at cs
        obtain ⟨p1, p2⟩ := speltP_lt (s[k] :: s.data.toList.drop (k + 1))
        rw [← tl, size_list] at p2
        have tze : t.size = s.size - k := by rw [← size_list t, tl, ← hd, List.length_drop, size_list]
        have p3 : (speltP (s[k] :: s.data.toList.drop (k + 1))).2 ≤ s.size - k := by rw [← tl]; omega
        have ne : s[k] ≠ 34 := u8_ne (by decide) c2
        have qb := quote_bad f k s[k] (s.data.toList.drop (k + 1)) acc (by omega) ne
        have qo := fun f' => quote_on f' k s[k] (s.data.toList.drop (k + 1)) acc ne
        obtain ⟨cc, hcc⟩ : ∃ cc : UInt8, (speltP (s[k] :: s.data.toList.drop (k + 1))).1 = cc.toNat := ⟨(speltP (s[k] :: s.data.toList.drop (k + 1))).1.toUInt8, by simp; omega⟩
        have ecc : (speltP (s[k] :: s.data.toList.drop (k + 1))).1.toUInt8 = cc := by rw [hcc]; simp
        rw [ecc] at qo
        rw [hcc] at cs
        obtain ⟨P, hP⟩ : ∃ P : Nat, (speltP (s[k] :: s.data.toList.drop (k + 1))).2 = P := ⟨_, rfl⟩
        rw [hP] at cs p3 qb qo
        clear p2 tl tz t0 hcc ecc hP p1 tze
        by_cases c4 : P = 0
        · have eR := hid ((qb c4).symm.trans hgo)
          subst c4
          clear qb qo hgo hown hB hd p3
          go_wp2_with (go_at_call 43; (with_reducible refine (cs _).mono ?_); rintro e w2 ⟨rfl, hB2⟩; (have hr2 := row_keepX HR.out hB2); (have ec := row_cellsX hr2); (have ef := row_thawX hr2); (replace HR := hid hr2); (replace HB := hid (HB.out.trans (hB2.mono HB.out.size))); clear hr2 hB2 cs)
          refine bodyPost_ret (pc_ret rfl _ _ w.heap.size _ _ _ _ _ _ _ (0, 0) rfl (seven_set HR.out _ _ _ _ _ _ _)) rfl ?_
          exact ⟨by rw [← eR.out]; rfl, seven_below HB.out (Nat.le_refl _) _ _ _ _ _ _ _⟩
        · have c5 : ¬ (P : Int) = 0 := by omega
          obtain ⟨f', rfl⟩ : ∃ f', f = f' + 1 := ⟨f - 1, by omega⟩
          have hgo2 := (qo f' c4).symm.trans hgo
          rw [← hd, List.drop_drop] at hgo2
          have HG := hid hgo2
          have HP := hid (And.intro p3 (Nat.pos_of_ne_zero c4))
          have e1 : IntKind.i64.wrap ((k : Int) + (P : Int)) = ((k + P : Nat) : Int) := by have := HS.out; rw [IntKind.wrap_i64]; omega
          have HO := hid hown
          have hlen : acc.length + 1 ≤ 2000000 := by have := HS.out; omega
          have HL := hid hlen
          clear qb qo hgo hgo2 hB hd p3 c4 hr hown hlen
          go_wp2_with (first | (at_builtin; refine wpList_append_own _ rfl _ _ 54 rfl w.heap.size 5 i0 (.int .u8 0) 1 1 Tryd.underlying54 hi hz0 hz1 hz2 rfl (by decide) _ _ _ rfl ((own_keepX HO.out HB2.out).alloc _) ⟨_, 0, none⟩ 1 1 [.int .u8 cc.toNat] rfl rfl ?c1 ?c2 ?c3 ?c4 ?c5 ?_) | (go_at_call 43; (with_reducible refine (cs _).mono ?_); rintro e w2 ⟨rfl, hB2⟩; (have HB2 := hid hB2); (replace HR := hid (row_keepX HR.out hB2)); clear hB2 cs))
          case c1 =>
            intro j u hj
            match j, hj with
            | 0, hj => simp at hj; subst hj; simp [Addr.add]
          case c2 => intro u hu; simp at hu; subst hu; rfl
          case c3 => have := HL.out; unfold maxLen; omega
          case c4 => have := HL.out; omega
          case c5 => have := HB.out.size; have := HB2.out.size; simp; omega
          · intro v' w1 hown' hgrow _
            have R1 := hid (bytesV_snoc acc cc cc.toNat rfl)
            have hBw := HB.out.trans (HB2.out.mono HB.out.size)
            have R2 : Below w.heap.size w w1 := (hBw.alloc (by have := hBw.size; omega) _).grown hgrow (by have := hBw.size; simp; omega) (fun g hg => ((own_keepX HO.out HB2.out).lt g hg).1)
            have R3 : w1.heap[w.heap.size]? = some (.cells #[.int .i64 0, .int .i64 0, .string ⟨#[]⟩, .int .i64 0, .int .u64 0, .int .i64 0, .int .i64 0] 45 (0, 0)) := by
              have hr3 := row_keepX HR.out ((Below.refl _ _).alloc (Nat.le_refl _) (.cells #[.int .u8 cc.toNat] 5))
              have ub := ((It.Upd.refl (fun j => _) _).grown hgrow (fun j e => .inl e)).block w.heap.size (Array.getElem?_eq_some_iff.1 hr3).1 (own_neX ((own_keepX HO.out HB2.out).alloc _) hr3 (by decide))
              exact ub.trans hr3
            have RR := hid R3
            have RB := hid R2
            clear hgrow R3 R2 hBw HO HB HB2 HR
            go_wp2
            go_roundw
            case rel => exact ⟨k + P, f', acc ++ [cc], by go_num, by have := HP.out; omega, by have := HP.out; omega, by have := HP.out; omega, by have := HP.out; simp; omega, HG.out, by have := R1.out; rw [this, List.length_append]; exact hown', RB.out, RR.out⟩
            case measure => have := HP.out; simp [intOf]; omega
    · have ck : k = s.size := by omega
      rw [List.drop_eq_nil_of_le (by rw [size_list]; omega), quote_end] at hgo
      have eR := hid hgo
      have ec := row_cellsX hr
      have ef := row_thawX hr
      clear hgo hown hB hr c
      subst ck
      go_wp2_with fail
      refine bodyPost_ret (pc_ret rfl _ _ w.heap.size _ _ _ _ _ _ _ (0, 0) rfl (seven_set HR.out _ _ _ _ _ _ _)) rfl ?_
      exact ⟨by rw [← eR.out]; rfl, seven_below HB.out (Nat.le_refl _) _ _ _ _ _ _ _⟩
theorem quoted_c (s : ByteArray) (h0 : 0 < s.size) (hs : s.size ≤ 1000000) (w : World) : Calls Tryd.prog 24 #[.string s] w fun e w' => e = .returned (pv (quotedP s.data.toList)) ∧ Below w.heap.size w w' := by
  by_cases c : s[0].toNat = 34
  · have e : quotedP s.data.toList = quoteGo s.size (s.data.toList.drop 1) 1 [] := by
      have g : s.data.toList.head? = some 34 := (head_is s h0 34 (by decide)).2 c
      unfold quotedP
      rw [if_pos g, size_list]
    rw [e]
    exact quoted_in s h0 hs c _ rfl w
  · have e : quotedP s.data.toList = noPc := if_neg (fun g => c ((head_is s h0 34 (by decide)).1 g))
    rw [e]
    have z0 : (0 : Int) < s.size := by omega
    clear e hs
    unfold pv noPc
    go_enter Tryd.func24, Tryd.ntmps24
    go_wp2
    refine bodyPost_ret (pc_ret rfl _ _ w.heap.size _ _ _ _ _ _ _ (0, 0) rfl (World.alloc_heap_new w _)) rfl ?_
    exact ⟨rfl, (Below.refl _ w).alloc (Nat.le_refl _) _⟩
end Go.Proofs.YtdoojooepkdlhaaDoor.W
