import Derived.Test.YtfooijjfjmpigaaGreatDoorTlB0J
import Derived.Test.YtfooijjfjmpigaaGreatDoorTlB1J
import Derived.Test.YtfooijjfjmpigaaGreatDoorTlB2J
import Derived.Test.YtfooijjfjmpigaaGreatDoorTlB3J
import Derived.Test.YtfooijjfjmpigaaGreatDoorTlCJ
import Derived.Test.YtfooijjfjmpigaaGreatDoorTlDJ
import Derived.Test.YtfooijjfjmpigaaGreatDoorKG
/- TreeLevels: the walk. -/
namespace Go.Proofs.YtfooijjfjmpigaaGreatDoor.W.Tr
open Go.ChangeShapes Go.WideShapes Go.RowKit Go.Shelf
set_option linter.unusedVariables false
set_option linter.unusedSimpArgs false
theorem op_apart : ((List.range 9).all fun i => (List.range 9).all fun j => (opT.getD i []).all fun x => (opT.getD j []).all fun y => !(x == y) || Nat.beq i j) = true := by kernel_rfl
theorem opRow_mem {i : Nat} {s : ByteArray} (h : s ∈ opRow i) : s.data.toList ∈ opT.getD i [] := by
  unfold opRow at h
  obtain ⟨l, hl, rfl⟩ := List.mem_map.1 h
  simpa using hl
theorem op_same {i j : Nat} (hi : i < 9) (hj : j < 9) {s : ByteArray} (h1 : s ∈ opRow i) (h2 : s ∈ opRow j) : i = j := by
  have h := op_apart
  rw [List.all_eq_true] at h
  have h := h i (List.mem_range.2 hi)
  rw [List.all_eq_true] at h
  have h := h j (List.mem_range.2 hj)
  rw [List.all_eq_true] at h
  have h := h _ (opRow_mem h1)
  rw [List.all_eq_true] at h
  have h := h _ (opRow_mem h2)
  simp at h
  exact h
theorem level_ex (s : ByteArray) : (∃ i, i < 9 ∧ s ∈ opRow i ∧ ∀ w, Calls Tryz.prog 13 #[.string s] w fun e w' => e = .returned (.int .i64 (i : Nat)) ∧ Below w.heap.size w w') ∨ ∀ w, Calls Tryz.prog 13 #[.string s] w fun e w' => e = .returned (.int .i64 (-1)) ∧ Below w.heap.size w w' := by
  by_cases h : ∃ i, i < 9 ∧ s ∈ opRow i
  · obtain ⟨i, hi, hs⟩ := h
    refine .inl ⟨i, hi, hs, fun w => (level_c s w).mono ?_⟩
    rintro e w' ⟨⟨j, k, hj, hk, rfl⟩ | ⟨hn, rfl⟩, hB⟩
    · rw [op_same hi hj hs (List.mem_of_getElem? hk)]
      exact ⟨rfl, hB⟩
    · exact absurd hs (hn i hi)
  · refine .inr fun w => (level_c s w).mono ?_
    rintro e w' ⟨⟨j, k, hj, hk, rfl⟩ | ⟨hn, rfl⟩, hB⟩
    · exact absurd ⟨j, hj, List.mem_of_getElem? hk⟩ h
    · exact ⟨rfl, hB⟩
theorem lv_at {i : Nat} {a : List UInt8} (hi : i < 9) (ha : a ∈ opT.getD i []) : lvAll i a = true ∧ a.length ≤ 3 := by
  have : i = 0 ∨ i = 1 ∨ i = 2 ∨ i = 3 ∨ i = 4 ∨ i = 5 ∨ i = 6 ∨ i = 7 ∨ i = 8 := by omega
  rcases this with rfl | rfl | rfl | rfl | rfl | rfl | rfl | rfl | rfl
  · have h : a ∈ [[111, 114]] := ha
    simp only [List.mem_cons, List.not_mem_nil, or_false] at h
    rcases h with rfl
    · exact ⟨lv_0_0, by decide⟩
  · have h : a ∈ [[97, 110, 100]] := ha
    simp only [List.mem_cons, List.not_mem_nil, or_false] at h
    rcases h with rfl
    · exact ⟨lv_1_0, by decide⟩
  · have h : a ∈ [[61, 61], [33, 61], [60], [60, 61], [62], [62, 61]] := ha
    simp only [List.mem_cons, List.not_mem_nil, or_false] at h
    rcases h with rfl | rfl | rfl | rfl | rfl | rfl
    · exact ⟨lv_2_0, by decide⟩
    · exact ⟨lv_2_1, by decide⟩
    · exact ⟨lv_2_2, by decide⟩
    · exact ⟨lv_2_3, by decide⟩
    · exact ⟨lv_2_4, by decide⟩
    · exact ⟨lv_2_5, by decide⟩
  · have h : a ∈ [[124]] := ha
    simp only [List.mem_cons, List.not_mem_nil, or_false] at h
    rcases h with rfl
    · exact ⟨lv_3_0, by decide⟩
  · have h : a ∈ [[94]] := ha
    simp only [List.mem_cons, List.not_mem_nil, or_false] at h
    rcases h with rfl
    · exact ⟨lv_4_0, by decide⟩
  · have h : a ∈ [[38]] := ha
    simp only [List.mem_cons, List.not_mem_nil, or_false] at h
    rcases h with rfl
    · exact ⟨lv_5_0, by decide⟩
  · have h : a ∈ [[60, 60], [62, 62]] := ha
    simp only [List.mem_cons, List.not_mem_nil, or_false] at h
    rcases h with rfl | rfl
    · exact ⟨lv_6_0, by decide⟩
    · exact ⟨lv_6_1, by decide⟩
  · have h : a ∈ [[43], [45]] := ha
    simp only [List.mem_cons, List.not_mem_nil, or_false] at h
    rcases h with rfl | rfl
    · exact ⟨lv_7_0, by decide⟩
    · exact ⟨lv_7_1, by decide⟩
  · have h : a ∈ [[42], [47], [47, 47], [37]] := ha
    simp only [List.mem_cons, List.not_mem_nil, or_false] at h
    rcases h with rfl | rfl | rfl | rfl
    · exact ⟨lv_8_0, by decide⟩
    · exact ⟨lv_8_1, by decide⟩
    · exact ⟨lv_8_2, by decide⟩
    · exact ⟨lv_8_3, by decide⟩
theorem lv_pair {i j : Nat} (hi : i < 9) (hj : j < 9) {one two : ByteArray} (h1 : one ∈ opRow i) (h2 : two ∈ opRow j) : lvB i j one.data.toList two.data.toList = true ∧ one.size ≤ 3 ∧ two.size ≤ 3 := by
  obtain ⟨ha, la⟩ := lv_at hi (opRow_mem h1)
  obtain ⟨_, lb⟩ := lv_at hj (opRow_mem h2)
  refine ⟨lvAll_at ha (r := opT.getD j []) ?_ (opRow_mem h2), by simpa using la, by simpa using lb⟩
  rw [List.getD_eq_getElem?_getD, List.getElem?_eq_getElem (show j < opT.length from hj)]
  rfl
/-- what a source that is right is read as -/
def PG (src : ByteArray) (L : List (Nd × Nat)) : Prop := ∀ w, Tabs w → MarksIn w → Calls Tryz.prog 8 #[.string src] w fun e w' => ∃ g cap, e = .returned (.tuple #[.slice (some ⟨g, 0, none⟩) L.length cap, .agg #[.int .i64 0, .int .i64 0]]) ∧ Below w.heap.size w w' ∧ g < w'.heap.size ∧ NR w' (.slice (some ⟨g, 0, none⟩) L.length cap) L
theorem pg_of (src : ByteArray) (hs : src.size ≤ 1000000) (l : List UInt8) (hl : src.data.toList = l) (f : Fo) (s' : Cs) (h : rdP l = some (.ok (f, s'))) (h0 : 0 < (rowF f).length) (h1 : (rowF f).length ≤ 1000) : PG src (rowF f) := by
  intro w ht hm
  refine (parse_good src hs w ht hm (fo := f) (s' := s') ⟨120, by rw [hl]; exact h⟩).mono ?_
  rintro e w' ⟨r, rfl, hB, ho⟩
  have hn := nr_of ho h0 (by omega)
  obtain ⟨g, cap, rfl, _⟩ := id hn
  exact ⟨g, cap, rfl, hB, (ho.lt g rfl).2, hn⟩
theorem pg_form : ∀ (n : Nat) (l : Fo) (s : Cs) (fo : Fo) (s' : Cs), P n (.pg l) s = some (.ok (fo, s')) → ∃ nd m, fo = Fo.one nd m
  | 0, l, s, fo, s', h => by cases h
  | n + 1, l, s, fo, s', h => by
    have h : (lookM.bind fun y => if y.t.kind = 7 then Pm.pure (Fo.one ⟨1, 0, ⟨#[]⟩, 0, 0⟩ l) else (P n (if fixedT y.t = k_let then .gl else .fu)).bind fun x => P n (.pg (l.app x))) s = some (.ok (fo, s')) := h
    rcases look_inv h with ⟨e, _, h1⟩ | ⟨y, _, h1⟩
    · cases h1
    · split at h1
      · have := pure_inv h1
        cases this
        exact ⟨_, _, rfl⟩
      · rcases bind_inv h1 with ⟨e, _, h2⟩ | ⟨x, s1, _, h2⟩
        · cases h2
        · exact pg_form n _ _ _ _ h2
theorem rd_pos {l : List UInt8} {f : Fo} {s' : Cs} (h : rdP l = some (.ok (f, s'))) : 0 < (rowF f).length := by
  obtain ⟨nd, m, rfl⟩ := pg_form 120 _ _ _ _ h
  simp [Fo.one, rowF]
/-- a row that was laid, with its block -/
def NX (W : World) (g n cap : Nat) (L : List (Nd × Nat)) : Prop := NR W (.slice (some ⟨g, 0, none⟩) n cap) L ∧ g < W.heap.size
theorem NX.below {W W' : World} {g n cap : Nat} {L : List (Nd × Nat)} (h : NX W g n cap L) (hB : Below W.heap.size W W') : NX W' g n cap L :=
  ⟨h.1.below hB (fun k e => by cases e; exact h.2), Nat.lt_of_lt_of_le h.2 hB.size⟩
theorem bare_x {W : World} {g n c g' n' c' : Nat} {L M : List (Nd × Nat)} (h : NX W g n c L) (h' : NX W g' n' c' M) {b : Bool} (hb : bareP L M = b) : Calls Tryz.prog 11 #[.slice (some ⟨g, 0, none⟩) n c, .slice (some ⟨g', 0, none⟩) n' c'] W fun e w' => e = .returned (.bool b) ∧ Below W.heap.size W w' := by
  have := bare_c W _ _ L M h.1 h'.1 (fun k e => by cases e; exact h.2) (fun k e => by cases e; exact h'.2)
  rwa [hb] at this
set_option maxRecDepth 100000 in
theorem levels_none (one two : ByteArray) (w : World) (h : (∀ w, Calls Tryz.prog 13 #[.string one] w fun e w' => e = .returned (.int .i64 (-1)) ∧ Below w.heap.size w w') ∨ ∀ w, Calls Tryz.prog 13 #[.string two] w fun e w' => e = .returned (.int .i64 (-1)) ∧ Below w.heap.size w w') : Calls Tryz.prog 5 #[.string one, .string two] w fun e w' => e = .returned (.bool true) ∧ Below w.heap.size w w' := by
  obtain ⟨b1, c1, k1⟩ : ∃ b : Int, (∀ w, Calls Tryz.prog 13 #[.string one] w fun e w' => e = .returned (.int .i64 b) ∧ Below w.heap.size w w') ∧ (b = -1 ∨ 0 ≤ b) := by
    rcases level_ex one with ⟨i, _, _, c⟩ | c
    · exact ⟨_, c, .inr (by omega)⟩
    · exact ⟨_, c, .inl rfl⟩
  rcases h with c1' | c2
  · obtain ⟨b2, c2⟩ : ∃ b : Int, ∀ w, Calls Tryz.prog 13 #[.string two] w fun e w' => e = .returned (.int .i64 b) ∧ Below w.heap.size w w' := by
      rcases level_ex two with ⟨i, _, _, c⟩ | c
      · exact ⟨_, c⟩
      · exact ⟨_, c⟩
    clear c1 k1
    have c1 := c1'
    clear c1'
    go_enter Tryz.func5, Tryz.ntmps5
    go_wp2_with (go_at_call 13; first | ((with_reducible refine (c1 _).mono ?_); rintro e w1 ⟨rfl, hB1⟩; (have HB1 := hid hB1); clear hB1 c1) | ((with_reducible refine (c2 _).mono ?_); rintro e w2 ⟨rfl, hB2⟩; (have HB2 := hid (HB1.out.trans (hB2.mono HB1.out.size))); clear hB2 c2))
    go_ret
    exact ⟨rfl, HB2.out⟩
  · rcases k1 with rfl | k1
    · go_enter Tryz.func5, Tryz.ntmps5
      go_wp2_with (go_at_call 13; first | ((with_reducible refine (c1 _).mono ?_); rintro e w1 ⟨rfl, hB1⟩; (have HB1 := hid hB1); clear hB1 c1) | ((with_reducible refine (c2 _).mono ?_); rintro e w2 ⟨rfl, hB2⟩; (have HB2 := hid (HB1.out.trans (hB2.mono HB1.out.size))); clear hB2 c2))
      go_ret
      exact ⟨rfl, HB2.out⟩
    · have k2 : ¬ b1 < 0 := by omega
      go_enter Tryz.func5, Tryz.ntmps5
      go_wp2_with (go_at_call 13; first | ((with_reducible refine (c1 _).mono ?_); rintro e w1 ⟨rfl, hB1⟩; (have HB1 := hid hB1); clear hB1 c1) | ((with_reducible refine (c2 _).mono ?_); rintro e w2 ⟨rfl, hB2⟩; (have HB2 := hid (HB1.out.trans (hB2.mono HB1.out.size))); clear hB2 c2))
      go_ret
      exact ⟨rfl, HB2.out⟩
theorem len5 {a b c d e : ByteArray} (ha : a.size ≤ 100) (hb : b.size ≤ 100) (hc : c.size ≤ 100) (hd : d.size ≤ 100) (he : e.size ≤ 100) : (a ++ b ++ c ++ d ++ e).size ≤ 1000000 := by
  simp only [ByteArray.size_append]
  omega
set_option maxRecDepth 100000 in
set_option maxHeartbeats 2000000 in
theorem levels_two (one two : ByteArray) (s1 : one.size ≤ 3) (s2 : two.size ≤ 3) (hE : lvE one.data.toList two.data.toList = true) (c1 : ∀ w, Calls Tryz.prog 13 #[.string one] w fun e w' => e = .returned (.int .i64 2) ∧ Below w.heap.size w w') (c2 : ∀ w, Calls Tryz.prog 13 #[.string two] w fun e w' => e = .returned (.int .i64 2) ∧ Below w.heap.size w w') (w : World) (ht : Tabs w) (hm : MarksIn w) : Calls Tryz.prog 5 #[.string one, .string two] w fun e w' => e = .returned (.bool true) ∧ Below w.heap.size w w' := by
  have hl1 : one.data.toList.length = one.size := by simp
  have p0 : ∀ w, Tabs w → MarksIn w → Calls Tryz.prog 8 #[.string (⟨#[102, 110, 32, 102, 40, 120, 44, 32, 121, 44, 32, 122, 41, 32, 123, 32, 114, 101, 116, 117, 114, 110, 32, 120, 32]⟩ ++ one ++ ⟨#[32, 121, 32]⟩ ++ two ++ ⟨#[32, 122, 59, 32, 125]⟩)] w fun e w' => e = .returned (.tuple #[.slice none 0 0, .agg #[.int .i64 70, .int .i64 (28 + (one.size : Nat))]]) ∧ Below w.heap.size w w' := by
    intro w ht hm
    unfold lvE at hE
    split at hE
    · rename_i e he
      simp only [Bool.and_eq_true, beq_iff_eq] at hE
      have := parse_bad (⟨#[102, 110, 32, 102, 40, 120, 44, 32, 121, 44, 32, 122, 41, 32, 123, 32, 114, 101, 116, 117, 114, 110, 32, 120, 32]⟩ ++ one ++ ⟨#[32, 121, 32]⟩ ++ two ++ ⟨#[32, 122, 59, 32, 125]⟩) (len5 (by decide) (by omega) (by decide) (by omega) (by decide)) w ht hm (f := e) ⟨120, by
        rw [← he]
        unfold rdP lvS0
        simp only [ByteArray.data_append, Array.toList_append]⟩
      unfold fv at this
      rw [hE.1, hE.2, hl1] at this
      rw [show ((28 + one.size : Nat) : Int) = 28 + (one.size : Nat) by omega] at this
      exact this
    · cases hE
  have z1 : ¬ 9223372036854775807 < 25 + one.size := by omega
  have z2 : ¬ 9223372036854775807 < 25 + one.size + 3 := by omega
  have z3 : ¬ 9223372036854775807 < 25 + one.size + 3 + two.size := by omega
  have z4 : ¬ 9223372036854775807 < 25 + one.size + 3 + two.size + 5 := by omega
  have y1 : ¬ 9223372036854775807 < 26 + one.size := by omega
  have y2 : ¬ 9223372036854775807 < 26 + one.size + 4 := by omega
  have y3 : ¬ 9223372036854775807 < 26 + one.size + 4 + two.size := by omega
  have y4 : ¬ 9223372036854775807 < 26 + one.size + 4 + two.size + 5 := by omega
  have x1 : ¬ 9223372036854775807 < 25 + one.size + 4 := by omega
  have x2 : ¬ 9223372036854775807 < 25 + one.size + 4 + two.size := by omega
  have x3 : ¬ 9223372036854775807 < 25 + one.size + 4 + two.size + 6 := by omega
  have j1 : IntKind.i64.wrap (25 + (one.size : Int)) = 25 + (one.size : Int) := by rw [IntKind.wrap_i64]; omega
  have j2 : IntKind.i64.wrap (25 + (one.size : Int) + 3) = 28 + (one.size : Int) := by rw [IntKind.wrap_i64]; omega
  have HT := hid ht
  have HM := hid hm
  clear ht hm hE hl1
  go_enter Tryz.func5, Tryz.ntmps5
  go_wp2_with (first | (go_at_call 13; first | ((with_reducible refine (c1 _).mono ?_); rintro e w1 ⟨rfl, hB1⟩; (have HB1 := hid hB1); clear hB1 c1) | ((with_reducible refine (c2 _).mono ?_); rintro e w2 ⟨rfl, hB2⟩; (have HB2 := hid (HB1.out.trans (hB2.mono HB1.out.size))); clear hB2 c2)) | (go_at_call 8; (with_reducible refine (p0 _ (HT.out.below HB2.out) (HM.out.below HB2.out)).mono ?_); rintro e w3 ⟨rfl, hB3⟩; (have h3 := HB2.out.trans (hB3.mono HB2.out.size)); (have HB3 := hid (h3.alloc h3.size (.cells #[.int .i64 70, .int .i64 (28 + (one.size : Nat))] 25))); clear hB3 h3 p0) | (go_at_call 9; (with_reducible refine (awake12_c _ (HT.out.below HB3.out) (HM.out.below HB3.out)).mono ?_); rintro e w6 ⟨rfl, hB6⟩; (have HB6 := hid (HB3.out.trans (hB6.mono HB3.out.size))); clear hB6))
  go_ret
  exact ⟨rfl, HB6.out⟩
set_option maxRecDepth 100000 in
set_option maxHeartbeats 4000000 in
theorem levels_geq (one two : ByteArray) (i j : Nat) (s1 : one.size ≤ 3) (s2 : two.size ≤ 3) (hno : (((i : Nat) : Int) == 2) = false ∨ (((i : Nat) : Int) == 2) = true ∧ (((j : Nat) : Int) == 2) = false) (hij : (j : Int) ≤ i) (L M K : List (Nd × Nat)) (p0 : PG (⟨#[102, 110, 32, 102, 40, 120, 44, 32, 121, 44, 32, 122, 41, 32, 123, 32, 114, 101, 116, 117, 114, 110, 32, 120, 32]⟩ ++ one ++ ⟨#[32, 121, 32]⟩ ++ two ++ ⟨#[32, 122, 59, 32, 125]⟩) L) (p1 : PG (⟨#[102, 110, 32, 102, 40, 120, 44, 32, 121, 44, 32, 122, 41, 32, 123, 32, 114, 101, 116, 117, 114, 110, 32, 40, 120, 32]⟩ ++ one ++ ⟨#[32, 121, 41, 32]⟩ ++ two ++ ⟨#[32, 122, 59, 32, 125]⟩) M) (p2 : PG (⟨#[102, 110, 32, 102, 40, 120, 44, 32, 121, 44, 32, 122, 41, 32, 123, 32, 114, 101, 116, 117, 114, 110, 32, 120, 32]⟩ ++ one ++ ⟨#[32, 40, 121, 32]⟩ ++ two ++ ⟨#[32, 122, 41, 59, 32, 125]⟩) K) (hL : bareP L M = true) (hR : bareP L K = false) (c1 : ∀ w, Calls Tryz.prog 13 #[.string one] w fun e w' => e = .returned (.int .i64 (i : Nat)) ∧ Below w.heap.size w w') (c2 : ∀ w, Calls Tryz.prog 13 #[.string two] w fun e w' => e = .returned (.int .i64 (j : Nat)) ∧ Below w.heap.size w w') (w : World) (ht : Tabs w) (hm : MarksIn w) : Calls Tryz.prog 5 #[.string one, .string two] w fun e w' => e = .returned (.bool true) ∧ Below w.heap.size w w' := by
  have z1 : ¬ 9223372036854775807 < 25 + one.size := by omega
  have z2 : ¬ 9223372036854775807 < 25 + one.size + 3 := by omega
  have z3 : ¬ 9223372036854775807 < 25 + one.size + 3 + two.size := by omega
  have z4 : ¬ 9223372036854775807 < 25 + one.size + 3 + two.size + 5 := by omega
  have y1 : ¬ 9223372036854775807 < 26 + one.size := by omega
  have y2 : ¬ 9223372036854775807 < 26 + one.size + 4 := by omega
  have y3 : ¬ 9223372036854775807 < 26 + one.size + 4 + two.size := by omega
  have y4 : ¬ 9223372036854775807 < 26 + one.size + 4 + two.size + 5 := by omega
  have x1 : ¬ 9223372036854775807 < 25 + one.size + 4 := by omega
  have x2 : ¬ 9223372036854775807 < 25 + one.size + 4 + two.size := by omega
  have x3 : ¬ 9223372036854775807 < 25 + one.size + 4 + two.size + 6 := by omega
  have j1 : ¬ ((i : Nat) : Int) < 0 := by omega
  have j2 : ¬ ((j : Nat) : Int) < 0 := by omega
  have j3 : ((i : Nat) : Int) ≥ (j : Nat) := by omega
  have HT := hid ht
  have HM := hid hm
  have HL := hid hL
  have HR := hid hR
  clear ht hm hL hR hij
  unfold PG at p0 p1 p2
  generalize L.length = nL at *
  generalize M.length = nM at *
  generalize K.length = nK at *
  rcases hno with k1 | ⟨k1, k2⟩
  all_goals
    go_enter Tryz.func5, Tryz.ntmps5
    go_wp2_with (first | (go_at_call 13; first | ((with_reducible refine (c1 _).mono ?_); rintro e w1 ⟨rfl, hB1⟩; (have HB1 := hid hB1); clear hB1 c1) | ((with_reducible refine (c2 _).mono ?_); rintro e w2 ⟨rfl, hB2⟩; (have HB2 := hid (HB1.out.trans (hB2.mono HB1.out.size))); clear hB2 c2)) | (go_at_call 8; (with_reducible refine (p0 _ (HT.out.below HB2.out) (HM.out.below HB2.out)).mono ?_); rintro e w3 ⟨g0, cap0, rfl, hB0, hg0, hn0⟩; (have b0 : Below w3.heap.size w3 (w3.alloc (.cells #[.int .i64 0, .int .i64 0] 25)) := (Below.refl _ w3).alloc (Nat.le_refl _) _); (have h0 := HB2.out.trans (hB0.mono HB2.out.size)); (have HP0 := hid (h0.trans (b0.mono h0.size))); (have HN0 := hid (NX.below (show NX w3 g0 _ cap0 _ from ⟨hn0, hg0⟩) b0)); (have HF0 := hid (World.alloc_heap_new w3 (.cells #[.int .i64 0, .int .i64 0] 25)));  clear hn0 hg0 h0 b0 p0 hB0) | (go_at_call 8; (with_reducible refine (p1 _ (HT.out.below HP0.out) (HM.out.below HP0.out)).mono ?_); rintro e w4 ⟨g1, cap1, rfl, hB1, hg1, hn1⟩; (have b1 : Below w4.heap.size w4 (w4.alloc (.cells #[.int .i64 0, .int .i64 0] 25)) := (Below.refl _ w4).alloc (Nat.le_refl _) _); (have h1 := HP0.out.trans (hB1.mono HP0.out.size)); (have HP1 := hid (h1.trans (b1.mono h1.size))); (have HN1 := hid (NX.below (show NX w4 g1 _ cap1 _ from ⟨hn1, hg1⟩) b1)); (have HF1 := hid (World.alloc_heap_new w4 (.cells #[.int .i64 0, .int .i64 0] 25))); (have HQ1 := hid (hB1.trans (b1.mono hB1.size))); clear hn1 hg1 h1 b1 p1 hB1) | (go_at_call 8; (with_reducible refine (p2 _ (HT.out.below HP1.out) (HM.out.below HP1.out)).mono ?_); rintro e w5 ⟨g2, cap2, rfl, hB2, hg2, hn2⟩; (have b2 : Below w5.heap.size w5 (w5.alloc (.cells #[.int .i64 0, .int .i64 0] 25)) := (Below.refl _ w5).alloc (Nat.le_refl _) _); (have h2 := HP1.out.trans (hB2.mono HP1.out.size)); (have HP2 := hid (h2.trans (b2.mono h2.size))); (have HN2 := hid (NX.below (show NX w5 g2 _ cap2 _ from ⟨hn2, hg2⟩) b2)); (have HF2 := hid (World.alloc_heap_new w5 (.cells #[.int .i64 0, .int .i64 0] 25))); (have HQ2 := hid (hB2.trans (b2.mono hB2.size))); (have f0 := row_keepX (row_keepX HF0.out HQ1.out) HQ2.out); (have f1 := row_keepX HF1.out HQ2.out); (have f2 := HF2.out); (have d0 := row_cellsX f0 0); (have d1 := row_cellsX f1 0); (have d2 := row_cellsX f2 0); simp only [List.getElem?_toArray, List.getElem?_cons_zero] at d0 d1 d2; (have n0 := (HN0.out.below HQ1.out).below HQ2.out); (have n1 := HN1.out.below HQ2.out); (have n2 := HN2.out); (have cL := fun w' hB => bare_x (W := w') (n0.below hB) (n1.below hB) HL.out); (have cR := fun w' hB => bare_x (W := w') (n0.below hB) (n2.below hB) HR.out); clear f0 f1 f2 n0 n1 n2; clear hn2 hg2 h2 b2 p2 hB2) | (go_at_call 11; first | ((with_reducible refine (cL _ (Below.refl _ _)).mono ?_); rintro e w6 ⟨rfl, hB6⟩; (have HB6 := hid hB6); clear cL hB6) | ((with_reducible refine (cR _ HB6.out).mono ?_); rintro e w7 ⟨rfl, hB7⟩; (have HB7 := hid (HB6.out.trans (hB7.mono HB6.out.size))); (have HB8 := hid (HP2.out.trans (HB7.out.mono HP2.out.size))); clear hB7 cR)) | (go_at_call 9; (with_reducible refine (awake12_c _ (HT.out.below HB8.out) (HM.out.below HB8.out)).mono ?_); rintro e w9 ⟨rfl, hB9⟩; (have HB9 := hid (HB8.out.trans (hB9.mono HB8.out.size))); clear hB9))
    go_ret
    exact ⟨rfl, HB9.out⟩
set_option maxRecDepth 100000 in
set_option maxHeartbeats 4000000 in
theorem levels_lt (one two : ByteArray) (i j : Nat) (s1 : one.size ≤ 3) (s2 : two.size ≤ 3) (hno : (((i : Nat) : Int) == 2) = false ∨ (((i : Nat) : Int) == 2) = true ∧ (((j : Nat) : Int) == 2) = false) (hij : ¬ (j : Int) ≤ i) (L M K : List (Nd × Nat)) (p0 : PG (⟨#[102, 110, 32, 102, 40, 120, 44, 32, 121, 44, 32, 122, 41, 32, 123, 32, 114, 101, 116, 117, 114, 110, 32, 120, 32]⟩ ++ one ++ ⟨#[32, 121, 32]⟩ ++ two ++ ⟨#[32, 122, 59, 32, 125]⟩) L) (p1 : PG (⟨#[102, 110, 32, 102, 40, 120, 44, 32, 121, 44, 32, 122, 41, 32, 123, 32, 114, 101, 116, 117, 114, 110, 32, 40, 120, 32]⟩ ++ one ++ ⟨#[32, 121, 41, 32]⟩ ++ two ++ ⟨#[32, 122, 59, 32, 125]⟩) M) (p2 : PG (⟨#[102, 110, 32, 102, 40, 120, 44, 32, 121, 44, 32, 122, 41, 32, 123, 32, 114, 101, 116, 117, 114, 110, 32, 120, 32]⟩ ++ one ++ ⟨#[32, 40, 121, 32]⟩ ++ two ++ ⟨#[32, 122, 41, 59, 32, 125]⟩) K) (hL : bareP L M = false) (hR : bareP L K = true) (c1 : ∀ w, Calls Tryz.prog 13 #[.string one] w fun e w' => e = .returned (.int .i64 (i : Nat)) ∧ Below w.heap.size w w') (c2 : ∀ w, Calls Tryz.prog 13 #[.string two] w fun e w' => e = .returned (.int .i64 (j : Nat)) ∧ Below w.heap.size w w') (w : World) (ht : Tabs w) (hm : MarksIn w) : Calls Tryz.prog 5 #[.string one, .string two] w fun e w' => e = .returned (.bool true) ∧ Below w.heap.size w w' := by
  have z1 : ¬ 9223372036854775807 < 25 + one.size := by omega
  have z2 : ¬ 9223372036854775807 < 25 + one.size + 3 := by omega
  have z3 : ¬ 9223372036854775807 < 25 + one.size + 3 + two.size := by omega
  have z4 : ¬ 9223372036854775807 < 25 + one.size + 3 + two.size + 5 := by omega
  have y1 : ¬ 9223372036854775807 < 26 + one.size := by omega
  have y2 : ¬ 9223372036854775807 < 26 + one.size + 4 := by omega
  have y3 : ¬ 9223372036854775807 < 26 + one.size + 4 + two.size := by omega
  have y4 : ¬ 9223372036854775807 < 26 + one.size + 4 + two.size + 5 := by omega
  have x1 : ¬ 9223372036854775807 < 25 + one.size + 4 := by omega
  have x2 : ¬ 9223372036854775807 < 25 + one.size + 4 + two.size := by omega
  have x3 : ¬ 9223372036854775807 < 25 + one.size + 4 + two.size + 6 := by omega
  have j1 : ¬ ((i : Nat) : Int) < 0 := by omega
  have j2 : ¬ ((j : Nat) : Int) < 0 := by omega
  have j3 : ¬ ((i : Nat) : Int) ≥ (j : Nat) := by omega
  have HT := hid ht
  have HM := hid hm
  have HL := hid hL
  have HR := hid hR
  clear ht hm hL hR hij
  unfold PG at p0 p1 p2
  generalize L.length = nL at *
  generalize M.length = nM at *
  generalize K.length = nK at *
  rcases hno with k1 | ⟨k1, k2⟩
  all_goals
    go_enter Tryz.func5, Tryz.ntmps5
    go_wp2_with (first | (go_at_call 13; first | ((with_reducible refine (c1 _).mono ?_); rintro e w1 ⟨rfl, hB1⟩; (have HB1 := hid hB1); clear hB1 c1) | ((with_reducible refine (c2 _).mono ?_); rintro e w2 ⟨rfl, hB2⟩; (have HB2 := hid (HB1.out.trans (hB2.mono HB1.out.size))); clear hB2 c2)) | (go_at_call 8; (with_reducible refine (p0 _ (HT.out.below HB2.out) (HM.out.below HB2.out)).mono ?_); rintro e w3 ⟨g0, cap0, rfl, hB0, hg0, hn0⟩; (have b0 : Below w3.heap.size w3 (w3.alloc (.cells #[.int .i64 0, .int .i64 0] 25)) := (Below.refl _ w3).alloc (Nat.le_refl _) _); (have h0 := HB2.out.trans (hB0.mono HB2.out.size)); (have HP0 := hid (h0.trans (b0.mono h0.size))); (have HN0 := hid (NX.below (show NX w3 g0 _ cap0 _ from ⟨hn0, hg0⟩) b0)); (have HF0 := hid (World.alloc_heap_new w3 (.cells #[.int .i64 0, .int .i64 0] 25)));  clear hn0 hg0 h0 b0 p0 hB0) | (go_at_call 8; (with_reducible refine (p1 _ (HT.out.below HP0.out) (HM.out.below HP0.out)).mono ?_); rintro e w4 ⟨g1, cap1, rfl, hB1, hg1, hn1⟩; (have b1 : Below w4.heap.size w4 (w4.alloc (.cells #[.int .i64 0, .int .i64 0] 25)) := (Below.refl _ w4).alloc (Nat.le_refl _) _); (have h1 := HP0.out.trans (hB1.mono HP0.out.size)); (have HP1 := hid (h1.trans (b1.mono h1.size))); (have HN1 := hid (NX.below (show NX w4 g1 _ cap1 _ from ⟨hn1, hg1⟩) b1)); (have HF1 := hid (World.alloc_heap_new w4 (.cells #[.int .i64 0, .int .i64 0] 25))); (have HQ1 := hid (hB1.trans (b1.mono hB1.size))); clear hn1 hg1 h1 b1 p1 hB1) | (go_at_call 8; (with_reducible refine (p2 _ (HT.out.below HP1.out) (HM.out.below HP1.out)).mono ?_); rintro e w5 ⟨g2, cap2, rfl, hB2, hg2, hn2⟩; (have b2 : Below w5.heap.size w5 (w5.alloc (.cells #[.int .i64 0, .int .i64 0] 25)) := (Below.refl _ w5).alloc (Nat.le_refl _) _); (have h2 := HP1.out.trans (hB2.mono HP1.out.size)); (have HP2 := hid (h2.trans (b2.mono h2.size))); (have HN2 := hid (NX.below (show NX w5 g2 _ cap2 _ from ⟨hn2, hg2⟩) b2)); (have HF2 := hid (World.alloc_heap_new w5 (.cells #[.int .i64 0, .int .i64 0] 25))); (have HQ2 := hid (hB2.trans (b2.mono hB2.size))); (have f0 := row_keepX (row_keepX HF0.out HQ1.out) HQ2.out); (have f1 := row_keepX HF1.out HQ2.out); (have f2 := HF2.out); (have d0 := row_cellsX f0 0); (have d1 := row_cellsX f1 0); (have d2 := row_cellsX f2 0); simp only [List.getElem?_toArray, List.getElem?_cons_zero] at d0 d1 d2; (have n0 := (HN0.out.below HQ1.out).below HQ2.out); (have n1 := HN1.out.below HQ2.out); (have n2 := HN2.out); (have cL := fun w' hB => bare_x (W := w') (n0.below hB) (n1.below hB) HL.out); (have cR := fun w' hB => bare_x (W := w') (n0.below hB) (n2.below hB) HR.out); clear f0 f1 f2 n0 n1 n2; clear hn2 hg2 h2 b2 p2 hB2) | (go_at_call 11; first | ((with_reducible refine (cR _ (Below.refl _ _)).mono ?_); rintro e w6 ⟨rfl, hB6⟩; (have HB6 := hid hB6); clear cR hB6) | ((with_reducible refine (cL _ HB6.out).mono ?_); rintro e w7 ⟨rfl, hB7⟩; (have HB7 := hid (HB6.out.trans (hB7.mono HB6.out.size))); (have HB8 := hid (HP2.out.trans (HB7.out.mono HP2.out.size))); clear hB7 cL)) | (go_at_call 9; (with_reducible refine (awake12_c _ (HT.out.below HB8.out) (HM.out.below HB8.out)).mono ?_); rintro e w9 ⟨rfl, hB9⟩; (have HB9 := hid (HB8.out.trans (hB9.mono HB8.out.size))); clear hB9))
    go_ret
    exact ⟨rfl, HB9.out⟩
theorem lv_rest {i j : Nat} {one two : ByteArray} (s1 : one.size ≤ 3) (s2 : two.size ≤ 3) (h : lvR i j one.data.toList two.data.toList = true) : ∃ L M K, PG (⟨#[102, 110, 32, 102, 40, 120, 44, 32, 121, 44, 32, 122, 41, 32, 123, 32, 114, 101, 116, 117, 114, 110, 32, 120, 32]⟩ ++ one ++ ⟨#[32, 121, 32]⟩ ++ two ++ ⟨#[32, 122, 59, 32, 125]⟩) L ∧ PG (⟨#[102, 110, 32, 102, 40, 120, 44, 32, 121, 44, 32, 122, 41, 32, 123, 32, 114, 101, 116, 117, 114, 110, 32, 40, 120, 32]⟩ ++ one ++ ⟨#[32, 121, 41, 32]⟩ ++ two ++ ⟨#[32, 122, 59, 32, 125]⟩) M ∧ PG (⟨#[102, 110, 32, 102, 40, 120, 44, 32, 121, 44, 32, 122, 41, 32, 123, 32, 114, 101, 116, 117, 114, 110, 32, 120, 32]⟩ ++ one ++ ⟨#[32, 40, 121, 32]⟩ ++ two ++ ⟨#[32, 122, 41, 59, 32, 125]⟩) K ∧ ((j ≤ i ∧ bareP L M = true ∧ bareP L K = false) ∨ (¬ j ≤ i ∧ bareP L M = false ∧ bareP L K = true)) := by
  unfold lvR at h
  split at h
  · rename_i f sf g sg k sk hf hg hk
    simp only [Bool.and_eq_true, Nat.ble_eq] at h
    obtain ⟨⟨⟨l1, l2⟩, l3⟩, h⟩ := h
    refine ⟨rowF f, rowF g, rowF k, pg_of _ (len5 (by decide) (by omega) (by decide) (by omega) (by decide)) (lvS0 one.data.toList two.data.toList) (by unfold lvS0; simp only [ByteArray.data_append, Array.toList_append]) f sf hf (rd_pos hf) l1, pg_of _ (len5 (by decide) (by omega) (by decide) (by omega) (by decide)) (lvS1 one.data.toList two.data.toList) (by unfold lvS1; simp only [ByteArray.data_append, Array.toList_append]) g sg hg (rd_pos hg) l2, pg_of _ (len5 (by decide) (by omega) (by decide) (by omega) (by decide)) (lvS2 one.data.toList two.data.toList) (by unfold lvS2; simp only [ByteArray.data_append, Array.toList_append]) k sk hk (rd_pos hk) l3, ?_⟩
    split at h
    · rename_i hij
      simp only [Bool.and_eq_true, Bool.not_eq_true'] at h
      exact .inl ⟨by simpa using hij, h.1, h.2⟩
    · rename_i hij
      simp only [Bool.and_eq_true, Bool.not_eq_true'] at h
      exact .inr ⟨by simpa using hij, h.2, h.1⟩
  · cases h
end Go.Proofs.YtfooijjfjmpigaaGreatDoor.W.Tr
namespace Go.Proofs.YtfooijjfjmpigaaGreatDoor.W
set_option linter.unusedVariables false
open Go.ChangeShapes Go.WideShapes Go.RowKit Go.Shelf
theorem treeLevels_walk (one two : ByteArray) (w0 : one.size ≤ maxLen) (w1 : two.size ≤ maxLen) (w : World) (ht : Tabs w) (hm : MarksIn w) : Calls Tryz.prog 5 #[.string one, .string two] w fun e w' => e = .returned (.bool true) ∧ Below w.heap.size w w' := by
  rcases Tr.level_ex one with ⟨i, hi, h1, c1⟩ | c1
  case inr => exact Tr.levels_none one two w (.inl c1)
  rcases Tr.level_ex two with ⟨j, hj, h2, c2⟩ | c2
  case inr => exact Tr.levels_none one two w (.inr c2)
  obtain ⟨hB, s1, s2⟩ := Tr.lv_pair hi hj h1 h2
  unfold Tr.lvB at hB
  split at hB
  · rename_i h22
    simp only [Bool.and_eq_true] at h22
    obtain rfl := Nat.eq_of_beq_eq_true h22.1
    obtain rfl := Nat.eq_of_beq_eq_true h22.2
    exact Tr.levels_two one two s1 s2 hB c1 c2 w ht hm
  · rename_i h22
    have hno : (((i : Nat) : Int) == 2) = false ∨ (((i : Nat) : Int) == 2) = true ∧ (((j : Nat) : Int) == 2) = false := by
      by_cases e1 : i = 2
      · by_cases e2 : j = 2
        · subst e1 e2; exact absurd rfl h22
        · exact .inr ⟨by rw [e1]; rfl, by have : ¬ ((j : Nat) : Int) = 2 := by omega
                                          simpa using this⟩
      · exact .inl (by have : ¬ ((i : Nat) : Int) = 2 := by omega
                       simpa using this)
    obtain ⟨L, M, K, p0, p1, p2, hR⟩ := Tr.lv_rest s1 s2 hB
    rcases hR with ⟨g, a, b⟩ | ⟨g, a, b⟩
    · exact Tr.levels_geq one two i j s1 s2 hno (by omega) L M K p0 p1 p2 a b c1 c2 w ht hm
    · exact Tr.levels_lt one two i j s1 s2 hno (by omega) L M K p0 p1 p2 a b c1 c2 w ht hm
end Go.Proofs.YtfooijjfjmpigaaGreatDoor.W
