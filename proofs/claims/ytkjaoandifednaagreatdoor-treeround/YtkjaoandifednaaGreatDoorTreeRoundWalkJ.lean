import Derived.Test.YtkjaoandifednaaGreatDoorKQ
import Derived.Test.YtkjaoandifednaaGreatDoorKS
import Derived.Test.YtkjaoandifednaaGreatDoorKI
import Derived.Test.YtkjaoandifednaaGreatDoorKG
namespace Go.Proofs.YtkjaoandifednaaGreatDoor.W.Tr
open Go.ChangeShapes Go.WideShapes Go.RowKit Go.Shelf
set_option linter.unusedVariables false
set_option linter.unusedSimpArgs false
def PaG (s:ByteArray) (L:List (Nd × Nat)):Prop:=∀ w,Tabs w→MarksIn w→Calls Tryz.prog 8 #[.string s] w fun e w'=>∃ g cap,e=.returned (.tuple #[.slice (some ⟨g,0,none⟩) L.length cap,.agg #[.int .i64 0,.int .i64 0]])∧Below w.heap.size w w'∧NR w' (.slice (some ⟨g,0,none⟩) L.length cap) L∧g < w'.heap.size
def PrG (t:ByteArray) (L:List (Nd × Nat)):Prop:=∀ w g cap,NR w (.slice (some ⟨g,0,none⟩) L.length cap) L→g < w.heap.size→Tabs w→MarksIn w→Calls Tryz.prog 10 #[.slice (some ⟨g,0,none⟩) L.length cap] w fun e w'=>e=.returned (.tuple #[.string t,.int .i64 0])∧Below w.heap.size w w'
def PaB (s:ByteArray) (x y:Int):Prop:=∀ w,Tabs w→MarksIn w→Calls Tryz.prog 8 #[.string s] w fun e w'=>e=.returned (.tuple #[.slice none 0 0,.agg #[.int .i64 x,.int .i64 y]])∧Below w.heap.size w w'
theorem nr_keep {w w':World} {g n cap:Nat} {L:List (Nd × Nat)} (h:NR w (.slice (some ⟨g,0,none⟩) n cap) L) (hB:Below w.heap.size w w') (hg:g < w.heap.size):NR w' (.slice (some ⟨g,0,none⟩) n cap) L:=h.below hB (fun k e=>by simp only [Value.ownBlock] at e;cases e;exact hg)
set_option maxRecDepth 100000 in
set_option maxHeartbeats 2000000 in
theorem round_bad (src:ByteArray) (hs:src.size≤6000) (x0 y0:Int) (h0:(x0 != 0)=true) (c0:PaB src x0 y0) (w:World) (ht:Tabs w) (hm:MarksIn w):Calls Tryz.prog 3 #[.string src] w fun e w'=>e=.returned (.bool true)∧Below w.heap.size w w':=by
 (have j1:¬ ((src.size:Nat):Int) > 6000:=by omega);(have HT:=hid ht);(have HM:=hid hm);(have d0:=c0 w ht hm);clear ht hm hs c0;go_enter Tryz.func3,Tryz.ntmps3
 go_wp2_with (first | (go_at_call 8;(with_reducible refine d0.mono ?_);rintro e w2 ⟨rfl,hB2⟩;(have b3:=hB2.alloc hB2.size (.cells #[.int .i64 x0,.int .i64 y0] 25));(have HB3:=hid b3);clear hB2 d0 b3) | (go_at_call 9;(with_reducible refine (awake12_c _ (HT.out.below HB3.out) (HM.out.below HB3.out)).mono ?_);rintro e w6 ⟨rfl,hB6⟩;(have HB6:=hid (HB3.out.trans (hB6.mono HB3.out.size)));clear hB6))
 go_ret
 exact ⟨rfl,HB6.out⟩
set_option maxRecDepth 100000 in
set_option maxHeartbeats 2000000 in
theorem round_deep (src t:ByteArray) (hs:src.size≤6000) (L:List (Nd × Nat)) (x2 y2:Int) (h2:(x2 == 71)=true∨(x2 == 71)=false∧(x2 == 2)=true) (h3:(x2 != 0)=true) (c0:PaG src L) (c1:PrG t L) (c2:PaB t x2 y2) (w:World) (ht:Tabs w) (hm:MarksIn w):Calls Tryz.prog 3 #[.string src] w fun e w'=>e=.returned (.bool true)∧Below w.heap.size w w':=by
 (have j1:¬ ((src.size:Nat):Int) > 6000:=by omega);(have HT:=hid ht);(have HM:=hid hm);(have d0:=c0 w ht hm);clear ht hm hs c0;go_enter Tryz.func3,Tryz.ntmps3;go_upto_region 6 with (go_at_call 8;(with_reducible refine d0.mono ?_);rintro e w2 ⟨g,cap,rfl,hB2,hN2,hg2⟩;(have HB2:=hid hB2);clear hB2 d0);(have b3:=HB2.out.alloc (HB2.out.size) (.cells #[.int .i64 0,.int .i64 0] 25));(have hN3:=nr_keep hN2 ((Below.refl w2.heap.size w2).alloc (Nat.le_refl _) (.cells #[.int .i64 0,.int .i64 0] 25)) hg2);(have hg3:g < (w2.alloc (.cells #[.int .i64 0,.int .i64 0] 25)).heap.size:=by simp;omega);(have HB3:=hid b3);generalize hW3:World.alloc w2 _=W3 at *;(have d1:=c1 W3 g cap hN3 hg3 (HT.out.below b3) (HM.out.below b3));(have HN3:=hid hN3);(have HG3:=hid hg3);clear hW3 b3 hN2 hg2 HB2 c1 hN3 hg3;go_upto_region 9 with (go_at_call 10;(with_reducible refine d1.mono ?_);rintro e w4 ⟨rfl,hB4⟩;(have b4:=HB3.out.trans (hB4.mono HB3.out.size));(have HN4:=hid (nr_keep HN3.out hB4 HG3.out));(have HG4:=hid (Nat.lt_of_lt_of_le HG3.out hB4.size));(have HB4:=hid b4);(have d2:=c2 w4 (HT.out.below b4) (HM.out.below b4));clear hB4 d1 b4 HN3 HG3 HB3 c2)
 rcases h2 with q1 | ⟨q1,q2⟩
 all_goals (
  go_wp2_with (first | (go_at_call 8;(with_reducible refine d2.mono ?_);rintro e w5 ⟨rfl,hB5⟩;(have b5:=HB4.out.trans (hB5.mono HB4.out.size));(have b6:=b5.alloc b5.size (.cells #[.int .i64 x2,.int .i64 y2] 25));(have HB6:=hid b6);clear hB5 d2 b5 b6) | (go_at_call 9;(with_reducible refine (awake12_c _ (HT.out.below HB6.out) (HM.out.below HB6.out)).mono ?_);rintro e w7 ⟨rfl,hB7⟩;(have HB7:=hid (HB6.out.trans (hB7.mono HB6.out.size)));clear hB7))
  go_ret
  exact ⟨rfl,HB7.out⟩)
set_option maxRecDepth 100000 in
set_option maxHeartbeats 2000000 in
theorem round_good (src t:ByteArray) (hs:src.size≤6000) (L M:List (Nd × Nat)) (hb:bareP L M=true) (c0:PaG src L) (c1:PrG t L) (c2:PaG t M) (c3:PrG t M) (w:World) (ht:Tabs w) (hm:MarksIn w):Calls Tryz.prog 3 #[.string src] w fun e w'=>e=.returned (.bool true)∧Below w.heap.size w w':=by
 (have j1:¬ ((src.size:Nat):Int) > 6000:=by omega);(have HT:=hid ht);(have HM:=hid hm);(have d0:=c0 w ht hm);clear ht hm hs c0;go_enter Tryz.func3,Tryz.ntmps3;go_upto_region 6 with (go_at_call 8;(with_reducible refine d0.mono ?_);rintro e w2 ⟨g,cap,rfl,hB2,hN2,hg2⟩;(have HB2:=hid hB2);clear hB2 d0);(have b3:=HB2.out.alloc (HB2.out.size) (.cells #[.int .i64 0,.int .i64 0] 25));(have hN3:=nr_keep hN2 ((Below.refl w2.heap.size w2).alloc (Nat.le_refl _) (.cells #[.int .i64 0,.int .i64 0] 25)) hg2);(have hg3:g < (w2.alloc (.cells #[.int .i64 0,.int .i64 0] 25)).heap.size:=by simp;omega);(have HB3:=hid b3);generalize hW3:World.alloc w2 _=W3 at *;(have d1:=c1 W3 g cap hN3 hg3 (HT.out.below b3) (HM.out.below b3));(have HN3:=hid hN3);(have HG3:=hid hg3);clear hW3 b3 hN2 hg2 HB2 c1 hN3 hg3;go_upto_region 9 with (go_at_call 10;(with_reducible refine d1.mono ?_);rintro e w4 ⟨rfl,hB4⟩;(have b4:=HB3.out.trans (hB4.mono HB3.out.size));(have HN4:=hid (nr_keep HN3.out hB4 HG3.out));(have HG4:=hid (Nat.lt_of_lt_of_le HG3.out hB4.size));(have HB4:=hid b4);(have d2:=c2 w4 (HT.out.below b4) (HM.out.below b4));clear hB4 d1 b4 HN3 HG3 HB3 c2)
 go_upto_region 12 with (go_at_call 8;(with_reducible refine d2.mono ?_);rintro e w5 ⟨g2,cap2,rfl,hB5,hN5,hg5⟩;(have HB5:=hid (HB4.out.trans (hB5.mono HB4.out.size)));(have HN5:=hid (nr_keep HN4.out hB5 HG4.out));(have HG5:=hid (Nat.lt_of_lt_of_le HG4.out hB5.size));(have HM5:=hid hN5);(have HH5:=hid hg5);clear hB5 d2 HN4 HG4 HB4 hN5 hg5)
 have ba:=(Below.refl w5.heap.size w5).alloc (Nat.le_refl _) (.cells #[.int .i64 0,.int .i64 0] 25)
 have b6:=HB5.out.trans (ba.mono HB5.out.size)
 have n6:=nr_keep HN5.out ba HG5.out
 have m6:=nr_keep HM5.out ba HH5.out
 have hg6:=Nat.lt_of_lt_of_le HG5.out ba.size
 have hh6:=Nat.lt_of_lt_of_le HH5.out ba.size
 generalize hW6:World.alloc w5 _=W6 at *
 have d3:=c3 W6 g2 cap2 m6 hh6 (HT.out.below b6) (HM.out.below b6)
 have HB6:=hid b6
 have HN6:=hid n6
 have HM6:=hid m6
 have HG6:=hid hg6
 have HH6:=hid hh6
 clear hW6 ba b6 n6 m6 hg6 hh6 HB5 HN5 HM5 HG5 HH5 c3
 go_upto_region 13 with (go_at_call 10;(with_reducible refine d3.mono ?_);rintro e w7 ⟨rfl,hB7⟩;(have HB7:=hid (HB6.out.trans (hB7.mono HB6.out.size)));(have d4:=bare_c w7 _ _ L M (nr_keep HN6.out hB7 HG6.out) (nr_keep HM6.out hB7 HH6.out) (fun k e=>by simp only [Value.ownBlock] at e;cases e;exact Nat.lt_of_lt_of_le HG6.out hB7.size) (fun k e=>by simp only [Value.ownBlock] at e;cases e;exact Nat.lt_of_lt_of_le HH6.out hB7.size));clear hB7 d3 HB6 HN6 HM6 HG6 HH6)
 rw [hb] at d4
 go_wp2_with (first | (go_at_call 11;(with_reducible refine d4.mono ?_);rintro e w8 ⟨rfl,hB8⟩;(have HB8:=hid (HB7.out.trans (hB8.mono HB7.out.size)));clear hB8 d4) | (go_at_call 9;(with_reducible refine (awake12_c _ (HT.out.below HB8.out) (HM.out.below HB8.out)).mono ?_);rintro e w9 ⟨rfl,hB9⟩;(have HB9:=hid (HB8.out.trans (hB9.mono HB8.out.size)));clear hB9))
 go_ret
 exact ⟨rfl,HB9.out⟩
set_option maxRecDepth 100000 in
theorem round_long (src:ByteArray) (hs:6000 < src.size) (w:World):Calls Tryz.prog 3 #[.string src] w fun e w'=>e=.returned (.bool true)∧Below w.heap.size w w':=by
 have j1:((src.size:Nat):Int) > 6000:=by omega
 clear hs
 go_enter Tryz.func3,Tryz.ntmps3
 go_wp2
 go_ret
 exact ⟨rfl,Below.refl _ _⟩
theorem pag {s:ByteArray} (hs:s.size≤1000000) {fo:Fo} {s':Cs} (h:Ends s.data.toList (.ok (fo,s'))):PaG s (rowF fo):=by
 intro w hT hM
 have hfew:=h.few
 obtain ⟨nd,md,hf⟩:∃ nd m,fo=Fo.one nd m:=by obtain ⟨n,h⟩:=h;exact pg_form' n _ _ _ _ h
 have hpos:0 < (rowF fo).length:=by rw [hf];simp [Fo.one,rowF]
 refine (parse_good s hs w hT hM h).mono ?_
 rintro e w' ⟨r,rfl,hB,ho⟩
 have hnr:=nr_of ho hpos (by omega)
 obtain ⟨g,cap,rfl,_⟩:=id hnr
 exact ⟨g,cap,rfl,hB,hnr,(ho.lt g rfl).2⟩
theorem prg {L:List (Nd × Nat)} {res:List UInt8} {fuel:Nat} (h1:isT L=true) (h2:∀ p ∈ L,NdOk p∧0≤p.1.bits∧p.1.bits < 18446744073709551616) (h3:prF (tkN flP) L fuel [tK] 0 []=some res):PrG ⟨res.toArray⟩ L:=fun w g cap hN hg hT hM=>print_all w _ L hN (fun k e=>by simp only [Value.ownBlock] at e;cases e;exact hg) h1 h2 fuel res h3 hT hM
end Go.Proofs.YtkjaoandifednaaGreatDoor.W.Tr
namespace Go.Proofs.YtkjaoandifednaaGreatDoor.W
set_option linter.unusedVariables false
open Go.ChangeShapes Go.WideShapes Go.RowKit Go.Shelf
theorem treeRound_walk (src:ByteArray) (w0:src.size≤maxLen) (w:World) (ht:Tabs w) (hm:MarksIn w):Calls Tryz.prog 3 #[.string src] w fun e w'=>e=.returned (.bool true)∧Below w.heap.size w w':=by
 by_cases h:6000 < src.size
 ·exact Tr.round_long src h w
 have hs:src.size≤6000:=by omega
 have sl:=size_list src
 obtain ⟨r,hr⟩:=Tr.ends src.data.toList
 cases r with
 | error f=>
  have hc:=Tr.ends_code hr
  exact Tr.round_bad src hs f.1 f.2 (by simpa using hc) (fun w hT hM=>Tr.parse_bad src (by omega) w hT hM hr) w ht hm
 | ok p=>
  obtain ⟨fo,s'⟩:=p
  have c0:=Tr.pag (s:=src) (by omega) hr
  obtain ⟨u,hu,h1,h2,⟨fuel,h3⟩,hlen,hcase⟩:=Tr.round_plain _ (by rw [sl];exact hs) hr
  have c1:=Tr.prg h1 h2 h3
  have hz:(⟨(Tr.textF u).toArray⟩:ByteArray).size≤1000000:=hlen
  rcases hcase with ⟨fo2,s2,hE,hb⟩ | ⟨f,hE,hf⟩
  ·obtain ⟨k1,k2,k3,k4,k5⟩:=Tr.like_bare hb h1 h2 h3
   exact Tr.round_good src _ hs _ _ k4 c0 c1 (Tr.pag hz hE) (Tr.prg k1 k2 k3) w ht hm
  ·refine Tr.round_deep src _ hs _ f.1 f.2 ?_ ?_ c0 c1 (fun w hT hM=>Tr.parse_bad _ hz w hT hM hE) w ht hm
   ·rcases hf with e | e
    ·exact .inl (by rw [e];rfl)
    ·exact .inr ⟨by rw [e];rfl,by rw [e];rfl⟩
   ·rcases hf with e | e <;> rw [e] <;> rfl
end Go.Proofs.YtkjaoandifednaaGreatDoor.W
