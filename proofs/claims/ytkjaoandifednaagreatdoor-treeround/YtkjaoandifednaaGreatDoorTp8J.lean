import Derived.Test.YtkjaoandifednaaGreatDoorJI
import Derived.Test.YtkjaoandifednaaGreatDoorKB
import Derived.Test.YtkjaoandifednaaGreatDoorJD
namespace Go.Proofs.YtkjaoandifednaaGreatDoor.W.Tr
open Go.ChangeShapes Go.WideShapes Go.RowKit Go.Shelf
set_option linter.unusedVariables false
set_option linter.unusedSimpArgs false
def comT (n:Nat):List ByteArray:=if n=0 then [] else repT (n - 1) [tK,⟨#[44]⟩] ++ [tK]
theorem comT_len (n:Nat):(comT n).length≤2 * n:=by
 unfold comT
 split
 ·simp
 ·rw [List.length_append,repT_len];simp;omega
def tokP (k:Int) (c:Nat) (t x:ByteArray):List ByteArray:=
 if k=1 then repT c [tK] else
 if k=3 then [⟨#[102,110]⟩,t,⟨#[40]⟩] ++ comT (c - 1) ++ [⟨#[41]⟩,tK] else
 if k=5 then [⟨#[123]⟩] ++ repT c [tK] ++ [⟨#[125]⟩] else
 if k=9 then (if c=2 then [⟨#[105,102]⟩,tK,tK] else [⟨#[105,102]⟩,tK,tK,⟨#[101,108,115,101]⟩,tK]) else
 if k=10 then (if t.toList == [] then [⟨#[119,104,105,108,101]⟩,tK,tK] else [t,⟨#[58]⟩,⟨#[119,104,105,108,101]⟩,tK,tK]) else
 if k=11 then repT (c - 3) [tK] ++ [⟨#[102,111,114]⟩,t,⟨#[105,110]⟩,tK,⟨#[46,46]⟩,tK,tK] else
 if k=13 then (if t.toList == [] then [⟨#[98,114,101,97,107]⟩,⟨#[59]⟩] else [⟨#[98,114,101,97,107]⟩,t,⟨#[59]⟩]) else
 if k=14 then (if t.toList == [] then [⟨#[99,111,110,116,105,110,117,101]⟩,⟨#[59]⟩] else [⟨#[99,111,110,116,105,110,117,101]⟩,t,⟨#[59]⟩]) else
 if k=15 then [⟨#[114,101,116,117,114,110]⟩] ++ repT c [tK] ++ [⟨#[59]⟩] else
 if k=23 then [t,⟨#[40]⟩] ++ comT c ++ [⟨#[41]⟩] else
 if k=26 then [x] else if k=27 then [x] else if k=28 then [x] else
 if k=2 then [⟨#[108,101,116]⟩,t,⟨#[59]⟩] else
 if k=4 then [t] else
 if k=25 then [t] else
 if k=12 then [t,⟨#[58]⟩] else
 if k=6 then [⟨#[108,101,116]⟩,t,⟨#[61]⟩,tK,⟨#[59]⟩] else
 if k=7 then [t,⟨#[61]⟩,tK,⟨#[59]⟩] else
 if k=8 then [tK,⟨#[91]⟩,tK,⟨#[93]⟩,⟨#[61]⟩,tK,⟨#[59]⟩] else
 if k=16 then [⟨#[111,117,116]⟩,tK,⟨#[59]⟩] else
 if k=17 then [tK,⟨#[59]⟩] else
 if k=18 then [⟨#[40]⟩,tK,⟨#[111,114]⟩,tK,⟨#[41]⟩] else
 if k=19 then [⟨#[40]⟩,tK,⟨#[97,110,100]⟩,tK,⟨#[41]⟩] else
 if k=20 then [⟨#[40]⟩,⟨#[110,111,116]⟩,tK,⟨#[41]⟩] else
 if k=21 then [⟨#[40]⟩,tK,t,tK,⟨#[41]⟩] else
 if k=22 then [⟨#[40]⟩,t,tK,⟨#[41]⟩] else
 if k=24 then [tK,⟨#[91]⟩,tK,⟨#[93]⟩] else
 if k=29 then [⟨#[116,114,117,101]⟩] else
 if k=30 then [⟨#[102,97,108,115,101]⟩] else
 [⟨#[110,105,108]⟩]
theorem lit2 (w:World) (ob:Obj) (l:List Value) (ts:List ByteArray) (hl:l=ts.map Value.string) (h0:ts.length≤4000000):OS ((w.alloc ob).alloc (.cells l.toArray 9)) w.heap.size (.slice (some ⟨w.heap.size + 1,0,none⟩) ts.length ts.length) ts:=by
 have h:=World.alloc_heap_new (w.alloc ob) (.cells l.toArray 9)
 rw [World.size_alloc] at h
 exact os_lit hl h (by omega) h0
theorem lit2B (w:World) (ob o2:Obj):Below w.heap.size w ((w.alloc ob).alloc o2):=((Below.refl _ w).alloc (Nat.le_refl _) _).alloc (by simp) _
theorem lit1 (w:World) (l:List Value) (ts:List ByteArray) (hl:l=ts.map Value.string) (h0:ts.length≤4000000):OS (w.alloc (.cells l.toArray 9)) w.heap.size (.slice (some ⟨w.heap.size,0,none⟩) ts.length ts.length) ts:=
 os_lit hl (World.alloc_heap_new w _) (Nat.le_refl _) h0
def TK (f:Nat) (args:Array Value) (ts:List ByteArray) (w:World):Prop:=Calls Tryz.prog f args w fun e w'=>∃ v,e=.returned v∧Below w.heap.size w w'∧OS w' w.heap.size v ts
section
variable (a:Int) (c:Nat) (t:ByteArray) (i b:Int) (w:World)
theorem st_6:TK 62 #[nodV 6 a c t i b] [⟨#[108,101,116]⟩,t,⟨#[61]⟩,tK,⟨#[59]⟩] w:=by
 unfold TK nodV
 go_enter Tryz.func62,Tryz.ntmps62
 go_wp2_with fail
 go_ret
 exact ⟨_,rfl,lit2B w _ _,lit2 w _ [.string ⟨#[108,101,116]⟩,.string t,.string ⟨#[61]⟩,.string ⟨#[]⟩,.string ⟨#[59]⟩] [⟨#[108,101,116]⟩,t,⟨#[61]⟩,tK,⟨#[59]⟩] rfl (by simp)⟩
theorem st_7:TK 62 #[nodV 7 a c t i b] [t,⟨#[61]⟩,tK,⟨#[59]⟩] w:=by
 unfold TK nodV
 go_enter Tryz.func62,Tryz.ntmps62
 go_wp2_with fail
 go_ret
 exact ⟨_,rfl,lit2B w _ _,lit2 w _ [.string t,.string ⟨#[61]⟩,.string ⟨#[]⟩,.string ⟨#[59]⟩] [t,⟨#[61]⟩,tK,⟨#[59]⟩] rfl (by simp)⟩
theorem st_8:TK 62 #[nodV 8 a c t i b] [tK,⟨#[91]⟩,tK,⟨#[93]⟩,⟨#[61]⟩,tK,⟨#[59]⟩] w:=by
 unfold TK nodV
 go_enter Tryz.func62,Tryz.ntmps62
 go_wp2_with fail
 go_ret
 exact ⟨_,rfl,lit2B w _ _,lit2 w _ [.string ⟨#[]⟩,.string ⟨#[91]⟩,.string ⟨#[]⟩,.string ⟨#[93]⟩,.string ⟨#[61]⟩,.string ⟨#[]⟩,.string ⟨#[59]⟩] [tK,⟨#[91]⟩,tK,⟨#[93]⟩,⟨#[61]⟩,tK,⟨#[59]⟩] rfl (by simp)⟩
theorem st_16:TK 62 #[nodV 16 a c t i b] [⟨#[111,117,116]⟩,tK,⟨#[59]⟩] w:=by
 unfold TK nodV
 go_enter Tryz.func62,Tryz.ntmps62
 go_wp2_with fail
 go_ret
 exact ⟨_,rfl,lit2B w _ _,lit2 w _ [.string ⟨#[111,117,116]⟩,.string ⟨#[]⟩,.string ⟨#[59]⟩] [⟨#[111,117,116]⟩,tK,⟨#[59]⟩] rfl (by simp)⟩
theorem st_17:TK 62 #[nodV 17 a c t i b] [tK,⟨#[59]⟩] w:=by
 unfold TK nodV
 go_enter Tryz.func62,Tryz.ntmps62
 go_wp2_with fail
 go_ret
 exact ⟨_,rfl,lit2B w _ _,lit2 w _ [.string ⟨#[]⟩,.string ⟨#[59]⟩] [tK,⟨#[59]⟩] rfl (by simp)⟩
theorem ex_18:TK 63 #[nodV 18 a c t i b] [⟨#[40]⟩,tK,⟨#[111,114]⟩,tK,⟨#[41]⟩] w:=by
 unfold TK nodV
 go_enter Tryz.func63,Tryz.ntmps63
 go_wp2_with fail
 go_ret
 exact ⟨_,rfl,lit2B w _ _,lit2 w _ [.string ⟨#[40]⟩,.string ⟨#[]⟩,.string ⟨#[111,114]⟩,.string ⟨#[]⟩,.string ⟨#[41]⟩] [⟨#[40]⟩,tK,⟨#[111,114]⟩,tK,⟨#[41]⟩] rfl (by simp)⟩
theorem ex_19:TK 63 #[nodV 19 a c t i b] [⟨#[40]⟩,tK,⟨#[97,110,100]⟩,tK,⟨#[41]⟩] w:=by
 unfold TK nodV
 go_enter Tryz.func63,Tryz.ntmps63
 go_wp2_with fail
 go_ret
 exact ⟨_,rfl,lit2B w _ _,lit2 w _ [.string ⟨#[40]⟩,.string ⟨#[]⟩,.string ⟨#[97,110,100]⟩,.string ⟨#[]⟩,.string ⟨#[41]⟩] [⟨#[40]⟩,tK,⟨#[97,110,100]⟩,tK,⟨#[41]⟩] rfl (by simp)⟩
theorem ex_20:TK 63 #[nodV 20 a c t i b] [⟨#[40]⟩,⟨#[110,111,116]⟩,tK,⟨#[41]⟩] w:=by
 unfold TK nodV
 go_enter Tryz.func63,Tryz.ntmps63
 go_wp2_with fail
 go_ret
 exact ⟨_,rfl,lit2B w _ _,lit2 w _ [.string ⟨#[40]⟩,.string ⟨#[110,111,116]⟩,.string ⟨#[]⟩,.string ⟨#[41]⟩] [⟨#[40]⟩,⟨#[110,111,116]⟩,tK,⟨#[41]⟩] rfl (by simp)⟩
theorem ex_21:TK 63 #[nodV 21 a c t i b] [⟨#[40]⟩,tK,t,tK,⟨#[41]⟩] w:=by
 unfold TK nodV
 go_enter Tryz.func63,Tryz.ntmps63
 go_wp2_with fail
 go_ret
 exact ⟨_,rfl,lit2B w _ _,lit2 w _ [.string ⟨#[40]⟩,.string ⟨#[]⟩,.string t,.string ⟨#[]⟩,.string ⟨#[41]⟩] [⟨#[40]⟩,tK,t,tK,⟨#[41]⟩] rfl (by simp)⟩
theorem ex_22:TK 63 #[nodV 22 a c t i b] [⟨#[40]⟩,t,tK,⟨#[41]⟩] w:=by
 unfold TK nodV
 go_enter Tryz.func63,Tryz.ntmps63
 go_wp2_with fail
 go_ret
 exact ⟨_,rfl,lit2B w _ _,lit2 w _ [.string ⟨#[40]⟩,.string t,.string ⟨#[]⟩,.string ⟨#[41]⟩] [⟨#[40]⟩,t,tK,⟨#[41]⟩] rfl (by simp)⟩
theorem ex_24:TK 63 #[nodV 24 a c t i b] [tK,⟨#[91]⟩,tK,⟨#[93]⟩] w:=by
 unfold TK nodV
 go_enter Tryz.func63,Tryz.ntmps63
 go_wp2_with fail
 go_ret
 exact ⟨_,rfl,lit2B w _ _,lit2 w _ [.string ⟨#[]⟩,.string ⟨#[91]⟩,.string ⟨#[]⟩,.string ⟨#[93]⟩] [tK,⟨#[91]⟩,tK,⟨#[93]⟩] rfl (by simp)⟩
theorem ex_29:TK 63 #[nodV 29 a c t i b] [⟨#[116,114,117,101]⟩] w:=by
 unfold TK nodV
 go_enter Tryz.func63,Tryz.ntmps63
 go_wp2_with fail
 go_ret
 exact ⟨_,rfl,lit2B w _ _,lit2 w _ [.string ⟨#[116,114,117,101]⟩] [⟨#[116,114,117,101]⟩] rfl (by simp)⟩
theorem ex_30:TK 63 #[nodV 30 a c t i b] [⟨#[102,97,108,115,101]⟩] w:=by
 unfold TK nodV
 go_enter Tryz.func63,Tryz.ntmps63
 go_wp2_with fail
 go_ret
 exact ⟨_,rfl,lit2B w _ _,lit2 w _ [.string ⟨#[102,97,108,115,101]⟩] [⟨#[102,97,108,115,101]⟩] rfl (by simp)⟩
theorem ex_31:TK 63 #[nodV 31 a c t i b] [⟨#[110,105,108]⟩] w:=by
 unfold TK nodV
 go_enter Tryz.func63,Tryz.ntmps63
 go_wp2_with fail
 go_ret
 exact ⟨_,rfl,lit2B w _ _,lit2 w _ [.string ⟨#[110,105,108]⟩] [⟨#[110,105,108]⟩] rfl (by simp)⟩
theorem tk_2:TK 35 #[nodV 2 a c t i b] [⟨#[108,101,116]⟩,t,⟨#[59]⟩] w:=by
 unfold TK nodV
 go_enter Tryz.func35,Tryz.ntmps35
 go_wp2_with fail
 go_ret
 exact ⟨_,rfl,lit2B w _ _,lit2 w _ [.string ⟨#[108,101,116]⟩,.string t,.string ⟨#[59]⟩] [⟨#[108,101,116]⟩,t,⟨#[59]⟩] rfl (by simp)⟩
theorem tk_4:TK 35 #[nodV 4 a c t i b] [t] w:=by
 unfold TK nodV
 go_enter Tryz.func35,Tryz.ntmps35
 go_wp2_with fail
 go_ret
 exact ⟨_,rfl,lit2B w _ _,lit2 w _ [.string t] [t] rfl (by simp)⟩
theorem tk_25:TK 35 #[nodV 25 a c t i b] [t] w:=by
 unfold TK nodV
 go_enter Tryz.func35,Tryz.ntmps35
 go_wp2_with fail
 go_ret
 exact ⟨_,rfl,lit2B w _ _,lit2 w _ [.string t] [t] rfl (by simp)⟩
theorem tk_12:TK 35 #[nodV 12 a c t i b] [t,⟨#[58]⟩] w:=by
 unfold TK nodV
 go_enter Tryz.func35,Tryz.ntmps35
 go_wp2_with fail
 go_ret
 exact ⟨_,rfl,lit2B w _ _,lit2 w _ [.string t,.string ⟨#[58]⟩] [t,⟨#[58]⟩] rfl (by simp)⟩
theorem ofIf_c:TK 79 #[nodV 9 a c t i b] (if c=2 then [⟨#[105,102]⟩,tK,tK] else [⟨#[105,102]⟩,tK,tK,⟨#[101,108,115,101]⟩,tK]) w:=by
 unfold TK nodV
 by_cases h:c=2
 ·subst h
  rw [if_pos rfl]
  go_enter Tryz.func79,Tryz.ntmps79
  go_wp2_with fail
  go_ret
  exact ⟨_,rfl,lit2B w _ _,lit2 w _ [.string ⟨#[105,102]⟩,.string ⟨#[]⟩,.string ⟨#[]⟩] [⟨#[105,102]⟩,tK,tK] rfl (by simp)⟩
 ·rw [if_neg h]
  have h':((c:Int) == 2)=false:=by
   have:¬ (c:Int)=2:=by omega
   simpa using this
  go_enter Tryz.func79,Tryz.ntmps79
  go_wp2_with fail
  go_ret
  exact ⟨_,rfl,lit2B w _ _,lit2 w _ [.string ⟨#[105,102]⟩,.string ⟨#[]⟩,.string ⟨#[]⟩,.string ⟨#[101,108,115,101]⟩,.string ⟨#[]⟩] [⟨#[105,102]⟩,tK,tK,⟨#[101,108,115,101]⟩,tK] rfl (by simp)⟩
theorem ofWhile_c:TK 80 #[nodV 10 a c t i b] (if t.toList == [] then [⟨#[119,104,105,108,101]⟩,tK,tK] else [t,⟨#[58]⟩,⟨#[119,104,105,108,101]⟩,tK,tK]) w:=by
 unfold TK nodV
 cases h:(t.toList == [])
 ·go_enter Tryz.func80,Tryz.ntmps80
  go_wp2_with fail
  go_ret
  exact ⟨_,rfl,lit2B w _ _,lit2 w _ [.string t,.string ⟨#[58]⟩,.string ⟨#[119,104,105,108,101]⟩,.string ⟨#[]⟩,.string ⟨#[]⟩] [t,⟨#[58]⟩,⟨#[119,104,105,108,101]⟩,tK,tK] rfl (by simp)⟩
 ·go_enter Tryz.func80,Tryz.ntmps80
  go_wp2_with fail
  go_ret
  exact ⟨_,rfl,lit2B w _ _,lit2 w _ [.string ⟨#[119,104,105,108,101]⟩,.string ⟨#[]⟩,.string ⟨#[]⟩] [⟨#[119,104,105,108,101]⟩,tK,tK] rfl (by simp)⟩
theorem ofJump_c (s:ByteArray):TK 81 #[.string s,.string t] (if t.toList == [] then [s,⟨#[59]⟩] else [s,t,⟨#[59]⟩]) w:=by
 unfold TK
 cases h:(t.toList == [])
 ·go_enter Tryz.func81,Tryz.ntmps81
  go_wp2_with fail
  go_ret
  exact ⟨_,rfl,(Below.refl _ w).alloc (Nat.le_refl _) _,lit1 w [.string s,.string t,.string ⟨#[59]⟩] [s,t,⟨#[59]⟩] rfl (by simp)⟩
 ·go_enter Tryz.func81,Tryz.ntmps81
  go_wp2_with fail
  go_ret
  exact ⟨_,rfl,(Below.refl _ w).alloc (Nat.le_refl _) _,lit1 w [.string s,.string ⟨#[59]⟩] [s,⟨#[59]⟩] rfl (by simp)⟩
theorem TK.up {w w':World} {v:Value} {ts:List ByteArray} {ob:Obj} (hB:Below (w.alloc ob).heap.size (w.alloc ob) w') (h:OS w' (w.alloc ob).heap.size v ts):Below w.heap.size w w'∧OS w' w.heap.size v ts:=
 ⟨((Below.refl _ w).alloc (Nat.le_refl _) _).trans (hB.mono (by simp)),h.base (by simp)⟩
theorem st_9:TK 62 #[nodV 9 a c t i b] (if c=2 then [⟨#[105,102]⟩,tK,tK] else [⟨#[105,102]⟩,tK,tK,⟨#[101,108,115,101]⟩,tK]) w:=by
 have cc:=fun w=>ofIf_c a c t i b w
 revert cc
 generalize (if c=2 then [⟨#[105,102]⟩,tK,tK] else [⟨#[105,102]⟩,tK,tK,⟨#[101,108,115,101]⟩,tK])=T
 intro cc
 unfold TK nodV at *
 go_enter Tryz.func62,Tryz.ntmps62
 go_wp2_with (go_at_call 79;(with_reducible refine (cc _).mono ?_);rintro e w2 ⟨v,rfl,hB,hO⟩;(have HU:=hid (TK.up hB hO));clear hB hO cc)
 go_ret
 exact ⟨_,rfl,HU.out.1,HU.out.2⟩
theorem st_10:TK 62 #[nodV 10 a c t i b] (if t.toList == [] then [⟨#[119,104,105,108,101]⟩,tK,tK] else [t,⟨#[58]⟩,⟨#[119,104,105,108,101]⟩,tK,tK]) w:=by
 have cc:=fun w=>ofWhile_c a c t i b w
 revert cc
 generalize (if t.toList == [] then [⟨#[119,104,105,108,101]⟩,tK,tK] else [t,⟨#[58]⟩,⟨#[119,104,105,108,101]⟩,tK,tK])=T
 intro cc
 unfold TK nodV at *
 go_enter Tryz.func62,Tryz.ntmps62
 go_wp2_with (go_at_call 80;(with_reducible refine (cc _).mono ?_);rintro e w2 ⟨v,rfl,hB,hO⟩;(have HU:=hid (TK.up hB hO));clear hB hO cc)
 go_ret
 exact ⟨_,rfl,HU.out.1,HU.out.2⟩
theorem st_13:TK 62 #[nodV 13 a c t i b] (if t.toList == [] then [⟨#[98,114,101,97,107]⟩,⟨#[59]⟩] else [⟨#[98,114,101,97,107]⟩,t,⟨#[59]⟩]) w:=by
 have cc:=fun w=>ofJump_c t w ⟨#[98,114,101,97,107]⟩
 revert cc
 generalize (if t.toList == [] then [⟨#[98,114,101,97,107]⟩,⟨#[59]⟩] else [⟨#[98,114,101,97,107]⟩,t,⟨#[59]⟩])=T
 intro cc
 unfold TK nodV at *
 go_enter Tryz.func62,Tryz.ntmps62
 go_wp2_with (go_at_call 81;(with_reducible refine (cc _).mono ?_);rintro e w2 ⟨v,rfl,hB,hO⟩;(have HU:=hid (TK.up hB hO));clear hB hO cc)
 go_ret
 exact ⟨_,rfl,HU.out.1,HU.out.2⟩
theorem st_14:TK 62 #[nodV 14 a c t i b] (if t.toList == [] then [⟨#[99,111,110,116,105,110,117,101]⟩,⟨#[59]⟩] else [⟨#[99,111,110,116,105,110,117,101]⟩,t,⟨#[59]⟩]) w:=by
 have cc:=fun w=>ofJump_c t w ⟨#[99,111,110,116,105,110,117,101]⟩
 revert cc
 generalize (if t.toList == [] then [⟨#[99,111,110,116,105,110,117,101]⟩,⟨#[59]⟩] else [⟨#[99,111,110,116,105,110,117,101]⟩,t,⟨#[59]⟩])=T
 intro cc
 unfold TK nodV at *
 go_enter Tryz.func62,Tryz.ntmps62
 go_wp2_with (go_at_call 81;(with_reducible refine (cc _).mono ?_);rintro e w2 ⟨v,rfl,hB,hO⟩;(have HU:=hid (TK.up hB hO));clear hB hO cc)
 go_ret
 exact ⟨_,rfl,HU.out.1,HU.out.2⟩
theorem tk_1 (hc:c≤1000000):TK 35 #[nodV 1 a c t i b] (repT c [tK]) w:=by
 have cc:=fun w=>kids_c c hc w
 unfold TK nodV at *
 go_enter Tryz.func35,Tryz.ntmps35
 go_wp2_with (go_at_call 59;(with_reducible refine (cc _).mono ?_);rintro e w2 ⟨v,rfl,hB,hO⟩;(have HU:=hid (TK.up hB hO));clear hB hO cc)
 go_ret
 exact ⟨_,rfl,HU.out.1,HU.out.2⟩
end
end Go.Proofs.YtkjaoandifednaaGreatDoor.W.Tr
