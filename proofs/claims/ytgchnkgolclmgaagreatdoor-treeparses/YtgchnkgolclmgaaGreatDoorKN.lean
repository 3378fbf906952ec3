import Derived.Test.YtgchnkgolclmgaaGreatDoorJG
import Derived.Test.YtgchnkgolclmgaaGreatDoorJI
import Derived.Test.YtgchnkgolclmgaaGreatDoorKA
import Derived.Test.YtgchnkgolclmgaaGreatDoorJD
import Derived.Lib.SlBuf
import Derived.Test.YtgchnkgolclmgaaGreatDoorKD
open List renaming getElem?_toArray → dI, getElem?_cons_succ → dQ, getElem?_cons_zero → eU
open Nat renaming le_refl → aH, zero_le → aY
open Go.World renaming alloc_heap_new → bO, size_alloc → dR
open Go.RowKit.Below renaming refl → ay
open Go.AllReadyH renaming cons → aL, nil → bY
open And renaming intro → gI
open Go.Proofs.Tryz
open List renaming getElem_toArray → aW, getElem_cons_zero → aV, getElem_cons_succ → aU, setIfInBounds_toArray → aT, set_cons_zero → aS, set_cons_succ → aR
set_option maxRecDepth 1000000
set_option maxHeartbeats 8000000
namespace Go.Proofs.YtgchnkgolclmgaaGreatDoor.W.Tr
open Go.ChangeShapes Go.WideShapes Go.RowKit Go.Shelf
set_option linter.unusedVariables false
set_option linter.unusedSimpArgs false
def yD(n:Nat):List ByteArray:=if n=0 then [] else kL (n-1) [tK,⟨#[44]⟩]++[tK]
theorem DY(n:Nat):(yD n).length<=2*n:=by
 unfold yD
 split
 ·simp
 ·rw[List.length_append,mZ];simp;omega
def Zt(k:Int)(c:Nat)(t x:ByteArray):List ByteArray:=
 if k=1 then kL c [tK] else
 if k=3 then [⟨#[102,110]⟩,t,⟨#[40]⟩]++yD (c-1)++[⟨#[41]⟩,tK] else
 if k=5 then [⟨#[123]⟩]++kL c [tK]++[⟨#[125]⟩] else
 if k=9 then (if c=2 then [⟨#[105,102]⟩,tK,tK] else [⟨#[105,102]⟩,tK,tK,⟨#[101,108,115,101]⟩,tK]) else
 if k=10 then (if t.toList==[] then [⟨#[119,104,105,108,101]⟩,tK,tK] else [t,⟨#[58]⟩,⟨#[119,104,105,108,101]⟩,tK,tK]) else
 if k=11 then kL (c-3) [tK]++[⟨#[102,111,114]⟩,t,⟨#[105,110]⟩,tK,⟨#[46,46]⟩,tK,tK] else
 if k=13 then (if t.toList==[] then [⟨#[98,114,101,97,107]⟩,⟨#[59]⟩] else [⟨#[98,114,101,97,107]⟩,t,⟨#[59]⟩]) else
 if k=14 then (if t.toList==[] then [⟨#[99,111,110,116,105,110,117,101]⟩,⟨#[59]⟩] else [⟨#[99,111,110,116,105,110,117,101]⟩,t,⟨#[59]⟩]) else
 if k=15 then [⟨#[114,101,116,117,114,110]⟩]++kL c [tK]++[⟨#[59]⟩] else
 if k=23 then [t,⟨#[40]⟩]++yD c++[⟨#[41]⟩] else
 if k=26 then [x] else if k=27 then [x] else if k=28 then [x] else
 if k=2 then [⟨#[108,101,116]⟩,t,⟨#[59]⟩] else
 if k=4 then [t] else
 if k=25 then [t] else
 if k=12 then [t,⟨#[58]⟩] else
 if k=6 then [⟨#[108,101,116]⟩,t,⟨#[61]⟩,tK,⟨#[59]⟩] else
 if k=7 then [t,⟨#[61]⟩,tK,⟨#[59]⟩] else
 if k=8 then [tK,⟨#[91]⟩,tK,⟨#[93]⟩,⟨#[61]⟩,tK,⟨#[59]⟩] else
 if k=16 then [⟨#[111,117,116]⟩,tK,⟨#[59]⟩] else
 if k=17 then [tK,⟨#[59]⟩] else
 if k=18 then [⟨#[40]⟩,tK,⟨#[111,114]⟩,tK,⟨#[41]⟩] else
 if k=19 then [⟨#[40]⟩,tK,⟨#[97,110,100]⟩,tK,⟨#[41]⟩] else
 if k=20 then [⟨#[40]⟩,⟨#[110,111,116]⟩,tK,⟨#[41]⟩] else
 if k=21 then [⟨#[40]⟩,tK,t,tK,⟨#[41]⟩] else
 if k=22 then [⟨#[40]⟩,t,tK,⟨#[41]⟩] else
 if k=24 then [tK,⟨#[91]⟩,tK,⟨#[93]⟩] else
 if k=29 then [⟨#[116,114,117,101]⟩] else
 if k=30 then [⟨#[102,97,108,115,101]⟩] else
 [⟨#[110,105,108]⟩]
theorem kg(w:World)(ob:Obj)(l:List Value)(ts:List ByteArray)(hl:l=ts.map Value.string)(h0:ts.length<=4000000):OS ((w.alloc ob).alloc (.cells l.toArray 9)) w.heap.size (.slice (some ⟨w.heap.size+1,0,none⟩) ts.length ts.length) ts:=by
 have h:=bO (w.alloc ob) (.cells l.toArray 9)
 rw[dR] at h
 exact eY hl h (by omega) h0
theorem iM(w:World)(ob o2:Obj):Below w.heap.size w ((w.alloc ob).alloc o2):=((ay _ w).alloc (aH _) _).alloc (by simp) _
theorem SY(w:World)(l:List Value)(ts:List ByteArray)(hl:l=ts.map Value.string)(h0:ts.length<=4000000):OS (w.alloc (.cells l.toArray 9)) w.heap.size (.slice (some ⟨w.heap.size,0,none⟩) ts.length ts.length) ts:=
 eY hl (bO w _) (aH _) h0
def TK(f:Nat)(args:Array Value)(ts:List ByteArray)(w:World):Prop:=Calls prog f args w λe w'=>∃v,e=.returned v/\Below w.heap.size w w'/\OS w' w.heap.size v ts
section
variable (a:Int) (c:Nat) (t:ByteArray) (i b:Int) (w:World)
theorem aAD:TK 92 #[dJ 6 a c t i b] [⟨#[108,101,116]⟩,t,⟨#[61]⟩,tK,⟨#[59]⟩] w:=by
 unfold TK dJ
 go_enter func92,ntmps92
 go_wp2_with fail
 go_ret
 exact⟨_,rfl,iM w _ _,kg w _ [.string ⟨#[108,101,116]⟩,.string t,.string ⟨#[61]⟩,.string ⟨#[]⟩,.string ⟨#[59]⟩] [⟨#[108,101,116]⟩,t,⟨#[61]⟩,tK,⟨#[59]⟩] rfl (by simp)⟩
theorem aAC:TK 92 #[dJ 7 a c t i b] [t,⟨#[61]⟩,tK,⟨#[59]⟩] w:=by
 unfold TK dJ
 go_enter func92,ntmps92
 go_wp2_with fail
 go_ret
 exact⟨_,rfl,iM w _ _,kg w _ [.string t,.string ⟨#[61]⟩,.string ⟨#[]⟩,.string ⟨#[59]⟩] [t,⟨#[61]⟩,tK,⟨#[59]⟩] rfl (by simp)⟩
theorem aAB:TK 92 #[dJ 8 a c t i b] [tK,⟨#[91]⟩,tK,⟨#[93]⟩,⟨#[61]⟩,tK,⟨#[59]⟩] w:=by
 unfold TK dJ
 go_enter func92,ntmps92
 go_wp2_with fail
 go_ret
 exact⟨_,rfl,iM w _ _,kg w _ [.string ⟨#[]⟩,.string ⟨#[91]⟩,.string ⟨#[]⟩,.string ⟨#[93]⟩,.string ⟨#[61]⟩,.string ⟨#[]⟩,.string ⟨#[59]⟩] [tK,⟨#[91]⟩,tK,⟨#[93]⟩,⟨#[61]⟩,tK,⟨#[59]⟩] rfl (by simp)⟩
theorem Uk:TK 92 #[dJ 16 a c t i b] [⟨#[111,117,116]⟩,tK,⟨#[59]⟩] w:=by
 unfold TK dJ
 go_enter func92,ntmps92
 go_wp2_with fail
 go_ret
 exact⟨_,rfl,iM w _ _,kg w _ [.string ⟨#[111,117,116]⟩,.string ⟨#[]⟩,.string ⟨#[59]⟩] [⟨#[111,117,116]⟩,tK,⟨#[59]⟩] rfl (by simp)⟩
theorem Uj:TK 92 #[dJ 17 a c t i b] [tK,⟨#[59]⟩] w:=by
 unfold TK dJ
 go_enter func92,ntmps92
 go_wp2_with fail
 go_ret
 exact⟨_,rfl,iM w _ _,kg w _ [.string ⟨#[]⟩,.string ⟨#[59]⟩] [tK,⟨#[59]⟩] rfl (by simp)⟩
theorem WO:TK 93 #[dJ 18 a c t i b] [⟨#[40]⟩,tK,⟨#[111,114]⟩,tK,⟨#[41]⟩] w:=by
 unfold TK dJ
 go_enter func93,ntmps93
 go_wp2_with fail
 go_ret
 exact⟨_,rfl,iM w _ _,kg w _ [.string ⟨#[40]⟩,.string ⟨#[]⟩,.string ⟨#[111,114]⟩,.string ⟨#[]⟩,.string ⟨#[41]⟩] [⟨#[40]⟩,tK,⟨#[111,114]⟩,tK,⟨#[41]⟩] rfl (by simp)⟩
theorem WM:TK 93 #[dJ 19 a c t i b] [⟨#[40]⟩,tK,⟨#[97,110,100]⟩,tK,⟨#[41]⟩] w:=by
 unfold TK dJ
 go_enter func93,ntmps93
 go_wp2_with fail
 go_ret
 exact⟨_,rfl,iM w _ _,kg w _ [.string ⟨#[40]⟩,.string ⟨#[]⟩,.string ⟨#[97,110,100]⟩,.string ⟨#[]⟩,.string ⟨#[41]⟩] [⟨#[40]⟩,tK,⟨#[97,110,100]⟩,tK,⟨#[41]⟩] rfl (by simp)⟩
theorem WL:TK 93 #[dJ 20 a c t i b] [⟨#[40]⟩,⟨#[110,111,116]⟩,tK,⟨#[41]⟩] w:=by
 unfold TK dJ
 go_enter func93,ntmps93
 go_wp2_with fail
 go_ret
 exact⟨_,rfl,iM w _ _,kg w _ [.string ⟨#[40]⟩,.string ⟨#[110,111,116]⟩,.string ⟨#[]⟩,.string ⟨#[41]⟩] [⟨#[40]⟩,⟨#[110,111,116]⟩,tK,⟨#[41]⟩] rfl (by simp)⟩
theorem WK:TK 93 #[dJ 21 a c t i b] [⟨#[40]⟩,tK,t,tK,⟨#[41]⟩] w:=by
 unfold TK dJ
 go_enter func93,ntmps93
 go_wp2_with fail
 go_ret
 exact⟨_,rfl,iM w _ _,kg w _ [.string ⟨#[40]⟩,.string ⟨#[]⟩,.string t,.string ⟨#[]⟩,.string ⟨#[41]⟩] [⟨#[40]⟩,tK,t,tK,⟨#[41]⟩] rfl (by simp)⟩
theorem WJ:TK 93 #[dJ 22 a c t i b] [⟨#[40]⟩,t,tK,⟨#[41]⟩] w:=by
 unfold TK dJ
 go_enter func93,ntmps93
 go_wp2_with fail
 go_ret
 exact⟨_,rfl,iM w _ _,kg w _ [.string ⟨#[40]⟩,.string t,.string ⟨#[]⟩,.string ⟨#[41]⟩] [⟨#[40]⟩,t,tK,⟨#[41]⟩] rfl (by simp)⟩
theorem WH:TK 93 #[dJ 24 a c t i b] [tK,⟨#[91]⟩,tK,⟨#[93]⟩] w:=by
 unfold TK dJ
 go_enter func93,ntmps93
 go_wp2_with fail
 go_ret
 exact⟨_,rfl,iM w _ _,kg w _ [.string ⟨#[]⟩,.string ⟨#[91]⟩,.string ⟨#[]⟩,.string ⟨#[93]⟩] [tK,⟨#[91]⟩,tK,⟨#[93]⟩] rfl (by simp)⟩
theorem WE:TK 93 #[dJ 29 a c t i b] [⟨#[116,114,117,101]⟩] w:=by
 unfold TK dJ
 go_enter func93,ntmps93
 go_wp2_with fail
 go_ret
 exact⟨_,rfl,iM w _ _,kg w _ [.string ⟨#[116,114,117,101]⟩] [⟨#[116,114,117,101]⟩] rfl (by simp)⟩
theorem WC:TK 93 #[dJ 30 a c t i b] [⟨#[102,97,108,115,101]⟩] w:=by
 unfold TK dJ
 go_enter func93,ntmps93
 go_wp2_with fail
 go_ret
 exact⟨_,rfl,iM w _ _,kg w _ [.string ⟨#[102,97,108,115,101]⟩] [⟨#[102,97,108,115,101]⟩] rfl (by simp)⟩
theorem WB:TK 93 #[dJ 31 a c t i b] [⟨#[110,105,108]⟩] w:=by
 unfold TK dJ
 go_enter func93,ntmps93
 go_wp2_with fail
 go_ret
 exact⟨_,rfl,iM w _ _,kg w _ [.string ⟨#[110,105,108]⟩] [⟨#[110,105,108]⟩] rfl (by simp)⟩
theorem Zx:TK 61 #[dJ 2 a c t i b] [⟨#[108,101,116]⟩,t,⟨#[59]⟩] w:=by
 unfold TK dJ
 go_enter func61,ntmps61
 go_wp2_with fail
 go_ret
 exact⟨_,rfl,iM w _ _,kg w _ [.string ⟨#[108,101,116]⟩,.string t,.string ⟨#[59]⟩] [⟨#[108,101,116]⟩,t,⟨#[59]⟩] rfl (by simp)⟩
theorem Zv:TK 61 #[dJ 4 a c t i b] [t] w:=by
 unfold TK dJ
 go_enter func61,ntmps61
 go_wp2_with fail
 go_ret
 exact⟨_,rfl,iM w _ _,kg w _ [.string t] [t] rfl (by simp)⟩
theorem Ub:TK 61 #[dJ 25 a c t i b] [t] w:=by
 unfold TK dJ
 go_enter func61,ntmps61
 go_wp2_with fail
 go_ret
 exact⟨_,rfl,iM w _ _,kg w _ [.string t] [t] rfl (by simp)⟩
theorem Uc:TK 61 #[dJ 12 a c t i b] [t,⟨#[58]⟩] w:=by
 unfold TK dJ
 go_enter func61,ntmps61
 go_wp2_with fail
 go_ret
 exact⟨_,rfl,iM w _ _,kg w _ [.string t,.string ⟨#[58]⟩] [t,⟨#[58]⟩] rfl (by simp)⟩
theorem Ru:TK 128 #[dJ 9 a c t i b] (if c=2 then [⟨#[105,102]⟩,tK,tK] else [⟨#[105,102]⟩,tK,tK,⟨#[101,108,115,101]⟩,tK]) w:=by
 unfold TK dJ
 by_cases h:c=2
 ·subst h
  rw[if_pos rfl]
  go_enter func128,ntmps128
  go_wp2_with fail
  go_ret
  exact⟨_,rfl,iM w _ _,kg w _ [.string ⟨#[105,102]⟩,.string ⟨#[]⟩,.string ⟨#[]⟩] [⟨#[105,102]⟩,tK,tK] rfl (by simp)⟩
 ·rw[if_neg h]
  have h':((c:Int)==2)=false:=by
   have:¬ (c:Int)=2:=by omega
   simpa using this
  go_enter func128,ntmps128
  go_wp2_with fail
  go_ret
  exact⟨_,rfl,iM w _ _,kg w _ [.string ⟨#[105,102]⟩,.string ⟨#[]⟩,.string ⟨#[]⟩,.string ⟨#[101,108,115,101]⟩,.string ⟨#[]⟩] [⟨#[105,102]⟩,tK,tK,⟨#[101,108,115,101]⟩,tK] rfl (by simp)⟩
theorem Ii:TK 129 #[dJ 10 a c t i b] (if t.toList==[] then [⟨#[119,104,105,108,101]⟩,tK,tK] else [t,⟨#[58]⟩,⟨#[119,104,105,108,101]⟩,tK,tK]) w:=by
 unfold TK dJ
 cases h:(t.toList==[])
 ·go_enter func129,ntmps129
  go_wp2_with fail
  go_ret
  exact⟨_,rfl,iM w _ _,kg w _ [.string t,.string ⟨#[58]⟩,.string ⟨#[119,104,105,108,101]⟩,.string ⟨#[]⟩,.string ⟨#[]⟩] [t,⟨#[58]⟩,⟨#[119,104,105,108,101]⟩,tK,tK] rfl (by simp)⟩
 ·go_enter func129,ntmps129
  go_wp2_with fail
  go_ret
  exact⟨_,rfl,iM w _ _,kg w _ [.string ⟨#[119,104,105,108,101]⟩,.string ⟨#[]⟩,.string ⟨#[]⟩] [⟨#[119,104,105,108,101]⟩,tK,tK] rfl (by simp)⟩
theorem Cj(s:ByteArray):TK 130 #[.string s,.string t] (if t.toList==[] then [s,⟨#[59]⟩] else [s,t,⟨#[59]⟩]) w:=by
 unfold TK
 cases h:(t.toList==[])
 ·go_enter func130,ntmps130
  go_wp2_with fail
  go_ret
  exact⟨_,rfl,(ay _ w).alloc (aH _) _,SY w [.string s,.string t,.string ⟨#[59]⟩] [s,t,⟨#[59]⟩] rfl (by simp)⟩
 ·go_enter func130,ntmps130
  go_wp2_with fail
  go_ret
  exact⟨_,rfl,(ay _ w).alloc (aH _) _,SY w [.string s,.string ⟨#[59]⟩] [s,⟨#[59]⟩] rfl (by simp)⟩
theorem TK.up{w w':World}{v:Value}{ts:List ByteArray}{ob:Obj}(hB:Below (w.alloc ob).heap.size (w.alloc ob) w')(h:OS w' (w.alloc ob).heap.size v ts):Below w.heap.size w w'/\OS w' w.heap.size v ts:=
 ⟨((ay _ w).alloc (aH _) _).trans (hB.mono (by simp)),h.base (by simp)⟩
theorem aAA:TK 92 #[dJ 9 a c t i b] (if c=2 then [⟨#[105,102]⟩,tK,tK] else [⟨#[105,102]⟩,tK,tK,⟨#[101,108,115,101]⟩,tK]) w:=by
 have cc:=λw=>Ru a c t i b w
 revert cc
 generalize (if c=2 then [⟨#[105,102]⟩,tK,tK] else [⟨#[105,102]⟩,tK,tK,⟨#[101,108,115,101]⟩,tK])=T
 intro cc
 unfold TK dJ at *
 go_enter func92,ntmps92
 go_wp2_with (go_at_call 128;(with_reducible refine(cc _).mono ?_);rintro e w2 ⟨v,rfl,hB,hO⟩;(have HU:=hid (TK.up hB hO));clear hB hO cc)
 go_ret
 exact⟨_,rfl,HU.out.1,HU.out.2⟩
theorem Uq:TK 92 #[dJ 10 a c t i b] (if t.toList==[] then [⟨#[119,104,105,108,101]⟩,tK,tK] else [t,⟨#[58]⟩,⟨#[119,104,105,108,101]⟩,tK,tK]) w:=by
 have cc:=λw=>Ii a c t i b w
 revert cc
 generalize (if t.toList==[] then [⟨#[119,104,105,108,101]⟩,tK,tK] else [t,⟨#[58]⟩,⟨#[119,104,105,108,101]⟩,tK,tK])=T
 intro cc
 unfold TK dJ at *
 go_enter func92,ntmps92
 go_wp2_with (go_at_call 129;(with_reducible refine(cc _).mono ?_);rintro e w2 ⟨v,rfl,hB,hO⟩;(have HU:=hid (TK.up hB hO));clear hB hO cc)
 go_ret
 exact⟨_,rfl,HU.out.1,HU.out.2⟩
theorem Un:TK 92 #[dJ 13 a c t i b] (if t.toList==[] then [⟨#[98,114,101,97,107]⟩,⟨#[59]⟩] else [⟨#[98,114,101,97,107]⟩,t,⟨#[59]⟩]) w:=by
 have cc:=λw=>Cj t w ⟨#[98,114,101,97,107]⟩
 revert cc
 generalize (if t.toList==[] then [⟨#[98,114,101,97,107]⟩,⟨#[59]⟩] else [⟨#[98,114,101,97,107]⟩,t,⟨#[59]⟩])=T
 intro cc
 unfold TK dJ at *
 go_enter func92,ntmps92
 go_wp2_with (go_at_call 130;(with_reducible refine(cc _).mono ?_);rintro e w2 ⟨v,rfl,hB,hO⟩;(have HU:=hid (TK.up hB hO));clear hB hO cc)
 go_ret
 exact⟨_,rfl,HU.out.1,HU.out.2⟩
theorem Um:TK 92 #[dJ 14 a c t i b] (if t.toList==[] then [⟨#[99,111,110,116,105,110,117,101]⟩,⟨#[59]⟩] else [⟨#[99,111,110,116,105,110,117,101]⟩,t,⟨#[59]⟩]) w:=by
 have cc:=λw=>Cj t w ⟨#[99,111,110,116,105,110,117,101]⟩
 revert cc
 generalize (if t.toList==[] then [⟨#[99,111,110,116,105,110,117,101]⟩,⟨#[59]⟩] else [⟨#[99,111,110,116,105,110,117,101]⟩,t,⟨#[59]⟩])=T
 intro cc
 unfold TK dJ at *
 go_enter func92,ntmps92
 go_wp2_with (go_at_call 130;(with_reducible refine(cc _).mono ?_);rintro e w2 ⟨v,rfl,hB,hO⟩;(have HU:=hid (TK.up hB hO));clear hB hO cc)
 go_ret
 exact⟨_,rfl,HU.out.1,HU.out.2⟩
theorem Zy(hc:c<=1000000):TK 61 #[dJ 1 a c t i b] (kL c [tK]) w:=by
 have cc:=λw=>Ad c hc w
 unfold TK dJ at *
 go_enter func61,ntmps61
 go_wp2_with (go_at_call 89;(with_reducible refine(cc _).mono ?_);rintro e w2 ⟨v,rfl,hB,hO⟩;(have HU:=hid (TK.up hB hO));clear hB hO cc)
 go_ret
 exact⟨_,rfl,HU.out.1,HU.out.2⟩
end
theorem P7(w:World)(v1 v2 v3:Value)(r1 r2 r3:List ByteArray)(h1:OS w 0 v1 r1)(h2:OS w 0 v2 r2)(h3:OS w 0 v3 r3)(hl:r1.length+r2.length+r3.length<=4000000)(hp:0<r1.length+r2.length+r3.length) :
  Calls prog 90 #[.slice (some ⟨w.heap.size,0,none⟩) 3 3] (w.alloc (.cells #[v1,v2,v3] 86)) λe w'=>∃v,e=.returned v/\Below w.heap.size w w'/\OS w' w.heap.size v (r1++r2++r3):=by
 have hB:Below w.heap.size w (w.alloc (.cells #[v1,v2,v3] 86)):=(ay _ w).alloc (aH _) _
 have e:=aA (bO w (.cells #[v1,v2,v3] 86))
 refine(J9 (w.alloc (.cells #[v1,v2,v3] 86)) w.heap.size 3 v1 v2 v3 r1 r2 r3 (e 0) (e 1) (e 2) (h1.below hB) (h2.below hB) (h3.below hB) hl hp).mono ?_
 rintro e w' ⟨v,rfl,hB',hO⟩
 exact⟨v,rfl,hB.trans (hB'.mono hB.size),hO.base hB.size⟩
theorem aA4(w:World)(v1 v2:Value)(r1 r2:List ByteArray)(h1:OS w 0 v1 r1)(h2:OS w 0 v2 r2)(hl:r1.length+r2.length<=4000000)(hp:0<r1.length+r2.length) :
  Calls prog 90 #[.slice (some ⟨w.heap.size,0,none⟩) 2 2] (w.alloc (.cells #[v1,v2] 86)) λe w'=>∃v,e=.returned v/\Below w.heap.size w w'/\OS w' w.heap.size v (r1++r2):=by
 have hB:Below w.heap.size w (w.alloc (.cells #[v1,v2] 86)):=(ay _ w).alloc (aH _) _
 have e:=aA (bO w (.cells #[v1,v2] 86))
 refine(Ja (w.alloc (.cells #[v1,v2] 86)) w.heap.size 2 v1 v2 r1 r2 (e 0) (e 1) (h1.below hB) (h2.below hB) hl hp).mono ?_
 rintro e w' ⟨v,rfl,hB',hO⟩
 exact⟨v,rfl,hB.trans (hB'.mono hB.size),hO.base hB.size⟩
section
variable (a:Int) (c:Nat) (t:ByteArray) (i b:Int) (w:World)
theorem Zw(hc:c<=1000000)(hc1:1<=c):TK 61 #[dJ 3 a c t i b] ([⟨#[102,110]⟩,t,⟨#[40]⟩]++yD (c-1)++[⟨#[41]⟩,tK]) w:=by
 have cc:=λw=>(show Calls prog 91 #[.int .i64 ((c-1:Nat):Int)] w λe w'=>∃v,e=.returned v/\Below w.heap.size w w'/\OS w' w.heap.size v (yD (c-1)) from DX (c-1) (by omega) w)
 have j1:IntKind.i64.wrap ((c:Int)-1)=((c-1:Nat):Int):=by rw[IntKind.wrap_i64];omega
 unfold TK dJ at *
 have hn:=bO w (.cells #[.int .i64 3,.int .i64 a,.int .i64 (c:Nat),.string t,.int .i64 i,.int .u64 b] 31)
 have hb:Below w.heap.size w (w.alloc (.cells #[.int .i64 3,.int .i64 a,.int .i64 (c:Nat),.string t,.int .i64 i,.int .u64 b] 31)):=(ay _ w).alloc (aH _) _
 revert cc
 generalize hcl:yD (c-1)=CL
 have Q7:CL.length<=2000000:=by rw[<- hcl];(have:=DY (c-1);omega)
 clear hcl
 intro cc
 obtain⟨L0,hL0⟩:∃L0,[⟨#[102,110]⟩,t,⟨#[40]⟩]++CL++[⟨#[41]⟩,tK]=L0:=⟨_,rfl⟩
 rw[hL0]
 have Pt:=hid hL0
 clear hL0
 go_enter func61,ntmps61
 go_upto_region 7 with fail
 generalize w.alloc _=W at *
 refine wp_region_held_drew (S:=λw'=>w'.heap[w.heap.size]? = some (.cells #[.int .i64 3,.int .i64 a,.int .i64 (c:Nat),.string t,.int .i64 i,.int .u64 b] 31 (0,0))) (by kernel_rfl) hn ?_
 intro hS
 replace hb:=hb.drew
 clear hn
 iterate 2 ((refine It.nH 0 ?_ rfl (by kernel_rfl) (λ_ _ _ h=>h) (Or.inl ⟨by rfl,?_⟩) hS ?_);rotate_left;(focus (intro w' hSw;(have g2:=aA hSw 2);(have g3:=aA hSw 3);simp only[dI,dQ,eU] at g2 g3;go_simp;(try with_reducible rfl)));(try simp only[Act.put,aW,aV,aU,aT,aS,aR]))
 iterate 3 ((refine It.nH 3 ?_ rfl (by kernel_rfl) (λ_ _ _ h=>h) (Or.inl ⟨by rfl,?_⟩) hS ?_);rotate_left;(focus (intro w' hSw;(have g2:=aA hSw 2);(have g3:=aA hSw 3);simp only[dI,dQ,eU] at g2 g3;go_simp;(try with_reducible rfl)));(try simp only[Act.put,aW,aV,aU,aT,aS,aR]))
 generalize W.drew=W0 at *
 refine wpAnyH_ready (rs:=[2,6,7]) (by kernel_rfl) (by simp) ?_
 refine aL rfl (λK hK=>?_) ?_
 have bN:=(ay _ W0).alloc (aH W0.heap.size) (.cells #[.string ⟨#[102,110]⟩,.string t,.string ⟨#[40]⟩] 9)
 have o0:OS _ 0 _ [⟨#[102,110]⟩,t,⟨#[40]⟩]:=eY (l:=[.string ⟨#[102,110]⟩,.string t,.string ⟨#[40]⟩]) rfl (bO W0 _) (aY _) (by simp)
 replace hS:=aF hS bN
 replace hb:=hb.trans (bN.mono hb.size)
 clear bN
 go_simp
 refine hK.out _ _ hS (λ_=>?_)
 clear hK K
 (try simp only[Act.put,aW,aV,aU,aT,aS,aR])
 generalize hsz0:W0.heap.size=z0 at *
 generalize W0.alloc _=W1 at *
 refine wpAnyH_ready (rs:=[6,7]) (by kernel_rfl) (by simp) ?_
 refine aL rfl (λK hK=>?_) ?_
 go_simp
 refine(cc _).mono ?_
 rintro e W2 ⟨v1,rfl,bN,o1⟩
 replace hS:=aF hS bN
 replace hb:=hb.trans (bN.mono hb.size)
 replace o1:=o1.base (aY _)
 replace o0:=o0.below bN
 obtain⟨oo,oc,rfl⟩:=aI o1
 clear bN
 refine hK.out _ _ hS (λ_=>?_)
 clear hK K
 (try simp only[Act.put,aW,aV,aU,aT,aS,aR])
 refine wpAnyH_ready (rs:=[7]) (by kernel_rfl) (by simp) ?_
 refine aL rfl (λK hK=>?_) bY
 have bN:=(ay _ W2).alloc (aH W2.heap.size) (.cells #[.string ⟨#[41]⟩,.string ⟨#[]⟩] 9)
 have o2:OS _ 0 _ [⟨#[41]⟩,tK]:=eY (l:=[.string ⟨#[41]⟩,.string ⟨#[]⟩]) rfl (bO W2 _) (aY _) (by simp)
 replace hS:=aF hS bN
 replace hb:=hb.trans (bN.mono hb.size)
 replace o0:=o0.below bN
 replace o1:=o1.below bN
 clear bN
 go_simp
 refine hK.out _ _ hS (λ_=>?_)
 clear hK K
 (try simp only[Act.put,aW,aV,aU,aT,aS,aR])
 generalize hsz2:W2.heap.size=z2 at *
 generalize W2.alloc _=W3 at *
 rotate_left
 refine aL rfl (λK hK=>?_) bY
 have bN:=(ay _ W1).alloc (aH W1.heap.size) (.cells #[.string ⟨#[41]⟩,.string ⟨#[]⟩] 9)
 have o2:OS _ 0 _ [⟨#[41]⟩,tK]:=eY (l:=[.string ⟨#[41]⟩,.string ⟨#[]⟩]) rfl (bO W1 _) (aY _) (by simp)
 replace hS:=aF hS bN
 replace hb:=hb.trans (bN.mono hb.size)
 replace o0:=o0.below bN
 clear bN
 go_simp
 refine hK.out _ _ hS (λ_=>?_)
 clear hK K
 (try simp only[Act.put,aW,aV,aU,aT,aS,aR])
 generalize hsz2:W1.heap.size=z2 at *
 generalize W1.alloc _=W2 at *
 refine wpAnyH_ready (rs:=[6]) (by kernel_rfl) (by simp) ?_
 refine aL rfl (λK hK=>?_) bY
 go_simp
 refine(cc _).mono ?_
 rintro e W3 ⟨v1,rfl,bN,o1⟩
 replace hS:=aF hS bN
 replace hb:=hb.trans (bN.mono hb.size)
 replace o1:=o1.base (aY _)
 replace o0:=o0.below bN
 replace o2:=o2.below bN
 obtain⟨oo,oc,rfl⟩:=aI o1
 clear bN
 refine hK.out _ _ hS (λ_=>?_)
 clear hK K
 (try simp only[Act.put,aW,aV,aU,aT,aS,aR])
 rotate_left
 refine aL rfl (λK hK=>?_) ?_
 go_simp
 refine(cc _).mono ?_
 rintro e W1 ⟨v1,rfl,bN,o1⟩
 replace hS:=aF hS bN
 replace hb:=hb.trans (bN.mono hb.size)
 replace o1:=o1.base (aY _)
 obtain⟨oo,oc,rfl⟩:=aI o1
 clear bN
 refine hK.out _ _ hS (λ_=>?_)
 clear hK K
 (try simp only[Act.put,aW,aV,aU,aT,aS,aR])
 refine wpAnyH_ready (rs:=[2,7]) (by kernel_rfl) (by simp) ?_
 refine aL rfl (λK hK=>?_) ?_
 have bN:=(ay _ W1).alloc (aH W1.heap.size) (.cells #[.string ⟨#[102,110]⟩,.string t,.string ⟨#[40]⟩] 9)
 have o0:OS _ 0 _ [⟨#[102,110]⟩,t,⟨#[40]⟩]:=eY (l:=[.string ⟨#[102,110]⟩,.string t,.string ⟨#[40]⟩]) rfl (bO W1 _) (aY _) (by simp)
 replace hS:=aF hS bN
 replace hb:=hb.trans (bN.mono hb.size)
 replace o1:=o1.below bN
 clear bN
 go_simp
 refine hK.out _ _ hS (λ_=>?_)
 clear hK K
 (try simp only[Act.put,aW,aV,aU,aT,aS,aR])
 generalize hsz0:W1.heap.size=z0 at *
 generalize W1.alloc _=W2 at *
 refine wpAnyH_ready (rs:=[7]) (by kernel_rfl) (by simp) ?_
 refine aL rfl (λK hK=>?_) bY
 have bN:=(ay _ W2).alloc (aH W2.heap.size) (.cells #[.string ⟨#[41]⟩,.string ⟨#[]⟩] 9)
 have o2:OS _ 0 _ [⟨#[41]⟩,tK]:=eY (l:=[.string ⟨#[41]⟩,.string ⟨#[]⟩]) rfl (bO W2 _) (aY _) (by simp)
 replace hS:=aF hS bN
 replace hb:=hb.trans (bN.mono hb.size)
 replace o1:=o1.below bN
 replace o0:=o0.below bN
 clear bN
 go_simp
 refine hK.out _ _ hS (λ_=>?_)
 clear hK K
 (try simp only[Act.put,aW,aV,aU,aT,aS,aR])
 generalize hsz2:W2.heap.size=z2 at *
 generalize W2.alloc _=W3 at *
 rotate_left
 refine aL rfl (λK hK=>?_) bY
 have bN:=(ay _ W1).alloc (aH W1.heap.size) (.cells #[.string ⟨#[41]⟩,.string ⟨#[]⟩] 9)
 have o2:OS _ 0 _ [⟨#[41]⟩,tK]:=eY (l:=[.string ⟨#[41]⟩,.string ⟨#[]⟩]) rfl (bO W1 _) (aY _) (by simp)
 replace hS:=aF hS bN
 replace hb:=hb.trans (bN.mono hb.size)
 replace o1:=o1.below bN
 clear bN
 go_simp
 refine hK.out _ _ hS (λ_=>?_)
 clear hK K
 (try simp only[Act.put,aW,aV,aU,aT,aS,aR])
 generalize hsz2:W1.heap.size=z2 at *
 generalize W1.alloc _=W2 at *
 refine wpAnyH_ready (rs:=[2]) (by kernel_rfl) (by simp) ?_
 refine aL rfl (λK hK=>?_) bY
 have bN:=(ay _ W2).alloc (aH W2.heap.size) (.cells #[.string ⟨#[102,110]⟩,.string t,.string ⟨#[40]⟩] 9)
 have o0:OS _ 0 _ [⟨#[102,110]⟩,t,⟨#[40]⟩]:=eY (l:=[.string ⟨#[102,110]⟩,.string t,.string ⟨#[40]⟩]) rfl (bO W2 _) (aY _) (by simp)
 replace hS:=aF hS bN
 replace hb:=hb.trans (bN.mono hb.size)
 replace o1:=o1.below bN
 replace o2:=o2.below bN
 clear bN
 go_simp
 refine hK.out _ _ hS (λ_=>?_)
 clear hK K
 (try simp only[Act.put,aW,aV,aU,aT,aS,aR])
 generalize hsz0:W2.heap.size=z0 at *
 generalize W2.alloc _=W3 at *
 rotate_left
 refine aL rfl (λK hK=>?_) bY
 have bN:=(ay _ W0).alloc (aH W0.heap.size) (.cells #[.string ⟨#[41]⟩,.string ⟨#[]⟩] 9)
 have o2:OS _ 0 _ [⟨#[41]⟩,tK]:=eY (l:=[.string ⟨#[41]⟩,.string ⟨#[]⟩]) rfl (bO W0 _) (aY _) (by simp)
 replace hS:=aF hS bN
 replace hb:=hb.trans (bN.mono hb.size)
 clear bN
 go_simp
 refine hK.out _ _ hS (λ_=>?_)
 clear hK K
 (try simp only[Act.put,aW,aV,aU,aT,aS,aR])
 generalize hsz2:W0.heap.size=z2 at *
 generalize W0.alloc _=W1 at *
 refine wpAnyH_ready (rs:=[2,6]) (by kernel_rfl) (by simp) ?_
 refine aL rfl (λK hK=>?_) ?_
 have bN:=(ay _ W1).alloc (aH W1.heap.size) (.cells #[.string ⟨#[102,110]⟩,.string t,.string ⟨#[40]⟩] 9)
 have o0:OS _ 0 _ [⟨#[102,110]⟩,t,⟨#[40]⟩]:=eY (l:=[.string ⟨#[102,110]⟩,.string t,.string ⟨#[40]⟩]) rfl (bO W1 _) (aY _) (by simp)
 replace hS:=aF hS bN
 replace hb:=hb.trans (bN.mono hb.size)
 replace o2:=o2.below bN
 clear bN
 go_simp
 refine hK.out _ _ hS (λ_=>?_)
 clear hK K
 (try simp only[Act.put,aW,aV,aU,aT,aS,aR])
 generalize hsz0:W1.heap.size=z0 at *
 generalize W1.alloc _=W2 at *
 refine wpAnyH_ready (rs:=[6]) (by kernel_rfl) (by simp) ?_
 refine aL rfl (λK hK=>?_) bY
 go_simp
 refine(cc _).mono ?_
 rintro e W3 ⟨v1,rfl,bN,o1⟩
 replace hS:=aF hS bN
 replace hb:=hb.trans (bN.mono hb.size)
 replace o1:=o1.base (aY _)
 replace o2:=o2.below bN
 replace o0:=o0.below bN
 obtain⟨oo,oc,rfl⟩:=aI o1
 clear bN
 refine hK.out _ _ hS (λ_=>?_)
 clear hK K
 (try simp only[Act.put,aW,aV,aU,aT,aS,aR])
 rotate_left
 refine aL rfl (λK hK=>?_) bY
 go_simp
 refine(cc _).mono ?_
 rintro e W2 ⟨v1,rfl,bN,o1⟩
 replace hS:=aF hS bN
 replace hb:=hb.trans (bN.mono hb.size)
 replace o1:=o1.base (aY _)
 replace o2:=o2.below bN
 obtain⟨oo,oc,rfl⟩:=aI o1
 clear bN
 refine hK.out _ _ hS (λ_=>?_)
 clear hK K
 (try simp only[Act.put,aW,aV,aU,aT,aS,aR])
 refine wpAnyH_ready (rs:=[2]) (by kernel_rfl) (by simp) ?_
 refine aL rfl (λK hK=>?_) bY
 have bN:=(ay _ W2).alloc (aH W2.heap.size) (.cells #[.string ⟨#[102,110]⟩,.string t,.string ⟨#[40]⟩] 9)
 have o0:OS _ 0 _ [⟨#[102,110]⟩,t,⟨#[40]⟩]:=eY (l:=[.string ⟨#[102,110]⟩,.string t,.string ⟨#[40]⟩]) rfl (bO W2 _) (aY _) (by simp)
 replace hS:=aF hS bN
 replace hb:=hb.trans (bN.mono hb.size)
 replace o2:=o2.below bN
 replace o1:=o1.below bN
 clear bN
 go_simp
 refine hK.out _ _ hS (λ_=>?_)
 clear hK K
 (try simp only[Act.put,aW,aV,aU,aT,aS,aR])
 generalize hsz0:W2.heap.size=z0 at *
 generalize W2.alloc _=W3 at *
 rotate_left
 all_goals
  have mP:=P7 W3 _ _ _ _ _ _ o0 o1 o2 (by simp;omega) (by first|(simp;done)|(simp;omega))
  rw[Pt.out] at mP
  clear o0 o1 o2
  refine wpAnyH_ready (rs:=[8]) (by kernel_rfl) (by simp) ?_
  refine aL rfl (λK hK=>?_) bY
  go_simp
  refine hK.out _ _ (aF hS ((ay _ W3).alloc (aH _) _)) (λhS2=>?_)
  clear hK K
  (try simp only[Act.put,aW,aV,aU,aT,aS,aR])
  refine wpAnyH_ready (rs:=[9]) (by kernel_rfl) (by simp) ?_
  refine aL rfl (λK hK=>?_) bY
  go_simp
  refine mP.mono ?_
  rintro e W9 ⟨v9,rfl,b9,o9⟩
  refine hK.out _ _ (aF hS b9) (λhS=>?_)
  clear hK K mP hS2
  (try simp only[Act.put,aW,aV,aU,aT,aS,aR])
  (refine It.nH 10 ?_ rfl (by kernel_rfl) (λ_ _ _ h=>h) (Or.inl ⟨by rfl,?_⟩) hS ?_);rotate_left;(focus (intro w' hSw;(have g2:=aA hSw 2);(have g3:=aA hSw 3);simp only[dI,dQ,eU] at g2 g3;go_simp;(try with_reducible rfl)));(try simp only[Act.put,aW,aV,aU,aT,aS,aR])
  refine wpAnyH_done (by kernel_rfl) ?_ _
  have HF:=hid (gI (hb.trans (b9.mono hb.size)) (o9.base hb.size))
  clear o9 b9 hb hS
  go_wp2
  go_ret
  exact⟨_,rfl,HF.out.1,HF.out.2⟩
theorem WI(hc:c<=1000000):TK 93 #[dJ 23 a c t i b] ([t,⟨#[40]⟩]++yD c++[⟨#[41]⟩]) w:=by
 have cc:=λw=>(show Calls prog 91 #[.int .i64 (c:Int)] w λe w'=>∃v,e=.returned v/\Below w.heap.size w w'/\OS w' w.heap.size v (yD c) from DX c (by omega) w)
 unfold TK dJ at *
 have hn:=bO w (.cells #[.int .i64 23,.int .i64 a,.int .i64 (c:Nat),.string t,.int .i64 i,.int .u64 b] 31)
 have hb:Below w.heap.size w (w.alloc (.cells #[.int .i64 23,.int .i64 a,.int .i64 (c:Nat),.string t,.int .i64 i,.int .u64 b] 31)):=(ay _ w).alloc (aH _) _
 revert cc
 generalize hcl:yD c=CL
 have Q7:CL.length<=2000000:=by rw[<- hcl];(have:=DY c;omega)
 clear hcl
 intro cc
 obtain⟨L0,hL0⟩:∃L0,[t,⟨#[40]⟩]++CL++[⟨#[41]⟩]=L0:=⟨_,rfl⟩
 rw[hL0]
 have Pt:=hid hL0
 clear hL0
 go_enter func93,ntmps93
 go_upto_region 13 with fail
 generalize w.alloc _=W at *
 refine wp_region_held_drew (S:=λw'=>w'.heap[w.heap.size]? = some (.cells #[.int .i64 23,.int .i64 a,.int .i64 (c:Nat),.string t,.int .i64 i,.int .u64 b] 31 (0,0))) (by kernel_rfl) hn ?_
 intro hS
 replace hb:=hb.drew
 clear hn
 iterate 2 ((refine It.nH 0 ?_ rfl (by kernel_rfl) (λ_ _ _ h=>h) (Or.inl ⟨by rfl,?_⟩) hS ?_);rotate_left;(focus (intro w' hSw;(have g2:=aA hSw 2);(have g3:=aA hSw 3);simp only[dI,dQ,eU] at g2 g3;go_simp;(try with_reducible rfl)));(try simp only[Act.put,aW,aV,aU,aT,aS,aR]))
 iterate 2 ((refine It.nH 3 ?_ rfl (by kernel_rfl) (λ_ _ _ h=>h) (Or.inl ⟨by rfl,?_⟩) hS ?_);rotate_left;(focus (intro w' hSw;(have g2:=aA hSw 2);(have g3:=aA hSw 3);simp only[dI,dQ,eU] at g2 g3;go_simp;(try with_reducible rfl)));(try simp only[Act.put,aW,aV,aU,aT,aS,aR]))
 generalize W.drew=W0 at *
 refine wpAnyH_ready (rs:=[2,5,6]) (by kernel_rfl) (by simp) ?_
 refine aL rfl (λK hK=>?_) ?_
 have bN:=(ay _ W0).alloc (aH W0.heap.size) (.cells #[.string t,.string ⟨#[40]⟩] 9)
 have o0:OS _ 0 _ [t,⟨#[40]⟩]:=eY (l:=[.string t,.string ⟨#[40]⟩]) rfl (bO W0 _) (aY _) (by simp)
 replace hS:=aF hS bN
 replace hb:=hb.trans (bN.mono hb.size)
 clear bN
 go_simp
 refine hK.out _ _ hS (λ_=>?_)
 clear hK K
 (try simp only[Act.put,aW,aV,aU,aT,aS,aR])
 generalize hsz0:W0.heap.size=z0 at *
 generalize W0.alloc _=W1 at *
 refine wpAnyH_ready (rs:=[5,6]) (by kernel_rfl) (by simp) ?_
 refine aL rfl (λK hK=>?_) ?_
 go_simp
 refine(cc _).mono ?_
 rintro e W2 ⟨v1,rfl,bN,o1⟩
 replace hS:=aF hS bN
 replace hb:=hb.trans (bN.mono hb.size)
 replace o1:=o1.base (aY _)
 replace o0:=o0.below bN
 obtain⟨oo,oc,rfl⟩:=aI o1
 clear bN
 refine hK.out _ _ hS (λ_=>?_)
 clear hK K
 (try simp only[Act.put,aW,aV,aU,aT,aS,aR])
 refine wpAnyH_ready (rs:=[6]) (by kernel_rfl) (by simp) ?_
 refine aL rfl (λK hK=>?_) bY
 have bN:=(ay _ W2).alloc (aH W2.heap.size) (.cells #[.string ⟨#[41]⟩] 9)
 have o2:OS _ 0 _ [⟨#[41]⟩]:=eY (l:=[.string ⟨#[41]⟩]) rfl (bO W2 _) (aY _) (by simp)
 replace hS:=aF hS bN
 replace hb:=hb.trans (bN.mono hb.size)
 replace o0:=o0.below bN
 replace o1:=o1.below bN
 clear bN
 go_simp
 refine hK.out _ _ hS (λ_=>?_)
 clear hK K
 (try simp only[Act.put,aW,aV,aU,aT,aS,aR])
 generalize hsz2:W2.heap.size=z2 at *
 generalize W2.alloc _=W3 at *
 rotate_left
 refine aL rfl (λK hK=>?_) bY
 have bN:=(ay _ W1).alloc (aH W1.heap.size) (.cells #[.string ⟨#[41]⟩] 9)
 have o2:OS _ 0 _ [⟨#[41]⟩]:=eY (l:=[.string ⟨#[41]⟩]) rfl (bO W1 _) (aY _) (by simp)
 replace hS:=aF hS bN
 replace hb:=hb.trans (bN.mono hb.size)
 replace o0:=o0.below bN
 clear bN
 go_simp
 refine hK.out _ _ hS (λ_=>?_)
 clear hK K
 (try simp only[Act.put,aW,aV,aU,aT,aS,aR])
 generalize hsz2:W1.heap.size=z2 at *
 generalize W1.alloc _=W2 at *
 refine wpAnyH_ready (rs:=[5]) (by kernel_rfl) (by simp) ?_
 refine aL rfl (λK hK=>?_) bY
 go_simp
 refine(cc _).mono ?_
 rintro e W3 ⟨v1,rfl,bN,o1⟩
 replace hS:=aF hS bN
 replace hb:=hb.trans (bN.mono hb.size)
 replace o1:=o1.base (aY _)
 replace o0:=o0.below bN
 replace o2:=o2.below bN
 obtain⟨oo,oc,rfl⟩:=aI o1
 clear bN
 refine hK.out _ _ hS (λ_=>?_)
 clear hK K
 (try simp only[Act.put,aW,aV,aU,aT,aS,aR])
 rotate_left
 refine aL rfl (λK hK=>?_) ?_
 go_simp
 refine(cc _).mono ?_
 rintro e W1 ⟨v1,rfl,bN,o1⟩
 replace hS:=aF hS bN
 replace hb:=hb.trans (bN.mono hb.size)
 replace o1:=o1.base (aY _)
 obtain⟨oo,oc,rfl⟩:=aI o1
 clear bN
 refine hK.out _ _ hS (λ_=>?_)
 clear hK K
 (try simp only[Act.put,aW,aV,aU,aT,aS,aR])
 refine wpAnyH_ready (rs:=[2,6]) (by kernel_rfl) (by simp) ?_
 refine aL rfl (λK hK=>?_) ?_
 have bN:=(ay _ W1).alloc (aH W1.heap.size) (.cells #[.string t,.string ⟨#[40]⟩] 9)
 have o0:OS _ 0 _ [t,⟨#[40]⟩]:=eY (l:=[.string t,.string ⟨#[40]⟩]) rfl (bO W1 _) (aY _) (by simp)
 replace hS:=aF hS bN
 replace hb:=hb.trans (bN.mono hb.size)
 replace o1:=o1.below bN
 clear bN
 go_simp
 refine hK.out _ _ hS (λ_=>?_)
 clear hK K
 (try simp only[Act.put,aW,aV,aU,aT,aS,aR])
 generalize hsz0:W1.heap.size=z0 at *
 generalize W1.alloc _=W2 at *
 refine wpAnyH_ready (rs:=[6]) (by kernel_rfl) (by simp) ?_
 refine aL rfl (λK hK=>?_) bY
 have bN:=(ay _ W2).alloc (aH W2.heap.size) (.cells #[.string ⟨#[41]⟩] 9)
 have o2:OS _ 0 _ [⟨#[41]⟩]:=eY (l:=[.string ⟨#[41]⟩]) rfl (bO W2 _) (aY _) (by simp)
 replace hS:=aF hS bN
 replace hb:=hb.trans (bN.mono hb.size)
 replace o1:=o1.below bN
 replace o0:=o0.below bN
 clear bN
 go_simp
 refine hK.out _ _ hS (λ_=>?_)
 clear hK K
 (try simp only[Act.put,aW,aV,aU,aT,aS,aR])
 generalize hsz2:W2.heap.size=z2 at *
 generalize W2.alloc _=W3 at *
 rotate_left
 refine aL rfl (λK hK=>?_) bY
 have bN:=(ay _ W1).alloc (aH W1.heap.size) (.cells #[.string ⟨#[41]⟩] 9)
 have o2:OS _ 0 _ [⟨#[41]⟩]:=eY (l:=[.string ⟨#[41]⟩]) rfl (bO W1 _) (aY _) (by simp)
 replace hS:=aF hS bN
 replace hb:=hb.trans (bN.mono hb.size)
 replace o1:=o1.below bN
 clear bN
 go_simp
 refine hK.out _ _ hS (λ_=>?_)
 clear hK K
 (try simp only[Act.put,aW,aV,aU,aT,aS,aR])
 generalize hsz2:W1.heap.size=z2 at *
 generalize W1.alloc _=W2 at *
 refine wpAnyH_ready (rs:=[2]) (by kernel_rfl) (by simp) ?_
 refine aL rfl (λK hK=>?_) bY
 have bN:=(ay _ W2).alloc (aH W2.heap.size) (.cells #[.string t,.string ⟨#[40]⟩] 9)
 have o0:OS _ 0 _ [t,⟨#[40]⟩]:=eY (l:=[.string t,.string ⟨#[40]⟩]) rfl (bO W2 _) (aY _) (by simp)
 replace hS:=aF hS bN
 replace hb:=hb.trans (bN.mono hb.size)
 replace o1:=o1.below bN
 replace o2:=o2.below bN
 clear bN
 go_simp
 refine hK.out _ _ hS (λ_=>?_)
 clear hK K
 (try simp only[Act.put,aW,aV,aU,aT,aS,aR])
 generalize hsz0:W2.heap.size=z0 at *
 generalize W2.alloc _=W3 at *
 rotate_left
 refine aL rfl (λK hK=>?_) bY
 have bN:=(ay _ W0).alloc (aH W0.heap.size) (.cells #[.string ⟨#[41]⟩] 9)
 have o2:OS _ 0 _ [⟨#[41]⟩]:=eY (l:=[.string ⟨#[41]⟩]) rfl (bO W0 _) (aY _) (by simp)
 replace hS:=aF hS bN
 replace hb:=hb.trans (bN.mono hb.size)
 clear bN
 go_simp
 refine hK.out _ _ hS (λ_=>?_)
 clear hK K
 (try simp only[Act.put,aW,aV,aU,aT,aS,aR])
 generalize hsz2:W0.heap.size=z2 at *
 generalize W0.alloc _=W1 at *
 refine wpAnyH_ready (rs:=[2,5]) (by kernel_rfl) (by simp) ?_
 refine aL rfl (λK hK=>?_) ?_
 have bN:=(ay _ W1).alloc (aH W1.heap.size) (.cells #[.string t,.string ⟨#[40]⟩] 9)
 have o0:OS _ 0 _ [t,⟨#[40]⟩]:=eY (l:=[.string t,.string ⟨#[40]⟩]) rfl (bO W1 _) (aY _) (by simp)
 replace hS:=aF hS bN
 replace hb:=hb.trans (bN.mono hb.size)
 replace o2:=o2.below bN
 clear bN
 go_simp
 refine hK.out _ _ hS (λ_=>?_)
 clear hK K
 (try simp only[Act.put,aW,aV,aU,aT,aS,aR])
 generalize hsz0:W1.heap.size=z0 at *
 generalize W1.alloc _=W2 at *
 refine wpAnyH_ready (rs:=[5]) (by kernel_rfl) (by simp) ?_
 refine aL rfl (λK hK=>?_) bY
 go_simp
 refine(cc _).mono ?_
 rintro e W3 ⟨v1,rfl,bN,o1⟩
 replace hS:=aF hS bN
 replace hb:=hb.trans (bN.mono hb.size)
 replace o1:=o1.base (aY _)
 replace o2:=o2.below bN
 replace o0:=o0.below bN
 obtain⟨oo,oc,rfl⟩:=aI o1
 clear bN
 refine hK.out _ _ hS (λ_=>?_)
 clear hK K
 (try simp only[Act.put,aW,aV,aU,aT,aS,aR])
 rotate_left
 refine aL rfl (λK hK=>?_) bY
 go_simp
 refine(cc _).mono ?_
 rintro e W2 ⟨v1,rfl,bN,o1⟩
 replace hS:=aF hS bN
 replace hb:=hb.trans (bN.mono hb.size)
 replace o1:=o1.base (aY _)
 replace o2:=o2.below bN
 obtain⟨oo,oc,rfl⟩:=aI o1
 clear bN
 refine hK.out _ _ hS (λ_=>?_)
 clear hK K
 (try simp only[Act.put,aW,aV,aU,aT,aS,aR])
 refine wpAnyH_ready (rs:=[2]) (by kernel_rfl) (by simp) ?_
 refine aL rfl (λK hK=>?_) bY
 have bN:=(ay _ W2).alloc (aH W2.heap.size) (.cells #[.string t,.string ⟨#[40]⟩] 9)
 have o0:OS _ 0 _ [t,⟨#[40]⟩]:=eY (l:=[.string t,.string ⟨#[40]⟩]) rfl (bO W2 _) (aY _) (by simp)
 replace hS:=aF hS bN
 replace hb:=hb.trans (bN.mono hb.size)
 replace o2:=o2.below bN
 replace o1:=o1.below bN
 clear bN
 go_simp
 refine hK.out _ _ hS (λ_=>?_)
 clear hK K
 (try simp only[Act.put,aW,aV,aU,aT,aS,aR])
 generalize hsz0:W2.heap.size=z0 at *
 generalize W2.alloc _=W3 at *
 rotate_left
 all_goals
  have mP:=P7 W3 _ _ _ _ _ _ o0 o1 o2 (by simp;omega) (by first|(simp;done)|(simp;omega))
  rw[Pt.out] at mP
  clear o0 o1 o2
  refine wpAnyH_ready (rs:=[7]) (by kernel_rfl) (by simp) ?_
  refine aL rfl (λK hK=>?_) bY
  go_simp
  refine hK.out _ _ (aF hS ((ay _ W3).alloc (aH _) _)) (λhS2=>?_)
  clear hK K
  (try simp only[Act.put,aW,aV,aU,aT,aS,aR])
  refine wpAnyH_ready (rs:=[8]) (by kernel_rfl) (by simp) ?_
  refine aL rfl (λK hK=>?_) bY
  go_simp
  refine mP.mono ?_
  rintro e W9 ⟨v9,rfl,b9,o9⟩
  refine hK.out _ _ (aF hS b9) (λhS=>?_)
  clear hK K mP hS2
  (try simp only[Act.put,aW,aV,aU,aT,aS,aR])
  (refine It.nH 9 ?_ rfl (by kernel_rfl) (λ_ _ _ h=>h) (Or.inl ⟨by rfl,?_⟩) hS ?_);rotate_left;(focus (intro w' hSw;(have g2:=aA hSw 2);(have g3:=aA hSw 3);simp only[dI,dQ,eU] at g2 g3;go_simp;(try with_reducible rfl)));(try simp only[Act.put,aW,aV,aU,aT,aS,aR])
  refine wpAnyH_done (by kernel_rfl) ?_ _
  have HF:=hid (gI (hb.trans (b9.mono hb.size)) (o9.base hb.size))
  clear o9 b9 hb hS
  go_wp2
  go_ret
  exact⟨_,rfl,HF.out.1,HF.out.2⟩
theorem Uo(hc:c<=1000000)(hc1:3<=c):TK 92 #[dJ 11 a c t i b] (kL (c-3) [tK]++[⟨#[102,111,114]⟩,t,⟨#[105,110]⟩,tK,⟨#[46,46]⟩,tK,tK]) w:=by
 have cc:=λw=>(show Calls prog 89 #[.int .i64 ((c-3:Nat):Int)] w λe w'=>∃v,e=.returned v/\Below w.heap.size w w'/\OS w' w.heap.size v (kL (c-3) [tK]) from Ad (c-3) (by omega) w)
 have j1:IntKind.i64.wrap ((c:Int)-3)=((c-3:Nat):Int):=by rw[IntKind.wrap_i64];omega
 unfold TK dJ at *
 have hn:=bO w (.cells #[.int .i64 11,.int .i64 a,.int .i64 (c:Nat),.string t,.int .i64 i,.int .u64 b] 31)
 have hb:Below w.heap.size w (w.alloc (.cells #[.int .i64 11,.int .i64 a,.int .i64 (c:Nat),.string t,.int .i64 i,.int .u64 b] 31)):=(ay _ w).alloc (aH _) _
 revert cc
 generalize hcl:kL (c-3) [tK]=CL
 have Q7:CL.length<=2000000:=by rw[<- hcl];(rw[mZ];simp;omega)
 clear hcl
 intro cc
 obtain⟨L0,hL0⟩:∃L0,CL++[⟨#[102,111,114]⟩,t,⟨#[105,110]⟩,tK,⟨#[46,46]⟩,tK,tK]=L0:=⟨_,rfl⟩
 rw[hL0]
 have Pt:=hid hL0
 clear hL0
 go_enter func92,ntmps92
 go_upto_region 13 with fail
 generalize w.alloc _=W at *
 refine wp_region_held_drew (S:=λw'=>w'.heap[w.heap.size]? = some (.cells #[.int .i64 11,.int .i64 a,.int .i64 (c:Nat),.string t,.int .i64 i,.int .u64 b] 31 (0,0))) (by kernel_rfl) hn ?_
 intro hS
 replace hb:=hb.drew
 clear hn
 iterate 3 ((refine It.nH 0 ?_ rfl (by kernel_rfl) (λ_ _ _ h=>h) (Or.inl ⟨by rfl,?_⟩) hS ?_);rotate_left;(focus (intro w' hSw;(have g2:=aA hSw 2);(have g3:=aA hSw 3);simp only[dI,dQ,eU] at g2 g3;go_simp;(try with_reducible rfl)));(try simp only[Act.put,aW,aV,aU,aT,aS,aR]))
 iterate 2 ((refine It.nH 4 ?_ rfl (by kernel_rfl) (λ_ _ _ h=>h) (Or.inl ⟨by rfl,?_⟩) hS ?_);rotate_left;(focus (intro w' hSw;(have g2:=aA hSw 2);(have g3:=aA hSw 3);simp only[dI,dQ,eU] at g2 g3;go_simp;(try with_reducible rfl)));(try simp only[Act.put,aW,aV,aU,aT,aS,aR]))
 generalize W.drew=W0 at *
 refine wpAnyH_ready (rs:=[3,6]) (by kernel_rfl) (by simp) ?_
 refine aL rfl (λK hK=>?_) ?_
 go_simp
 refine(cc _).mono ?_
 rintro e W1 ⟨v0,rfl,bN,o0⟩
 replace hS:=aF hS bN
 replace hb:=hb.trans (bN.mono hb.size)
 replace o0:=o0.base (aY _)
 obtain⟨oo,oc,rfl⟩:=aI o0
 clear bN
 refine hK.out _ _ hS (λ_=>?_)
 clear hK K
 (try simp only[Act.put,aW,aV,aU,aT,aS,aR])
 refine wpAnyH_ready (rs:=[6]) (by kernel_rfl) (by simp) ?_
 refine aL rfl (λK hK=>?_) bY
 have bN:=(ay _ W1).alloc (aH W1.heap.size) (.cells #[.string ⟨#[102,111,114]⟩,.string t,.string ⟨#[105,110]⟩,.string ⟨#[]⟩,.string ⟨#[46,46]⟩,.string ⟨#[]⟩,.string ⟨#[]⟩] 9)
 have o1:OS _ 0 _ [⟨#[102,111,114]⟩,t,⟨#[105,110]⟩,tK,⟨#[46,46]⟩,tK,tK]:=eY (l:=[.string ⟨#[102,111,114]⟩,.string t,.string ⟨#[105,110]⟩,.string ⟨#[]⟩,.string ⟨#[46,46]⟩,.string ⟨#[]⟩,.string ⟨#[]⟩]) rfl (bO W1 _) (aY _) (by simp)
 replace hS:=aF hS bN
 replace hb:=hb.trans (bN.mono hb.size)
 replace o0:=o0.below bN
 clear bN
 go_simp
 refine hK.out _ _ hS (λ_=>?_)
 clear hK K
 (try simp only[Act.put,aW,aV,aU,aT,aS,aR])
 generalize hsz1:W1.heap.size=z1 at *
 generalize W1.alloc _=W2 at *
 rotate_left
 refine aL rfl (λK hK=>?_) bY
 have bN:=(ay _ W0).alloc (aH W0.heap.size) (.cells #[.string ⟨#[102,111,114]⟩,.string t,.string ⟨#[105,110]⟩,.string ⟨#[]⟩,.string ⟨#[46,46]⟩,.string ⟨#[]⟩,.string ⟨#[]⟩] 9)
 have o1:OS _ 0 _ [⟨#[102,111,114]⟩,t,⟨#[105,110]⟩,tK,⟨#[46,46]⟩,tK,tK]:=eY (l:=[.string ⟨#[102,111,114]⟩,.string t,.string ⟨#[105,110]⟩,.string ⟨#[]⟩,.string ⟨#[46,46]⟩,.string ⟨#[]⟩,.string ⟨#[]⟩]) rfl (bO W0 _) (aY _) (by simp)
 replace hS:=aF hS bN
 replace hb:=hb.trans (bN.mono hb.size)
 clear bN
 go_simp
 refine hK.out _ _ hS (λ_=>?_)
 clear hK K
 (try simp only[Act.put,aW,aV,aU,aT,aS,aR])
 generalize hsz1:W0.heap.size=z1 at *
 generalize W0.alloc _=W1 at *
 refine wpAnyH_ready (rs:=[3]) (by kernel_rfl) (by simp) ?_
 refine aL rfl (λK hK=>?_) bY
 go_simp
 refine(cc _).mono ?_
 rintro e W2 ⟨v0,rfl,bN,o0⟩
 replace hS:=aF hS bN
 replace hb:=hb.trans (bN.mono hb.size)
 replace o0:=o0.base (aY _)
 replace o1:=o1.below bN
 obtain⟨oo,oc,rfl⟩:=aI o0
 clear bN
 refine hK.out _ _ hS (λ_=>?_)
 clear hK K
 (try simp only[Act.put,aW,aV,aU,aT,aS,aR])
 rotate_left
 all_goals
  have mP:=aA4 W2 _ _ _ _ o0 o1 (by simp;omega) (by first|(simp;done)|(simp;omega))
  rw[Pt.out] at mP
  clear o0 o1
  refine wpAnyH_ready (rs:=[7]) (by kernel_rfl) (by simp) ?_
  refine aL rfl (λK hK=>?_) bY
  go_simp
  refine hK.out _ _ (aF hS ((ay _ W2).alloc (aH _) _)) (λhS2=>?_)
  clear hK K
  (try simp only[Act.put,aW,aV,aU,aT,aS,aR])
  refine wpAnyH_ready (rs:=[8]) (by kernel_rfl) (by simp) ?_
  refine aL rfl (λK hK=>?_) bY
  go_simp
  refine mP.mono ?_
  rintro e W9 ⟨v9,rfl,b9,o9⟩
  refine hK.out _ _ (aF hS b9) (λhS=>?_)
  clear hK K mP hS2
  (try simp only[Act.put,aW,aV,aU,aT,aS,aR])
  (refine It.nH 9 ?_ rfl (by kernel_rfl) (λ_ _ _ h=>h) (Or.inl ⟨by rfl,?_⟩) hS ?_);rotate_left;(focus (intro w' hSw;(have g2:=aA hSw 2);(have g3:=aA hSw 3);simp only[dI,dQ,eU] at g2 g3;go_simp;(try with_reducible rfl)));(try simp only[Act.put,aW,aV,aU,aT,aS,aR])
  refine wpAnyH_done (by kernel_rfl) ?_ _
  have HF:=hid (gI (hb.trans (b9.mono hb.size)) (o9.base hb.size))
  clear o9 b9 hb hS
  go_wp2
  go_ret
  exact⟨_,rfl,HF.out.1,HF.out.2⟩
end
section
variable (a:Int) (c:Nat) (t:ByteArray) (i b:Int) (w:World)
theorem Zu(hc:c<=1000000):TK 61 #[dJ 5 a c t i b] ([⟨#[123]⟩]++kL c [tK]++[⟨#[125]⟩]) w:=by
 have cc:=λw=>Ad c hc w
 have Q7:(kL c [tK]).length<=2000000:=by rw[mZ];simp;omega
 revert cc Q7
 generalize kL c [tK]=CL
 intro cc Q7
 unfold TK dJ at *
 have bA:=iM w (.cells #[.int .i64 5,.int .i64 a,.int .i64 (c:Nat),.string t,.int .i64 i,.int .u64 b] 31) (.cells #[.string ⟨#[123]⟩] 9)
 have o1:OS ((w.alloc (.cells #[.int .i64 5,.int .i64 a,.int .i64 (c:Nat),.string t,.int .i64 i,.int .u64 b] 31)).alloc (.cells #[.string ⟨#[123]⟩] 9)) 0 (.slice (some ⟨w.heap.size+1,0,none⟩) 1 1) [⟨#[123]⟩]:=(kg w (.cells #[.int .i64 5,.int .i64 a,.int .i64 (c:Nat),.string t,.int .i64 i,.int .u64 b] 31) [.string ⟨#[123]⟩] [⟨#[123]⟩] rfl (by simp)).base (aY _)
 obtain⟨L0,hL0⟩:∃L0,[⟨#[123]⟩]++CL++[⟨#[125]⟩]=L0:=⟨_,rfl⟩
 rw[hL0]
 have Pt:=hid hL0
 clear hL0
 go_enter func61,ntmps61
 go_wp2_with (first|(go_at_call 89;(with_reducible refine(cc _).mono ?_);rintro e w3 ⟨v,rfl,b3,o3⟩;(have b3':=bA.trans (b3.mono bA.size));(have b4:Below w3.heap.size w3 (w3.alloc (.cells #[.string ⟨#[125]⟩] 9)):=(ay _ w3).alloc (aH _) _);(have mP:=P7 (w3.alloc (.cells #[.string ⟨#[125]⟩] 9)) _ _ _ _ _ _ ((o1.below b3).below b4) ((o3.base (aY _)).below b4) (show OS _ 0 (.slice (some ⟨w3.heap.size,0,none⟩) 1 1) [⟨#[125]⟩] from eY (l:=[.string ⟨#[125]⟩]) rfl (bO w3 _) (aY _) (by simp)) (by simp;omega) (by first|(simp;done)|(simp;omega)));rw[Pt.out] at mP;(have Pw:=hid (b3'.trans (b4.mono b3'.size)));clear b3 b3' b4 bA cc;(obtain⟨oo,oc,rfl⟩:=aI o3);clear o3 o1;simp only[dR] at mP Pw)|(go_at_call 90;(with_reducible refine mP.mono ?_);rintro e w9 ⟨v9,rfl,b9,o9⟩;(have HF:=hid (gI (Pw.out.trans (b9.mono (by have:=Pw.out.size;simp at this;omega))) (o9.base (by have:=Pw.out.size;simp at this;omega))));clear b9 o9 mP))
 go_ret
 exact⟨_,rfl,HF.out.1,HF.out.2⟩
theorem Ul(hc:c<=1000000):TK 92 #[dJ 15 a c t i b] ([⟨#[114,101,116,117,114,110]⟩]++kL c [tK]++[⟨#[59]⟩]) w:=by
 have cc:=λw=>Ad c hc w
 have Q7:(kL c [tK]).length<=2000000:=by rw[mZ];simp;omega
 revert cc Q7
 generalize kL c [tK]=CL
 intro cc Q7
 unfold TK dJ at *
 have bA:=iM w (.cells #[.int .i64 15,.int .i64 a,.int .i64 (c:Nat),.string t,.int .i64 i,.int .u64 b] 31) (.cells #[.string ⟨#[114,101,116,117,114,110]⟩] 9)
 have o1:OS ((w.alloc (.cells #[.int .i64 15,.int .i64 a,.int .i64 (c:Nat),.string t,.int .i64 i,.int .u64 b] 31)).alloc (.cells #[.string ⟨#[114,101,116,117,114,110]⟩] 9)) 0 (.slice (some ⟨w.heap.size+1,0,none⟩) 1 1) [⟨#[114,101,116,117,114,110]⟩]:=(kg w (.cells #[.int .i64 15,.int .i64 a,.int .i64 (c:Nat),.string t,.int .i64 i,.int .u64 b] 31) [.string ⟨#[114,101,116,117,114,110]⟩] [⟨#[114,101,116,117,114,110]⟩] rfl (by simp)).base (aY _)
 obtain⟨L0,hL0⟩:∃L0,[⟨#[114,101,116,117,114,110]⟩]++CL++[⟨#[59]⟩]=L0:=⟨_,rfl⟩
 rw[hL0]
 have Pt:=hid hL0
 clear hL0
 go_enter func92,ntmps92
 go_wp2_with (first|(go_at_call 89;(with_reducible refine(cc _).mono ?_);rintro e w3 ⟨v,rfl,b3,o3⟩;(have b3':=bA.trans (b3.mono bA.size));(have b4:Below w3.heap.size w3 (w3.alloc (.cells #[.string ⟨#[59]⟩] 9)):=(ay _ w3).alloc (aH _) _);(have mP:=P7 (w3.alloc (.cells #[.string ⟨#[59]⟩] 9)) _ _ _ _ _ _ ((o1.below b3).below b4) ((o3.base (aY _)).below b4) (show OS _ 0 (.slice (some ⟨w3.heap.size,0,none⟩) 1 1) [⟨#[59]⟩] from eY (l:=[.string ⟨#[59]⟩]) rfl (bO w3 _) (aY _) (by simp)) (by simp;omega) (by first|(simp;done)|(simp;omega)));rw[Pt.out] at mP;(have Pw:=hid (b3'.trans (b4.mono b3'.size)));clear b3 b3' b4 bA cc;(obtain⟨oo,oc,rfl⟩:=aI o3);clear o3 o1;simp only[dR] at mP Pw)|(go_at_call 90;(with_reducible refine mP.mono ?_);rintro e w9 ⟨v9,rfl,b9,o9⟩;(have HF:=hid (gI (Pw.out.trans (b9.mono (by have:=Pw.out.size;simp at this;omega))) (o9.base (by have:=Pw.out.size;simp at this;omega))));clear b9 o9 mP))
 go_ret
 exact⟨_,rfl,HF.out.1,HF.out.2⟩
end
theorem oL(k a:Int)(c:Nat)(t:ByteArray)(i b:Int)(ts:List ByteArray)(w:World)(hk:¬k=1/\¬k=2/\¬k=3/\¬k=4/\¬k=5/\¬k=12/\¬k=25)(h5:(l8 k).sort=5)(h:∀w',Below w.heap.size w w'->TK 92 #[dJ k a c t i b] ts w'):TK 61 #[dJ k a c t i b] ts w:=by
 (have ne:∀j:Int,¬k=j->(k==j)=false:=λj hj=>by simpa using hj);(have n1:=ne 1 (by omega));(have n2:=ne 2 (by omega));(have n3:=ne 3 (by omega));(have n4:=ne 4 (by omega));(have n5:=ne 5 (by omega));(have n12:=ne 12 (by omega));(have n25:=ne 25 (by omega));(have cr:=rM k);(have bw:Below w.heap.size w (w.alloc (.cells #[.int .i64 k,.int .i64 a,.int .i64 (c:Nat),.string t,.int .i64 i,.int .u64 b] 31)):=(ay _ w).alloc (aH _) _);(have hn:=bO w (.cells #[.int .i64 k,.int .i64 a,.int .i64 (c:Nat),.string t,.int .i64 i,.int .u64 b] 31));(have QX:=vg)
 unfold Kj at cr
 rw[h5] at cr
 generalize l8 k=r at *
 unfold TK dJ at *
 clear ne hk h5
 go_enter func61,ntmps61
 go_wp2_with (first|(go_at_call 84;(with_reducible refine(cr _).mono ?_);rintro e w2 ⟨rfl,hB2⟩;(have b2:=bw.trans (hB2.mono bw.size));(have hn2:=aF hn hB2);(have q0:=aA hn2 0);(have q1:=aA hn2 1);(have q2:=aA hn2 2);(have q3:=aA hn2 3);(have q4:=aA hn2 4);(have q5:=aA hn2 5);simp only[dI,dQ,eU] at q0 q1 q2 q3 q4 q5;(have HB:=hid b2);clear hB2 b2 hn2 hn cr bw)|(go_at_call 92;(with_reducible refine(h _ HB.out).mono ?_);rintro e w3 ⟨v,rfl,hB3,hO3⟩;(have HF:=hid (gI (HB.out.trans (hB3.mono HB.out.size)) (OS.base hO3 HB.out.size)));clear hB3 hO3 h))
 go_ret
 exact⟨_,rfl,HF.out.1,HF.out.2⟩
theorem mV(k a:Int)(c:Nat)(t:ByteArray)(i b:Int)(ts:List ByteArray)(w:World)(hk:¬k=1/\¬k=2/\¬k=3/\¬k=4/\¬k=5/\¬k=12/\¬k=25)(h5:(l8 k).sort=7)(h:∀w',Below w.heap.size w w'->TK 93 #[dJ k a c t i b] ts w'):TK 61 #[dJ k a c t i b] ts w:=by
 (have ne:∀j:Int,¬k=j->(k==j)=false:=λj hj=>by simpa using hj);(have n1:=ne 1 (by omega));(have n2:=ne 2 (by omega));(have n3:=ne 3 (by omega));(have n4:=ne 4 (by omega));(have n5:=ne 5 (by omega));(have n12:=ne 12 (by omega));(have n25:=ne 25 (by omega));(have cr:=rM k);(have bw:Below w.heap.size w (w.alloc (.cells #[.int .i64 k,.int .i64 a,.int .i64 (c:Nat),.string t,.int .i64 i,.int .u64 b] 31)):=(ay _ w).alloc (aH _) _);(have hn:=bO w (.cells #[.int .i64 k,.int .i64 a,.int .i64 (c:Nat),.string t,.int .i64 i,.int .u64 b] 31));(have QX:=vg)
 unfold Kj at cr
 rw[h5] at cr
 generalize l8 k=r at *
 unfold TK dJ at *
 clear ne hk h5
 go_enter func61,ntmps61
 go_wp2_with (first|(go_at_call 84;(with_reducible refine(cr _).mono ?_);rintro e w2 ⟨rfl,hB2⟩;(have b2:=bw.trans (hB2.mono bw.size));(have hn2:=aF hn hB2);(have q0:=aA hn2 0);(have q1:=aA hn2 1);(have q2:=aA hn2 2);(have q3:=aA hn2 3);(have q4:=aA hn2 4);(have q5:=aA hn2 5);simp only[dI,dQ,eU] at q0 q1 q2 q3 q4 q5;(have HB:=hid b2);clear hB2 b2 hn2 hn cr bw)|(go_at_call 93;(with_reducible refine(h _ HB.out).mono ?_);rintro e w3 ⟨v,rfl,hB3,hO3⟩;(have HF:=hid (gI (HB.out.trans (hB3.mono HB.out.size)) (OS.base hO3 HB.out.size)));clear hB3 hO3 h))
 go_ret
 exact⟨_,rfl,HF.out.1,HF.out.2⟩
section
variable (a:Int) (c:Nat) (t:ByteArray) (i b:Int) (w:World)
theorem WG(h0:-9223372036854775808<=i)(h1:i<=9223372036854775807)(ht:Tabs w):TK 93 #[dJ 26 a c t i b] [⟨(Ev i).toArray⟩] w:=by
 have bw:Below w.heap.size w (w.alloc (.cells #[.int .i64 26,.int .i64 a,.int .i64 (c:Nat),.string t,.int .i64 i,.int .u64 b] 31)):=(ay _ w).alloc (aH _) _
 have ci:=V6 i h0 h1 _ (ht.below bw)
 generalize (⟨(Ev i).toArray⟩:ByteArray)=x at *
 unfold TK dJ
 clear ht
 go_enter func93,ntmps93
 go_wp2_with (go_at_call 131;(with_reducible refine ci.mono ?_);rintro e w2 ⟨rfl,hB2⟩;(have HB:=hid (bw.trans (hB2.mono bw.size)));clear hB2 ci bw)
 go_ret
 exact⟨_,rfl,HB.out.alloc HB.out.size _,(SY w2 [.string x] [x] rfl (by simp)).base HB.out.size⟩
end
end Go.Proofs.YtgchnkgolclmgaaGreatDoor.W.Tr
