import Derived.Test.YtgchnkgolclmgaaGreatDoorJD
import Derived.Deep.RegionHeld3
import Derived.Deep.DeepCutAuto
import Derived.WalkMore
import Derived.RegionTactic
import Derived.Laws.BytesArg
import Derived.Laws.IdiomStrings
open List renaming length_take → bY, getElem?_eq_getElem → dQ, take_append_drop → eU
open Nat renaming le_refl → aL
open Go.World renaming setCell → aH, frozen?_setCell → aY
open Go.IntKind renaming i64 → ay, wrap_i64 → bO
open Int renaming toNat_natCast → dI
open Go.Proofs.Tryz
set_option maxRecDepth 1000000
set_option maxHeartbeats 8000000
namespace Go.Proofs.YtgchnkgolclmgaaGreatDoor.W
open Go.ChangeShapes Go.WideShapes Go.RowKit
theorem iq{w:World}{b k:Nat}{c:Array Value}(f:∀i,w.cell? ⟨b,i,none⟩=c[i]?)(x:Value)(hk:k<c.size)(j:Nat):(w.setCell ⟨b,k,none⟩ x).cell? ⟨b,j,none⟩=(c.set k x hk)[j]?:=by
 by_cases h:k=j
 ·subst h
  have s0:w.cell? ⟨b,k,none⟩=some c[k]:=by rw[f k,Array.getElem?_eq_getElem hk]
  rw[World.cell?_setCell_same (h:=s0),Array.getElem?_set_self]
 ·rw[World.cell?_setCell_other (h:=by intro e;injection e with e1 e2;exact h e2),f j,Array.getElem?_set_ne _ h]
theorem Ld(a d k:Nat)(hk:4<=k)(hd:d<16)(ha:a%2 ^ k=0)(h:a<18446744073709551616):bits .or .u64 (a:Int) (d:Int)=((a+d:Nat):Int):=by
 have p:2 ^ 4<=2 ^ k:=Nat.pow_le_pow_right (by decide) hk
 rw[u64_or_nat _ _ (by omega) (by omega),nat_join k a d ha (by omega)]
theorem IV(b:Nat)(v z d p sh v1 v2:Int)(wd:Bool)(w:World)(hcell:∀i,w.cell? ⟨b,i,none⟩ = #[Value.int .u64 v,.int .i64 p,.bool wd][i]?)(hfz:∀i,w.frozen? ⟨b,i,none⟩=false)
  (z0:0<=z) (z1:z<=100) (hsh:4*(z+1)=sh) (hv0:0<=v) (hv1:v<18446744073709551616) (h1:IntKind.u64.wrap (v*2 ^ sh.toNat)=v1) (h2:bits .or .u64 v1 d=v2) (hw:v=0\/(0<v/\(v.toNat.log2:Int)+1+sh<=64)) :
  Calls prog 171 #[.pointer (some ⟨b,0,none⟩),.int .i64 z,.int .u64 d] w λe w'=>e=.returned (.tuple #[])/\w'=w.setCell ⟨b,0,none⟩ (.int .u64 v2):=by
 have c0:=hcell 0
 have f0:=hfz 0
 simp at c0
 have e1:ay.wrap (4*(z+1))=sh:=by rw[bO];omega
 have s0:¬sh<0:=by omega
 rcases hw with h|⟨hv,hl⟩
 ·subst h
  rw[Int.zero_mul] at h1
  have e0:v1=0:=by rw[<- h1];rfl
  subst e0
  clear h1
  go_enter func171,ntmps171
  go_wp2_with fail
  go_end0
  exact⟨rfl,rfl⟩
 ·have c:=Ac v hv hv1
  have n0:¬v=0:=by omega
  have n1:¬64<(v.toNat.log2:Int)+1+sh:=by omega
  have n2:ay.wrap ((v.toNat.log2:Int)+1+sh)=(v.toNat.log2:Int)+1+sh:=by rw[bO];omega
  have n3:min sh.toNat 64=sh.toNat:=by omega
  generalize (v.toNat.log2:Int)=g at *
  clear hl hv
  go_enter func171,ntmps171
  go_wp2_with (go_at_call 161;refine(c _).mono ?_;rintro e w' ⟨rfl,rfl⟩)
  go_end0
  exact⟨rfl,rfl⟩
theorem IU(b:Nat)(v z d p sh:Int)(wd:Bool)(w:World)(hcell:∀i,w.cell? ⟨b,i,none⟩ = #[Value.int .u64 v,.int .i64 p,.bool wd][i]?)(hfz:∀i,w.frozen? ⟨b,i,none⟩=false)
  (z0:0<=z) (z1:z<=100) (hsh:4*(z+1)=sh) (hv0:0<v) (hv1:v<18446744073709551616) (hw:64<(v.toNat.log2:Int)+1+sh) :
  Calls prog 171 #[.pointer (some ⟨b,0,none⟩),.int .i64 z,.int .u64 d] w λe w'=>e=.returned (.tuple #[])/\w'=w.setCell ⟨b,2,none⟩ (.bool true):=by
 have c0:=hcell 0
 have c2:=hcell 2
 have f2:=hfz 2
 simp at c0 c2
 have e1:ay.wrap (4*(z+1))=sh:=by rw[bO];omega
 have c:=Ac v hv0 hv1
 have lg:v.toNat.log2<=63:=by
  apply Nat.le_of_not_lt
  intro hh
  have:2 ^ 64<=2 ^ v.toNat.log2:=Nat.pow_le_pow_right (by decide) hh
  have:=(lC (n:=v.toNat) (by omega)).1
  omega
 have n0:¬v=0:=by omega
 have n2:ay.wrap ((v.toNat.log2:Int)+1+sh)=(v.toNat.log2:Int)+1+sh:=by rw[bO];omega
 generalize (v.toNat.log2:Int)=g at *
 clear lg
 go_enter func171,ntmps171
 go_wp2_with (go_at_call 161;refine(c _).mono ?_;rintro e w' ⟨rfl,rfl⟩)
 refine bodyPost_ret (results_none rfl _ _ _) rfl ?_
 exact⟨rfl,rfl⟩
theorem Rj(b:Nat)(D:List UInt8)(v z:Nat)(c:UInt8)(d:Nat)(p:Int)(wd:Bool)(w:World)(hcell:∀i,w.cell? ⟨b,i,none⟩ = #[Value.int .u64 v,.int .i64 p,.bool wd][i]?)(hfz:∀i,w.frozen? ⟨b,i,none⟩=false)
  (hD:BO D v z wd) (hc:bT c=d) (hd:d≠0) (z1:z<=100) :
  Calls prog 171 #[.pointer (some ⟨b,0,none⟩),.int .i64 z,.int .u64 d] w λe w'=>e=.returned (.tuple #[])/\∃ (i:Nat) (x:Value) (v':Nat) (wd':Bool),w'=w.setCell ⟨b,i,none⟩ x/\(∀j,w'.cell? ⟨b,j,none⟩ = #[Value.int .u64 v',.int .i64 p,.bool wd'][j]?)/\BO (D++[c]) v' 0 wd':=by
 have hv:=hD.1
 have Dl:d<16:=by have:=fE c;omega
 by_cases hw:v=0\/v.log2+1+4*(z+1)<=64
 ·obtain⟨f1,f2⟩:=zL v z d Dl hw
  refine(IV b v z d p (4*(z+1)) ((v*2 ^ (4*(z+1)):Nat):Int) ((v*2 ^ (4*(z+1))+d:Nat):Int) wd w hcell hfz (by omega) (by omega) rfl (by omega) (by omega) ?_ ?_ ?_).mono ?_
  ·have e:(4*((z:Int)+1)).toNat=4*(z+1):=by omega
   have e2:(v:Int)*2 ^ (4*(z+1))=((v*2 ^ (4*(z+1)):Nat):Int):=by simp
   rw[e,e2,IntKind.wrap_u64]
   omega
  ·exact Ld _ d (4*(z+1)) (by omega) Dl (Nat.mul_mod_left _ _) (by omega)
  ·rcases hw with h|h
   ·exact Or.inl (by omega)
   ·by_cases h0:v=0
    ·exact Or.inl (by omega)
    ·exact Or.inr ⟨by omega,by rw[dI];omega⟩
  ·rintro e w' ⟨rfl,rfl⟩
   exact⟨rfl,0,_,_,wd,rfl,iq hcell _ (show 0<3 by decide),hD.fits c d hc hw⟩
 ·refine(IU b v z d p (4*(z+1)) wd w hcell hfz (by omega) (by omega) rfl (by omega) (by omega) (by rw[dI];omega)).mono ?_
  rintro e w' ⟨rfl,rfl⟩
  exact⟨rfl,2,_,v,true,rfl,iq hcell _ (show 2<3 by decide),hD.over c d hc hd (by omega) (by omega)⟩
def BG(l:List UInt8)(v p:Int)(wd:Bool)(r:List UInt8)(ok:Bool):Prop:=
 (ok=false/\readBody l=none) \/
 (ok=true/\0<=v/\v<18446744073709551616/\-1000<=p/\p<=1000/\r.length<=l.length/\∃ (D:List UInt8) (b:Nat),readBody l=jF (iI D) b r/\∀pw:Int,bH (iI D) (pw-4*b)=E5 v.toNat wd (pw+p))
theorem MS{c:UInt8}(h:bT c = -1):dY c=false:=by unfold dY;rw[h];decide
theorem wo{c:UInt8}(h:0<=bT c):dY c=true:=by unfold dY;exact decide_eq_true h
theorem Am(c:UInt8):((c.toNat:Int)==46)=(c==46):=by
 rw[Bool.eq_iff_iff,beq_iff_eq,beq_iff_eq]
 constructor
 ·intro e
  apply UInt8.toNat_inj.1
  have:c.toNat=46:=by omega
  rw[this];rfl
 ·intro e;subst e;rfl
theorem J6(s:ByteArray)(k:Nat)(h:k<s.size):(s.data.toList.drop k).head? = some s[k]:=by
 rw[List.head?_drop]
 rw[dQ (by rw[size_list];exact h)]
 rfl
structure Scan (s:ByteArray) (k:Nat) (point:Int) (D:List UInt8) (v z:Nat) (wd:Bool):Prop where
 le:k<=s.size
 place:Place (s.data.toList.take k) point D
 Dj:BO D v z wd
theorem Scan.bounds{s:ByteArray}{k:Nat}{point:Int}{D:List UInt8}{v z:Nat}{wd:Bool}(h:Scan s k point D v z wd):-1<=point/\point+1<=k/\z<=k/\D.length<=k:=by
 obtain⟨h1,h2,h3⟩:=h
 have hl:(s.data.toList.take k).length=k:=by rw[bY,size_list];omega
 have hz:=h3.2.1
 rcases h2 with⟨a,b,c⟩|⟨A,B,a,b,c,d,e⟩
 ·rw[b,hl] at hz
  exact⟨by omega,by omega,hz,by rw[b,hl];exact aL _⟩
 ·have:A.length+1+B.length=k:=by rw[<- hl,a];simp;omega
  have hD:D.length=A.length+B.length:=by rw[b];simp
  exact⟨by omega,by omega,by omega,by omega⟩
theorem Scan.dot{s:ByteArray}{k:Nat}{point:Int}{D:List UInt8}{v z:Nat}{wd:Bool}(h:Scan s k point D v z wd)(hk:k<s.size)(hc:s[k]=46)(hp:point<0):Scan s (k+1) k D v z wd:=by
 have hl:(s.data.toList.take k).length=k:=by rw[bY,size_list];have:=h.le;omega
 have hpl:=(h.place.point hp).1
 rw[hl] at hpl
 exact⟨hk,by rw[iA s k hk,hc];exact hpl,h.Dj⟩
theorem Scan.nought{s:ByteArray}{k:Nat}{point:Int}{D:List UInt8}{v z:Nat}{wd:Bool}(h:Scan s k point D v z wd)(hk:k<s.size)(hx:bT s[k]=0):Scan s (k+1) point (D++[s[k]]) v (z+1) wd:=
 ⟨hk,by rw[iA s k hk];exact h.place.digit _ (wo (by omega)),h.Dj.nought _ hx⟩
theorem Scan.digit{s:ByteArray}{k:Nat}{point:Int}{D:List UInt8}{v z v':Nat}{wd wd':Bool}(h:Scan s k point D v z wd)(hk:k<s.size)(hx:0<=bT s[k])(hD:BO (D++[s[k]]) v' 0 wd'):Scan s (k+1) point (D++[s[k]]) v' 0 wd':=
 ⟨hk,by rw[iA s k hk];exact h.place.digit _ (wo hx),hD⟩
theorem Scan.answer{s:ByteArray}{k:Nat}{point:Int}{D:List UInt8}{v z:Nat}{wd:Bool}(h:Scan s k point D v z wd)(hs:s.size<=64)(hst:Bl point (s.data.toList.drop k))(hk:¬ (k=0\/point=0\/point=(k:Int)-1)) :
  BG s.data.toList v (4*(z:Int)-(if 0<point then 4*((k:Int)-1-point) else 0)) wd (s.data.toList.drop k) true:=by
 have hb:=wJ h.place hst
 have hl:(s.data.toList.take k).length=k:=by rw[bY,size_list];have:=h.le;omega
 rw[eU,hl,if_neg hk] at hb
 obtain⟨b1,b2,b3,b4⟩:=h.bounds
 have hv:=h.Dj.1
 have le:=h.le
 refine Or.inr ⟨rfl,by omega,by omega,by by_cases hp:0<point <;> simp only[hp,if_true,if_false] <;> omega,by by_cases hp:0<point <;> simp only[hp,if_true,if_false] <;> omega,by rw[List.length_drop];omega,D,_,hb,λpw=>?_⟩
 rw[h.Dj.exact,dI]
 congr 1
 by_cases hp:0<point
 ·rw[if_pos hp,if_pos hp];omega
 ·rw[if_neg hp,if_neg hp];omega
theorem Scan.refuse{s:ByteArray}{k:Nat}{point:Int}{D:List UInt8}{v z:Nat}{wd:Bool}(h:Scan s k point D v z wd)(hst:Bl point (s.data.toList.drop k))(hk:k=0\/point=0\/point=(k:Int)-1) :
  readBody s.data.toList=none:=by
 have hb:=wJ h.place hst
 have hl:(s.data.toList.take k).length=k:=by rw[bY,size_list];have:=h.le;omega
 rw[eU,hl,if_pos hk] at hb
 exact hb
theorem iW(s:ByteArray)(k:Nat):s.extract k s.size=⟨(s.data.toList.drop k).toArray⟩:=by
 obtain⟨⟨l⟩⟩:=s
 rw[ByteArray.extract_mk]
 have e:(⟨⟨l⟩⟩:ByteArray).size=l.length:=rfl
 rw[e]
 simp
 rw[List.take_of_length_le (by rw[List.length_drop];omega)]
theorem eX{w wk W:World}{b:Nat}{x y z p q r:Value}(hW:((wk.setCell ⟨b,0,none⟩ x).setCell ⟨b,1,none⟩ y).setCell ⟨b,2,none⟩ z=W)(f:∀i,wk.cell? ⟨b,i,none⟩ = #[p,q,r][i]?)(hb:w.heap.size<=b)(h:Below w.heap.size w wk) :
  (∀i,W.cell? ⟨b,i,none⟩ = #[x,y,z][i]?)/\Below w.heap.size w W:=by
 subst hW
 exact⟨iq (iq (iq f x (show 0<3 by decide)) y (show 1<3 by decide)) z (show 2<3 by decide),((h.setCell (p:=⟨b,0,none⟩) hb x).setCell (p:=⟨b,1,none⟩) hb y).setCell (p:=⟨b,2,none⟩) hb z⟩
theorem rR(s:ByteArray)(hs:s.size<=64)(w:World) :
  Calls prog 158 #[.string s] w λe w'=>(∃v p wd r ok,e=.returned (.tuple #[.agg #[.int .u64 v,.int .i64 p,.bool wd],.string ⟨r.toArray⟩,.bool ok])/\BG s.data.toList v p wd r ok)/\Below w.heap.size w w':=by
 obtain⟨B,hB⟩:∃B,w.heap.size=B:=⟨_,rfl⟩
 have HB:=hid hB
 clear hB
 go_enter func158,ntmps158
 go_wp2_with fail
 go_step3
 go_wp2_with fail
 go_step3
 go_wp2_with fail
 go_loopw [5,6,7] (λpt at_ nz wr=>∃ (k z v:Nat) (point:Int) (wd:Bool) (D:List UInt8),at_=.int .i64 k/\nz=.int .i64 z/\pt=.int .i64 point/\Scan s k point D v z wd/\(∀i,wr.cell? ⟨w.heap.size,i,none⟩ = #[Value.int .u64 v,.int .i64 0,.bool wd][i]?)/\(∀i,wr.frozen? ⟨w.heap.size,i,none⟩=false)/\Below w.heap.size w wr) (λ_ a _ _=>s.size-(intOf a).toNat)
 case atStart=>
  refine⟨0,0,0,-1,false,[],rfl,rfl,rfl,⟨Nat.zero_le _,Place.start,BO.start⟩,?_,?_,(Below.refl _ _).alloc (aL _) _⟩
  ·intro i
   exact World.cell?_alloc_new w _ _ _
  ·intro i
   rw[frozen?_alloc_cells,World.frozen?]
   have:w.heap[w.heap.size]? = none:=Array.getElem?_eq_none (aL _)
   rw[this]
 case round=>
  obtain⟨k,z,v,point,wd,D,rfl,rfl,rfl,hsc,hcell,hfz,hbl⟩:=hrel
  have c0:=hcell 0
  have c1:=hcell 1
  have c2:=hcell 2
  have f0:=hfz 0
  have f1:=hfz 1
  have f2:=hfz 2
  simp at c0 c1 c2
  by_cases hlt:k<s.size
  ·have le:=hsc.le
   obtain⟨b1,b2,b3,b4⟩:=hsc.bounds
   by_cases pI:s[k]=46/\point<0
   ·obtain⟨hc,hp⟩:=pI
    have R:=hid (hsc.dot hlt hc hp)
    have q:((s[k].toNat:Int)==46)=true:=by rw[Am,hc];rfl
    clear hsc hc
    go_wp2_with fail
    go_roundw
    case rel=>exact⟨k+1,z,v,k,wd,D,by go_num,rfl,rfl,R.out,hcell,hfz,hbl⟩
    case measure=>simp[intOf];omega
   ·obtain⟨hr1,hr2⟩:=fE s[k]
    by_cases hx:bT s[k] = -1
    ·have hst:Bl point (s.data.toList.drop k):=by
      intro c hc
      rw[J6 s k hlt] at hc
      injection hc with hc
      subst hc
      exact⟨MS hx,λh46=>by
       apply Int.not_lt.1
       intro hp
       exact pI ⟨h46,hp⟩⟩
     rcases(show ((s[k].toNat:Int)==46)=false\/((s[k].toNat:Int)==46)=true/\¬point<0 by
      rw[Am]
      cases h46:(s[k]==46) with
      | false=>exact Or.inl rfl
      | true=>exact Or.inr ⟨rfl,λhp=>pI ⟨by simpa using h46,hp⟩⟩) with t1|⟨t1,t2⟩
     all_goals clear pI b1 b2 b3 b4 le hr1 hr2
     ·obtain⟨b1,b2,b3,b4⟩:=hsc.bounds
      have le:=hsc.le
      by_cases hk:k=0\/point=0\/point=(k:Int)-1
      ·have R:=hid (hsc.refuse hst hk)
       clear hst hsc
       rcases(show ((k:Int)==0)=true\/((k:Int)==0)=false/\(point==0)=true\/((k:Int)==0)=false/\(point==0)=false/\(point==(k:Int)-1)=true by
        by_cases q1:k=0
        ·exact Or.inl (by rw[beq_iff_eq];omega)
        ·by_cases q2:point=0
         ·exact Or.inr (Or.inl ⟨by rw[beq_eq_false_iff_ne];omega,by rw[beq_iff_eq];exact q2⟩)
         ·exact Or.inr (Or.inr ⟨by rw[beq_eq_false_iff_ne];omega,by rw[beq_eq_false_iff_ne];exact q2,by rw[beq_iff_eq];omega⟩)) with q|⟨q,q2⟩|⟨q,q2,q3⟩
       all_goals clear hk
       ·go_wp2_with (go_at_call 140;refine(eB _ _).mono ?_;rintro e w' ⟨rfl,rfl⟩)
        generalize hW:aH (aH (aH _ _ _) _ _) _ _=W
        obtain⟨fR,gR⟩:=eX hW hcell (aL _) hbl
        simp only[Exit.noGoto_ret]
        exact bodyPost_ret (v:=.tuple #[.agg #[.int .u64 0,.int .i64 0,.bool false],.string ⟨#[]⟩,.bool false]) (by simp[results,results158,go_sem,fR]) rfl ⟨⟨0,0,false,[],false,rfl,Or.inl ⟨rfl,R.out⟩⟩,gR⟩
       ·go_wp2_with (go_at_call 140;refine(eB _ _).mono ?_;rintro e w' ⟨rfl,rfl⟩)
        generalize hW:aH (aH (aH _ _ _) _ _) _ _=W
        obtain⟨fR,gR⟩:=eX hW hcell (aL _) hbl
        simp only[Exit.noGoto_ret]
        exact bodyPost_ret (v:=.tuple #[.agg #[.int .u64 0,.int .i64 0,.bool false],.string ⟨#[]⟩,.bool false]) (by simp[results,results158,go_sem,fR]) rfl ⟨⟨0,0,false,[],false,rfl,Or.inl ⟨rfl,R.out⟩⟩,gR⟩
       ·go_wp2_with (go_at_call 140;refine(eB _ _).mono ?_;rintro e w' ⟨rfl,rfl⟩)
        generalize hW:aH (aH (aH _ _ _) _ _) _ _=W
        obtain⟨fR,gR⟩:=eX hW hcell (aL _) hbl
        simp only[Exit.noGoto_ret]
        exact bodyPost_ret (v:=.tuple #[.agg #[.int .u64 0,.int .i64 0,.bool false],.string ⟨#[]⟩,.bool false]) (by simp[results,results158,go_sem,fR]) rfl ⟨⟨0,0,false,[],false,rfl,Or.inl ⟨rfl,R.out⟩⟩,gR⟩
      ·have R:=hid (hsc.answer hs hst hk)
       have q:((k:Int)==0)=false:=by rw[beq_eq_false_iff_ne];omega
       have q2:(point==0)=false:=by rw[beq_eq_false_iff_ne];omega
       have q3:(point==(k:Int)-1)=false:=by rw[beq_eq_false_iff_ne];omega
       clear hst hsc hk
       by_cases hp:0<point
       ·rw[if_pos hp] at R
        go_wp2_with (go_at_call 140;refine(eB _ _).mono ?_;rintro e w' ⟨rfl,rfl⟩)
        generalize hW:aH (aH _ _ _) _ _=W
        have fW:∀i,W.cell? ⟨w.heap.size,i,none⟩ = #[Value.int .u64 v,.int .i64 (4*(z:Int)-4*((k:Int)-1-point)),.bool wd][i]?:=by rw[<- hW];exact iq (iq hcell _ (show 1<3 by decide)) _ (show 1<3 by decide)
        have gW:Below w.heap.size w W:=by rw[<- hW];exact(hbl.setCell (p:=⟨w.heap.size,1,none⟩) (aL _) _).setCell (p:=⟨w.heap.size,1,none⟩) (aL _) _
        have zW:∀i,W.frozen? ⟨w.heap.size,i,none⟩=false:=by rw[<- hW];intro i;rw[aY,aY];exact hfz i
        have d0:=fW 0
        have d1:=fW 1
        have d2:=fW 2
        have e0:=zW 0
        have e1:=zW 1
        have e2:=zW 2
        simp at d0 d1 d2
        have FW:=hid fW
        have hcf:=iW s k
        clear c0 c1 c2 f0 f1 f2 hcell hfz hbl hW fW zW
        go_region
        go_wp2_with fail
        generalize hV:aH (aH (aH _ _ _) _ _) _ _=V
        obtain⟨fR,gR⟩:=eX hV FW.out (aL _) gW
        simp only[Exit.noGoto_ret]
        exact bodyPost_ret (v:=.tuple #[.agg #[.int .u64 v,.int .i64 (4*(z:Int)-4*((k:Int)-1-point)),.bool wd],.string ⟨(s.data.toList.drop k).toArray⟩,.bool true]) (by simp[results,results158,go_sem,fR]) rfl ⟨⟨_,_,_,_,_,rfl,R.out⟩,gR.drew⟩
       ·rw[if_neg hp,Int.sub_zero] at R
        go_wp2_with (go_at_call 140;refine(eB _ _).mono ?_;rintro e w' ⟨rfl,rfl⟩)
        generalize hW:aH _ _ _=W
        have fW:∀i,W.cell? ⟨w.heap.size,i,none⟩ = #[Value.int .u64 v,.int .i64 (4*(z:Int)),.bool wd][i]?:=by rw[<- hW];exact iq hcell _ (show 1<3 by decide)
        have gW:Below w.heap.size w W:=by rw[<- hW];exact hbl.setCell (p:=⟨w.heap.size,1,none⟩) (aL _) _
        have zW:∀i,W.frozen? ⟨w.heap.size,i,none⟩=false:=by rw[<- hW];intro i;rw[aY];exact hfz i
        have d0:=fW 0
        have d1:=fW 1
        have d2:=fW 2
        have e0:=zW 0
        have e1:=zW 1
        have e2:=zW 2
        simp at d0 d1 d2
        have FW:=hid fW
        have hcf:=iW s k
        clear c0 c1 c2 f0 f1 f2 hcell hfz hbl hW fW zW
        go_region
        go_wp2_with fail
        generalize hV:aH (aH (aH _ _ _) _ _) _ _=V
        obtain⟨fR,gR⟩:=eX hV FW.out (aL _) gW
        simp only[Exit.noGoto_ret]
        exact bodyPost_ret (v:=.tuple #[.agg #[.int .u64 v,.int .i64 (4*(z:Int)),.bool wd],.string ⟨(s.data.toList.drop k).toArray⟩,.bool true]) (by simp[results,results158,go_sem,fR]) rfl ⟨⟨_,_,_,_,_,rfl,R.out⟩,gR.drew⟩
     ·obtain⟨b1,b2,b3,b4⟩:=hsc.bounds
      have le:=hsc.le
      by_cases hk:k=0\/point=0\/point=(k:Int)-1
      ·have R:=hid (hsc.refuse hst hk)
       clear hst hsc
       rcases(show ((k:Int)==0)=true\/((k:Int)==0)=false/\(point==0)=true\/((k:Int)==0)=false/\(point==0)=false/\(point==(k:Int)-1)=true by
        by_cases q1:k=0
        ·exact Or.inl (by rw[beq_iff_eq];omega)
        ·by_cases q2:point=0
         ·exact Or.inr (Or.inl ⟨by rw[beq_eq_false_iff_ne];omega,by rw[beq_iff_eq];exact q2⟩)
         ·exact Or.inr (Or.inr ⟨by rw[beq_eq_false_iff_ne];omega,by rw[beq_eq_false_iff_ne];exact q2,by rw[beq_iff_eq];omega⟩)) with q|⟨q,q2⟩|⟨q,q2,q3⟩
       all_goals clear hk
       ·go_wp2_with (go_at_call 140;refine(eB _ _).mono ?_;rintro e w' ⟨rfl,rfl⟩)
        generalize hW:aH (aH (aH _ _ _) _ _) _ _=W
        obtain⟨fR,gR⟩:=eX hW hcell (aL _) hbl
        simp only[Exit.noGoto_ret]
        exact bodyPost_ret (v:=.tuple #[.agg #[.int .u64 0,.int .i64 0,.bool false],.string ⟨#[]⟩,.bool false]) (by simp[results,results158,go_sem,fR]) rfl ⟨⟨0,0,false,[],false,rfl,Or.inl ⟨rfl,R.out⟩⟩,gR⟩
       ·go_wp2_with (go_at_call 140;refine(eB _ _).mono ?_;rintro e w' ⟨rfl,rfl⟩)
        generalize hW:aH (aH (aH _ _ _) _ _) _ _=W
        obtain⟨fR,gR⟩:=eX hW hcell (aL _) hbl
        simp only[Exit.noGoto_ret]
        exact bodyPost_ret (v:=.tuple #[.agg #[.int .u64 0,.int .i64 0,.bool false],.string ⟨#[]⟩,.bool false]) (by simp[results,results158,go_sem,fR]) rfl ⟨⟨0,0,false,[],false,rfl,Or.inl ⟨rfl,R.out⟩⟩,gR⟩
       ·go_wp2_with (go_at_call 140;refine(eB _ _).mono ?_;rintro e w' ⟨rfl,rfl⟩)
        generalize hW:aH (aH (aH _ _ _) _ _) _ _=W
        obtain⟨fR,gR⟩:=eX hW hcell (aL _) hbl
        simp only[Exit.noGoto_ret]
        exact bodyPost_ret (v:=.tuple #[.agg #[.int .u64 0,.int .i64 0,.bool false],.string ⟨#[]⟩,.bool false]) (by simp[results,results158,go_sem,fR]) rfl ⟨⟨0,0,false,[],false,rfl,Or.inl ⟨rfl,R.out⟩⟩,gR⟩
      ·have R:=hid (hsc.answer hs hst hk)
       have q:((k:Int)==0)=false:=by rw[beq_eq_false_iff_ne];omega
       have q2:(point==0)=false:=by rw[beq_eq_false_iff_ne];omega
       have q3:(point==(k:Int)-1)=false:=by rw[beq_eq_false_iff_ne];omega
       clear hst hsc hk
       by_cases hp:0<point
       ·rw[if_pos hp] at R
        go_wp2_with (go_at_call 140;refine(eB _ _).mono ?_;rintro e w' ⟨rfl,rfl⟩)
        generalize hW:aH (aH _ _ _) _ _=W
        have fW:∀i,W.cell? ⟨w.heap.size,i,none⟩ = #[Value.int .u64 v,.int .i64 (4*(z:Int)-4*((k:Int)-1-point)),.bool wd][i]?:=by rw[<- hW];exact iq (iq hcell _ (show 1<3 by decide)) _ (show 1<3 by decide)
        have gW:Below w.heap.size w W:=by rw[<- hW];exact(hbl.setCell (p:=⟨w.heap.size,1,none⟩) (aL _) _).setCell (p:=⟨w.heap.size,1,none⟩) (aL _) _
        have zW:∀i,W.frozen? ⟨w.heap.size,i,none⟩=false:=by rw[<- hW];intro i;rw[aY,aY];exact hfz i
        have d0:=fW 0
        have d1:=fW 1
        have d2:=fW 2
        have e0:=zW 0
        have e1:=zW 1
        have e2:=zW 2
        simp at d0 d1 d2
        have FW:=hid fW
        have hcf:=iW s k
        clear c0 c1 c2 f0 f1 f2 hcell hfz hbl hW fW zW
        go_region
        go_wp2_with fail
        generalize hV:aH (aH (aH _ _ _) _ _) _ _=V
        obtain⟨fR,gR⟩:=eX hV FW.out (aL _) gW
        simp only[Exit.noGoto_ret]
        exact bodyPost_ret (v:=.tuple #[.agg #[.int .u64 v,.int .i64 (4*(z:Int)-4*((k:Int)-1-point)),.bool wd],.string ⟨(s.data.toList.drop k).toArray⟩,.bool true]) (by simp[results,results158,go_sem,fR]) rfl ⟨⟨_,_,_,_,_,rfl,R.out⟩,gR.drew⟩
       ·rw[if_neg hp,Int.sub_zero] at R
        go_wp2_with (go_at_call 140;refine(eB _ _).mono ?_;rintro e w' ⟨rfl,rfl⟩)
        generalize hW:aH _ _ _=W
        have fW:∀i,W.cell? ⟨w.heap.size,i,none⟩ = #[Value.int .u64 v,.int .i64 (4*(z:Int)),.bool wd][i]?:=by rw[<- hW];exact iq hcell _ (show 1<3 by decide)
        have gW:Below w.heap.size w W:=by rw[<- hW];exact hbl.setCell (p:=⟨w.heap.size,1,none⟩) (aL _) _
        have zW:∀i,W.frozen? ⟨w.heap.size,i,none⟩=false:=by rw[<- hW];intro i;rw[aY];exact hfz i
        have d0:=fW 0
        have d1:=fW 1
        have d2:=fW 2
        have e0:=zW 0
        have e1:=zW 1
        have e2:=zW 2
        simp at d0 d1 d2
        have FW:=hid fW
        have hcf:=iW s k
        clear c0 c1 c2 f0 f1 f2 hcell hfz hbl hW fW zW
        go_region
        go_wp2_with fail
        generalize hV:aH (aH (aH _ _ _) _ _) _ _=V
        obtain⟨fR,gR⟩:=eX hV FW.out (aL _) gW
        simp only[Exit.noGoto_ret]
        exact bodyPost_ret (v:=.tuple #[.agg #[.int .u64 v,.int .i64 (4*(z:Int)),.bool wd],.string ⟨(s.data.toList.drop k).toArray⟩,.bool true]) (by simp[results,results158,go_sem,fR]) rfl ⟨⟨_,_,_,_,_,rfl,R.out⟩,gR.drew⟩
    ·have t1:((s[k].toNat:Int)==46)=false:=by
      rw[Am,beq_eq_false_iff_ne]
      intro e
      rw[e] at hx
      exact hx (by decide)
     clear pI
     by_cases h0:bT s[k]=0
     ·have R:=hid (hsc.nought hlt h0)
      clear hsc hx hr1 hr2
      go_wp2_with (go_at_call 140;refine(eB _ _).mono ?_;rintro e w' ⟨rfl,rfl⟩)
      go_roundw
      case rel=>exact⟨k+1,z+1,v,point,wd,D++[s[k]],by go_num,by go_num,rfl,R.out,hcell,hfz,hbl⟩
      case measure=>simp[intOf];omega
     ·obtain⟨d,hd⟩:=Int.eq_ofNat_of_zero_le (show 0<=bT s[k] by omega)
      have R:=hid (λv' wd' hD=>hsc.digit (v':=v') (wd':=wd') hlt (by omega) hD)
      have hp:=Rj w.heap.size D v z s[k] d 0 wd wr hcell hfz hsc.Dj hd (by omega) (by omega)
      have d0:¬ (d:Int)=0:=by omega
      have d1:¬ (d:Int) = -1:=by omega
      have Dl:(d:Int)<16:=by omega
      have HZ:=hid hfz
      have HB2:=hid hbl
      clear hsc hx hr1 hr2 h0 c0 c1 c2 f0 f1 f2 hcell hfz hbl
      go_wp2_with (first|(go_at_call 140;refine(eB _ _).mono ?_;rintro e w' ⟨rfl,rfl⟩)|(go_at_call 171;refine hp.mono ?_;rintro e w' ⟨rfl,i,x,v',wd',rfl,hc',hD'⟩))
      go_roundw
      case rel=>exact⟨k+1,0,v',point,wd',D++[s[k]],by go_num,rfl,rfl,R.out v' wd' hD',hc',λj=>by rw[aY];exact HZ.out j,HB2.out.setCell (p:=⟨w.heap.size,i,none⟩) (aL _) _⟩
      case measure=>simp[intOf];omega
  ·have hst:Bl point (s.data.toList.drop k):=by
    intro c hc
    rw[List.drop_of_length_le (by rw[size_list];omega)] at hc
    cases hc
   obtain⟨b1,b2,b3,b4⟩:=hsc.bounds
   have le:=hsc.le
   by_cases hk:k=0\/point=0\/point=(k:Int)-1
   ·have R:=hid (hsc.refuse hst hk)
    clear hst hsc
    rcases(show ((k:Int)==0)=true\/((k:Int)==0)=false/\(point==0)=true\/((k:Int)==0)=false/\(point==0)=false/\(point==(k:Int)-1)=true by
     by_cases q1:k=0
     ·exact Or.inl (by rw[beq_iff_eq];omega)
     ·by_cases q2:point=0
      ·exact Or.inr (Or.inl ⟨by rw[beq_eq_false_iff_ne];omega,by rw[beq_iff_eq];exact q2⟩)
      ·exact Or.inr (Or.inr ⟨by rw[beq_eq_false_iff_ne];omega,by rw[beq_eq_false_iff_ne];exact q2,by rw[beq_iff_eq];omega⟩)) with q|⟨q,q2⟩|⟨q,q2,q3⟩
    all_goals clear hk
    ·go_wp2_with fail
     generalize hW:aH (aH (aH _ _ _) _ _) _ _=W
     obtain⟨fR,gR⟩:=eX hW hcell (aL _) hbl
     simp only[Exit.noGoto_ret]
     exact bodyPost_ret (v:=.tuple #[.agg #[.int .u64 0,.int .i64 0,.bool false],.string ⟨#[]⟩,.bool false]) (by simp[results,results158,go_sem,fR]) rfl ⟨⟨0,0,false,[],false,rfl,Or.inl ⟨rfl,R.out⟩⟩,gR⟩
    ·go_wp2_with fail
     generalize hW:aH (aH (aH _ _ _) _ _) _ _=W
     obtain⟨fR,gR⟩:=eX hW hcell (aL _) hbl
     simp only[Exit.noGoto_ret]
     exact bodyPost_ret (v:=.tuple #[.agg #[.int .u64 0,.int .i64 0,.bool false],.string ⟨#[]⟩,.bool false]) (by simp[results,results158,go_sem,fR]) rfl ⟨⟨0,0,false,[],false,rfl,Or.inl ⟨rfl,R.out⟩⟩,gR⟩
    ·go_wp2_with fail
     generalize hW:aH (aH (aH _ _ _) _ _) _ _=W
     obtain⟨fR,gR⟩:=eX hW hcell (aL _) hbl
     simp only[Exit.noGoto_ret]
     exact bodyPost_ret (v:=.tuple #[.agg #[.int .u64 0,.int .i64 0,.bool false],.string ⟨#[]⟩,.bool false]) (by simp[results,results158,go_sem,fR]) rfl ⟨⟨0,0,false,[],false,rfl,Or.inl ⟨rfl,R.out⟩⟩,gR⟩
   ·have R:=hid (hsc.answer hs hst hk)
    have q:((k:Int)==0)=false:=by rw[beq_eq_false_iff_ne];omega
    have q2:(point==0)=false:=by rw[beq_eq_false_iff_ne];omega
    have q3:(point==(k:Int)-1)=false:=by rw[beq_eq_false_iff_ne];omega
    clear hst hsc hk
    by_cases hp:0<point
    ·rw[if_pos hp] at R
     go_wp2_with fail
     generalize hW:aH (aH _ _ _) _ _=W
     have fW:∀i,W.cell? ⟨w.heap.size,i,none⟩ = #[Value.int .u64 v,.int .i64 (4*(z:Int)-4*((k:Int)-1-point)),.bool wd][i]?:=by rw[<- hW];exact iq (iq hcell _ (show 1<3 by decide)) _ (show 1<3 by decide)
     have gW:Below w.heap.size w W:=by rw[<- hW];exact(hbl.setCell (p:=⟨w.heap.size,1,none⟩) (aL _) _).setCell (p:=⟨w.heap.size,1,none⟩) (aL _) _
     have zW:∀i,W.frozen? ⟨w.heap.size,i,none⟩=false:=by rw[<- hW];intro i;rw[aY,aY];exact hfz i
     have d0:=fW 0
     have d1:=fW 1
     have d2:=fW 2
     have e0:=zW 0
     have e1:=zW 1
     have e2:=zW 2
     simp at d0 d1 d2
     have FW:=hid fW
     have hcf:=iW s k
     clear c0 c1 c2 f0 f1 f2 hcell hfz hbl hW fW zW
     go_region
     go_wp2_with fail
     generalize hV:aH (aH (aH _ _ _) _ _) _ _=V
     obtain⟨fR,gR⟩:=eX hV FW.out (aL _) gW
     simp only[Exit.noGoto_ret]
     exact bodyPost_ret (v:=.tuple #[.agg #[.int .u64 v,.int .i64 (4*(z:Int)-4*((k:Int)-1-point)),.bool wd],.string ⟨(s.data.toList.drop k).toArray⟩,.bool true]) (by simp[results,results158,go_sem,fR]) rfl ⟨⟨_,_,_,_,_,rfl,R.out⟩,gR.drew⟩
    ·rw[if_neg hp,Int.sub_zero] at R
     go_wp2_with fail
     generalize hW:aH _ _ _=W
     have fW:∀i,W.cell? ⟨w.heap.size,i,none⟩ = #[Value.int .u64 v,.int .i64 (4*(z:Int)),.bool wd][i]?:=by rw[<- hW];exact iq hcell _ (show 1<3 by decide)
     have gW:Below w.heap.size w W:=by rw[<- hW];exact hbl.setCell (p:=⟨w.heap.size,1,none⟩) (aL _) _
     have zW:∀i,W.frozen? ⟨w.heap.size,i,none⟩=false:=by rw[<- hW];intro i;rw[aY];exact hfz i
     have d0:=fW 0
     have d1:=fW 1
     have d2:=fW 2
     have e0:=zW 0
     have e1:=zW 1
     have e2:=zW 2
     simp at d0 d1 d2
     have FW:=hid fW
     have hcf:=iW s k
     clear c0 c1 c2 f0 f1 f2 hcell hfz hbl hW fW zW
     go_region
     go_wp2_with fail
     generalize hV:aH (aH (aH _ _ _) _ _) _ _=V
     obtain⟨fR,gR⟩:=eX hV FW.out (aL _) gW
     simp only[Exit.noGoto_ret]
     exact bodyPost_ret (v:=.tuple #[.agg #[.int .u64 v,.int .i64 (4*(z:Int)),.bool wd],.string ⟨(s.data.toList.drop k).toArray⟩,.bool true]) (by simp[results,results158,go_sem,fR]) rfl ⟨⟨_,_,_,_,_,rfl,R.out⟩,gR.drew⟩
theorem Wu(n:Int)(h0:0<=n)(h1:n<18446744073709551616):bits .and .u64 n 4503599627370495=n%4503599627370496:=by
 rw[u64_and n _ h0 h1 (by decide) (by decide)]
 have e:(4503599627370495:Int).toNat=2 ^ 52-1:=by decide
 rw[e,Nat.and_two_pow_sub_one_eq_mod]
 omega
def pQ(l:List UInt8):List Value:=l.map λb=>Value.int .u8 (b.toNat:Int)
theorem jU(l:List UInt8)(c:UInt8)(n:Int)(h:(c.toNat:Int)=n):pQ (l++[c])=pQ l++[.int .u8 n]:=by
 unfold pQ
 rw[List.map_append,List.map_cons,List.map_nil,h]
theorem DW{w:World}{base:Nat}{v:Value}{n:Nat}(l:List UInt8)(h:w.ownsRow base 5 1 v n (pQ l)) :
  (convert 100 9 v).run prog w=.ok (.string ⟨l.toArray⟩) w:=by
 have hn:n=l.length:=by
  have:=h.1
  simp[pQ] at this
  omega
 subst hn
 have h2:=h.2
 rcases h2 with⟨rfl,hz⟩|⟨g,cap,cur,rfl,_⟩
 ·have:l=[]:=List.eq_nil_of_length_eq_zero hz
  subst this
  exact run_convert_bytes_nil w 100 5 underlying100 underlying5 0 0 9 underlying9
 ·refine run_convert_bytes_back w 100 9 5 ⟨g,0,none⟩ cap l underlying100 underlying5 underlying9 ?_
  intro j hj
  exact h.cells rfl j _ (by simp[pQ,dQ hj])
def lenOf:Value->Nat | .slice _ n _=>n|_=>0
theorem JM(d:Nat)(h:d<16):(⟨#[48,49,50,51,52,53,54,55,56,57,97,98,99,100,101,102]⟩:ByteArray)[d]'h=sJ d:=by
 have all:∀n:Fin 16,(⟨#[48,49,50,51,52,53,54,55,56,57,97,98,99,100,101,102]⟩:ByteArray)[n.val]'n.isLt=sJ n.val:=by decide
 exact all ⟨d,h⟩
end Go.Proofs.YtgchnkgolclmgaaGreatDoor.W
