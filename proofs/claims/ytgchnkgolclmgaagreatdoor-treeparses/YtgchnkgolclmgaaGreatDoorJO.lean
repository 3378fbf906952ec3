import Derived.Test.YtgchnkgolclmgaaGreatDoorJH
import Derived.BigQuiet
import Derived.Test.YtgchnkgolclmgaaGreatDoorJE
import Derived.ChangeKeysEq
import Derived.Test.YtgchnkgolclmgaaGreatDoorRows
import Derived.LaidMore
import Derived.Stop.Joined
import Derived.ProofKit
open List renaming getElem?_map → dI, drop_eq_getElem_cons → dQ, getElem?_eq_getElem → gI
open Nat renaming le_refl → aL, zero_le → bO
open Go.World renaming alloc_heap_new → bY
open Go.RowKit.Below renaming refl → aH
open Option renaming map_eq_some_iff → dR
open Go.AllReadyH renaming cons → aY, nil → ay
open Go.Lib renaming hasPrefix → eU
open Go.Proofs.Tryz
open List renaming getElem_toArray → aW, getElem_cons_zero → aV, getElem_cons_succ → aU, setIfInBounds_toArray → aT, set_cons_zero → aS, set_cons_succ → aR
set_option maxRecDepth 1000000
set_option maxHeartbeats 8000000
namespace Go.Proofs.YtgchnkgolclmgaaGreatDoor.W
open Go.ChangeShapes Go.WideShapes Go.RowKit Go.Shelf
set_option linter.unusedVariables false
set_option linter.unusedSimpArgs false
def pG(l:List UInt8):Nat × Nat:=match l with
 | _::_::h::lo::_=>if dY h=true/\dY lo=true then ((16*bT h+bT lo).toNat,4) else (0,0)
 | _=>(0,0)
theorem uR(l:List UInt8)(h:l.length<4):pG l=(0,0):=by
 unfold pG
 split
 ·simp at h;omega
 ·rfl
theorem MW(s:ByteArray)(h:4<=s.size):pG s.data.toList=if dY s[2]=true/\dY s[3]=true then ((16*bT s[2]+bT s[3]).toNat,4) else (0,0):=by
 have e2:=get_at s 2 (by omega)
 have e3:=get_at s 3 (by omega)
 have sl:=size_list s
 match hl:s.data.toList,e2,e3 with
 | a::b::c::d::r,e2,e3=>
  simp at e2 e3
  rw[<- e2,<- e3]
  rfl
 | [],e2,_=>cases e2
 | [_],e2,_=>cases e2
 | [_,_],e2,_=>cases e2
 | [_,_,_],_,e3=>cases e3
theorem mD(c:UInt8):bT c<16:=by
 have all:∀n:Fin 256,bT (UInt8.ofNat n)<16:=by decide +kernel
 have:=all ⟨c.toNat,c.toNat_lt⟩
 simpa using this
theorem MU(h l:Int)(h0:0<=h)(h1:h<16)(l0:0<=l)(l1:l<16):bits .or .i64 (h*16) l%256=(((16*h+l).toNat:Nat):Int):=by
 have all:∀a b:Fin 16,bits .or .i64 (((a.val:Nat):Int)*16) ((b.val:Nat):Int)%256=(((16*((a.val:Nat):Int)+((b.val:Nat):Int)).toNat:Nat):Int):=by decide +kernel
 have:=all ⟨h.toNat,by omega⟩ ⟨l.toNat,by omega⟩
 simp only[Int.toNat_of_nonneg h0,Int.toNat_of_nonneg l0] at this
 exact this
theorem JO(s:ByteArray)(hs:s.size<=1000000)(w:World):Calls prog 164 #[.string s] w λe w'=>e=.returned (.tuple #[.int .u8 ((pG s.data.toList).1:Nat),.int .i64 ((pG s.data.toList).2:Nat)])/\Below w.heap.size w w':=by
 have sl:=size_list s
 by_cases c:s.size<4
 ·rw[uR _ (by omega)]
  go_enter func164,ntmps164
  go_wp2
  go_ret2
  exact⟨rfl,aH _ _⟩
 ·have h2:2<s.size:=by omega
  have h3:3<s.size:=by omega
  have g2:(2:Int)<s.size:=by omega
  have g3:(3:Int)<s.size:=by omega
  rw[MW s (by omega)]
  have c2:=λw=>eB s[2] w
  have c3:=λw=>eB s[3] w
  have b2:=mD s[2]
  have b3:=mD s[3]
  have j:=MU (bT s[2]) (bT s[3])
  have e2:dY s[2]=decide (0<=bT s[2]):=rfl
  have e3:dY s[3]=decide (0<=bT s[3]):=rfl
  rw[e2,e3]
  clear e2 e3
  generalize bT s[2]=H at *
  generalize bT s[3]=L at *
  clear sl
  by_cases n2:0<=H
  ·by_cases n3:0<=L
   ·rw[if_pos ⟨decide_eq_true n2,decide_eq_true n3⟩]
    have J:=hid (j n2 b2 n3 b3)
    generalize (16*H+L).toNat=v at *
    have n2':¬H<0:=by omega
    have n3':¬L<0:=by omega
    clear j n2 n3
    go_enter func164,ntmps164
    go_upto_region 3 with fail
    (refine wp_region_held_drew (S:=λ_=>True) (by kernel_rfl) trivial ?_);intro hS;(refine wpAnyH_take (i:=0) (v:=?_) rfl (by kernel_rfl) (by kernel_rfl) (by kernel_rfl) (λ_ _ _ h=>h) (Or.inl ⟨by rfl,?_⟩) hS ?_);rotate_left;(focus (intro w' hSw;go_simp;(try with_reducible rfl)));(try simp only[Act.put,aW,aV,aU,aT,aS,aR]);(refine wpAnyH_take (i:=1) (v:=?_) rfl (by kernel_rfl) (by kernel_rfl) (by kernel_rfl) (λ_ _ _ h=>h) (Or.inl ⟨by rfl,?_⟩) hS ?_);rotate_left;(focus (intro w' hSw;go_simp;(try with_reducible rfl)));(try simp only[Act.put,aW,aV,aU,aT,aS,aR]);(refine wpAnyH_take (i:=3) (v:=?_) rfl (by kernel_rfl) (by kernel_rfl) (by kernel_rfl) (λ_ _ _ h=>h) (Or.inl ⟨by rfl,?_⟩) hS ?_);rotate_left;(focus (intro w' hSw;go_simp;(try with_reducible rfl)));(try simp only[Act.put,aW,aV,aU,aT,aS,aR]);(refine wpAnyH_take (i:=4) (v:=?_) rfl (by kernel_rfl) (by kernel_rfl) (by kernel_rfl) (λ_ _ _ h=>h) (Or.inl ⟨by rfl,?_⟩) hS ?_);rotate_left;(focus (intro w' hSw;go_simp;(try with_reducible rfl)));(try simp only[Act.put,aW,aV,aU,aT,aS,aR]);(refine wpAnyH_ready (rs:=[2]) (by kernel_rfl) (by simp) ?_);(refine aY rfl (λK hK=>?_) ay);go_simp;(refine(c2 _).mono ?_);rintro e w' ⟨rfl,rfl⟩;(refine hK.out _ _ trivial (λhS=>?_));clear hK K;(try simp only[Act.put,aW,aV,aU,aT,aS,aR]);(refine wpAnyH_ready (rs:=[5]) (by kernel_rfl) (by simp) ?_);(refine aY rfl (λK hK=>?_) ay);go_simp;(refine(c3 _).mono ?_);rintro e w' ⟨rfl,rfl⟩;(refine hK.out _ _ trivial (λhS=>?_));clear hK K;(try simp only[Act.put,aW,aV,aU,aT,aS,aR]);(refine wpAnyH_take (i:=6) (v:=?_) rfl (by kernel_rfl) (by kernel_rfl) (by kernel_rfl) (λ_ _ _ h=>h) (Or.inl ⟨by rfl,?_⟩) hS ?_);rotate_left;(focus (intro w' hSw;go_simp;(try with_reducible rfl)));(try simp only[Act.put,aW,aV,aU,aT,aS,aR]);(refine wpAnyH_take (i:=7) (v:=?_) rfl (by kernel_rfl) (by kernel_rfl) (by kernel_rfl) (λ_ _ _ h=>h) (Or.inl ⟨by rfl,?_⟩) hS ?_);rotate_left;(focus (intro w' hSw;go_simp;(try with_reducible rfl)));(try simp only[Act.put,aW,aV,aU,aT,aS,aR]);(refine wpAnyH_done (by kernel_rfl) ?_ _)
    all_goals (
     go_wp2
     go_ret2
     refine⟨?_,⟨rfl,rfl,rfl,aL _,λ_ _=>rfl⟩⟩
     show Ending.returned (.tuple #[.int .u8 (bits .or .i64 (H*16) L%256),.int .i64 4])=_
     rw[J.out])
   ·rw[if_neg (λg=>n3 (of_decide_eq_true g.2))]
    have n2':¬H<0:=by omega
    have n3':L<0:=by omega
    clear j n2 n3
    go_enter func164,ntmps164
    go_upto_region 3 with fail
    (refine wp_region_held_drew (S:=λ_=>True) (by kernel_rfl) trivial ?_);intro hS;(refine wpAnyH_take (i:=0) (v:=?_) rfl (by kernel_rfl) (by kernel_rfl) (by kernel_rfl) (λ_ _ _ h=>h) (Or.inl ⟨by rfl,?_⟩) hS ?_);rotate_left;(focus (intro w' hSw;go_simp;(try with_reducible rfl)));(try simp only[Act.put,aW,aV,aU,aT,aS,aR]);(refine wpAnyH_take (i:=1) (v:=?_) rfl (by kernel_rfl) (by kernel_rfl) (by kernel_rfl) (λ_ _ _ h=>h) (Or.inl ⟨by rfl,?_⟩) hS ?_);rotate_left;(focus (intro w' hSw;go_simp;(try with_reducible rfl)));(try simp only[Act.put,aW,aV,aU,aT,aS,aR]);(refine wpAnyH_take (i:=3) (v:=?_) rfl (by kernel_rfl) (by kernel_rfl) (by kernel_rfl) (λ_ _ _ h=>h) (Or.inl ⟨by rfl,?_⟩) hS ?_);rotate_left;(focus (intro w' hSw;go_simp;(try with_reducible rfl)));(try simp only[Act.put,aW,aV,aU,aT,aS,aR]);(refine wpAnyH_take (i:=4) (v:=?_) rfl (by kernel_rfl) (by kernel_rfl) (by kernel_rfl) (λ_ _ _ h=>h) (Or.inl ⟨by rfl,?_⟩) hS ?_);rotate_left;(focus (intro w' hSw;go_simp;(try with_reducible rfl)));(try simp only[Act.put,aW,aV,aU,aT,aS,aR]);(refine wpAnyH_ready (rs:=[2]) (by kernel_rfl) (by simp) ?_);(refine aY rfl (λK hK=>?_) ay);go_simp;(refine(c2 _).mono ?_);rintro e w' ⟨rfl,rfl⟩;(refine hK.out _ _ trivial (λhS=>?_));clear hK K;(try simp only[Act.put,aW,aV,aU,aT,aS,aR]);(refine wpAnyH_ready (rs:=[5]) (by kernel_rfl) (by simp) ?_);(refine aY rfl (λK hK=>?_) ay);go_simp;(refine(c3 _).mono ?_);rintro e w' ⟨rfl,rfl⟩;(refine hK.out _ _ trivial (λhS=>?_));clear hK K;(try simp only[Act.put,aW,aV,aU,aT,aS,aR]);(refine wpAnyH_take (i:=6) (v:=?_) rfl (by kernel_rfl) (by kernel_rfl) (by kernel_rfl) (λ_ _ _ h=>h) (Or.inl ⟨by rfl,?_⟩) hS ?_);rotate_left;(focus (intro w' hSw;go_simp;(try with_reducible rfl)));(try simp only[Act.put,aW,aV,aU,aT,aS,aR]);(refine wpAnyH_take (i:=7) (v:=?_) rfl (by kernel_rfl) (by kernel_rfl) (by kernel_rfl) (λ_ _ _ h=>h) (Or.inl ⟨by rfl,?_⟩) hS ?_);rotate_left;(focus (intro w' hSw;go_simp;(try with_reducible rfl)));(try simp only[Act.put,aW,aV,aU,aT,aS,aR]);(refine wpAnyH_done (by kernel_rfl) ?_ _)
    all_goals (
     go_wp2
     go_ret2
     exact⟨rfl,⟨rfl,rfl,rfl,aL _,λ_ _=>rfl⟩⟩)
  ·rw[if_neg (λg=>n2 (of_decide_eq_true g.1))]
   have n2':H<0:=by omega
   clear j n2
   go_enter func164,ntmps164
   go_upto_region 3 with fail
   (refine wp_region_held_drew (S:=λ_=>True) (by kernel_rfl) trivial ?_);intro hS;(refine wpAnyH_take (i:=0) (v:=?_) rfl (by kernel_rfl) (by kernel_rfl) (by kernel_rfl) (λ_ _ _ h=>h) (Or.inl ⟨by rfl,?_⟩) hS ?_);rotate_left;(focus (intro w' hSw;go_simp;(try with_reducible rfl)));(try simp only[Act.put,aW,aV,aU,aT,aS,aR]);(refine wpAnyH_take (i:=1) (v:=?_) rfl (by kernel_rfl) (by kernel_rfl) (by kernel_rfl) (λ_ _ _ h=>h) (Or.inl ⟨by rfl,?_⟩) hS ?_);rotate_left;(focus (intro w' hSw;go_simp;(try with_reducible rfl)));(try simp only[Act.put,aW,aV,aU,aT,aS,aR]);(refine wpAnyH_take (i:=3) (v:=?_) rfl (by kernel_rfl) (by kernel_rfl) (by kernel_rfl) (λ_ _ _ h=>h) (Or.inl ⟨by rfl,?_⟩) hS ?_);rotate_left;(focus (intro w' hSw;go_simp;(try with_reducible rfl)));(try simp only[Act.put,aW,aV,aU,aT,aS,aR]);(refine wpAnyH_take (i:=4) (v:=?_) rfl (by kernel_rfl) (by kernel_rfl) (by kernel_rfl) (λ_ _ _ h=>h) (Or.inl ⟨by rfl,?_⟩) hS ?_);rotate_left;(focus (intro w' hSw;go_simp;(try with_reducible rfl)));(try simp only[Act.put,aW,aV,aU,aT,aS,aR]);(refine wpAnyH_ready (rs:=[2]) (by kernel_rfl) (by simp) ?_);(refine aY rfl (λK hK=>?_) ay);go_simp;(refine(c2 _).mono ?_);rintro e w' ⟨rfl,rfl⟩;(refine hK.out _ _ trivial (λhS=>?_));clear hK K;(try simp only[Act.put,aW,aV,aU,aT,aS,aR]);(refine wpAnyH_ready (rs:=[5]) (by kernel_rfl) (by simp) ?_);(refine aY rfl (λK hK=>?_) ay);go_simp;(refine(c3 _).mono ?_);rintro e w' ⟨rfl,rfl⟩;(refine hK.out _ _ trivial (λhS=>?_));clear hK K;(try simp only[Act.put,aW,aV,aU,aT,aS,aR]);(refine wpAnyH_take (i:=6) (v:=?_) rfl (by kernel_rfl) (by kernel_rfl) (by kernel_rfl) (λ_ _ _ h=>h) (Or.inl ⟨by rfl,?_⟩) hS ?_);rotate_left;(focus (intro w' hSw;go_simp;(try with_reducible rfl)));(try simp only[Act.put,aW,aV,aU,aT,aS,aR]);(refine wpAnyH_take (i:=7) (v:=?_) rfl (by kernel_rfl) (by kernel_rfl) (by kernel_rfl) (λ_ _ _ h=>h) (Or.inl ⟨by rfl,?_⟩) hS ?_);rotate_left;(focus (intro w' hSw;go_simp;(try with_reducible rfl)));(try simp only[Act.put,aW,aV,aU,aT,aS,aR]);(refine wpAnyH_done (by kernel_rfl) ?_ _)
   all_goals (
    go_wp2
    go_ret2
    exact⟨rfl,⟨rfl,rfl,rfl,aL _,λ_ _=>rfl⟩⟩)
theorem nS(c:UInt8)(q:List UInt8):(c.toNat<32\/126<c.toNat->bZ (c::q)=(0,0))/\(¬ (c.toNat<32\/126<c.toNat)->c≠92->bZ (c::q)=(c.toNat,1)):=by
 constructor
 ·intro h;unfold bZ;exact if_pos h
 ·intro h1 h2;unfold bZ;dsimp only;rw[if_neg h1,if_neg h2]
theorem jy(q:List UInt8):(q=[]->bZ (92::q)=(0,0))/\(∀d r,q=d::r->(d=92->bZ (92::q)=(92,2))/\(d=34->bZ (92::q)=(34,2))/\(d=110->bZ (92::q)=(10,2))/\(d=120->bZ (92::q)=pG (92::q))/\(d≠92->d≠34->d≠110->d≠120->bZ (92::q)=(0,0))):=by
 refine⟨by rintro rfl;rfl,?_⟩
 rintro d r rfl
 refine⟨by rintro rfl;rfl,by rintro rfl;rfl,by rintro rfl;rfl,?_,?_⟩
 ·rintro rfl
  match r with
  | []=>rfl
  | [_]=>rfl
  | _::_::_=>rfl
 ·intro h1 h2 h3 h4
  unfold bZ
  dsimp only
  rw[if_neg (by decide),if_pos rfl]
  split <;> first|rfl|(rename_i e;injection e with e;contradiction)
theorem zD(s:ByteArray)(h:0<s.size):s.data.toList=s[0]::s.data.toList.drop 1:=by
 have e:=get_at s 0 h
 cases hl:s.data.toList with
 | nil=>rw[hl] at e;cases e
 | cons c r=>rw[hl] at e;injection e with e;rw[e];rfl
theorem Lx(s:ByteArray)(h:1<s.size):s.data.toList.drop 1=s[1]::s.data.toList.drop 2:=by
 have e:=get_at s 1 h
 have e2:(s.data.toList.drop 1)[0]? = some s[1]:=by rw[List.getElem?_drop];exact e
 have e3:s.data.toList.drop 2=(s.data.toList.drop 1).drop 1:=by rw[List.drop_drop]
 rw[e3]
 cases hl:s.data.toList.drop 1 with
 | nil=>rw[hl] at e2;cases e2
 | cons c r=>rw[hl] at e2;injection e2 with e2;rw[e2];rfl
theorem yJ{c:UInt8}{n:Nat}(hn:n<256)(h:c.toNat≠n):c≠n.toUInt8:=by
 rintro rfl
 apply h
 simp
 omega
theorem gQ{c:UInt8}{n:Nat}(h:c.toNat=n):c=n.toUInt8:=by rw[<- h];simp
theorem OA(s:ByteArray)(h0:0<s.size)(hs:s.size<=1000000)(w:World):Calls prog 147 #[.string s] w λe w'=>e=.returned (.tuple #[.int .u8 ((bZ s.data.toList).1:Nat),.int .i64 ((bZ s.data.toList).2:Nat)])/\Below w.heap.size w w':=by
 have cx:=JO s hs
 have z0:(0:Int)<s.size:=by omega
 have hl:=zD s h0
 obtain⟨f1,f2⟩:=nS s[0] (s.data.toList.drop 1)
 rw[<- hl] at f1 f2
 by_cases a1:s[0].toNat<32
 ·rw[f1 (.inl a1)]
  clear f1 f2 hl cx
  go_enter func147,ntmps147
  go_wp2
  go_ret2
  exact⟨rfl,aH _ _⟩
 ·by_cases a2:126<s[0].toNat
  ·rw[f1 (.inr a2)]
   clear f1 f2 hl cx
   go_enter func147,ntmps147
   go_wp2
   go_ret2
   exact⟨rfl,aH _ _⟩
  ·by_cases a3:s[0].toNat=92
   ·have e0:s[0]=92:=gQ a3
    rw[e0] at hl
    obtain⟨g1,g2⟩:=jy (s.data.toList.drop 1)
    rw[<- hl] at g1 g2
    by_cases b:s.size<2
    ·have b':(s.size:Int)<2:=by omega
     rw[g1 (List.drop_eq_nil_of_le (by rw[size_list];omega))]
     clear f1 f2 hl cx g1 g2 e0
     go_enter func147,ntmps147
     go_wp2
     go_ret2
     exact⟨rfl,aH _ _⟩
    ·have z1:(1:Int)<s.size:=by omega
     have h1:1<s.size:=by omega
     have b':¬ (s.size:Int)<2:=by omega
     obtain⟨k1,k2,k3,k4,k5⟩:=g2 _ _ (Lx s h1)
     by_cases d1:s[1].toNat=92
     ·rw[k1 (gQ d1)]
      clear f1 f2 hl cx g1 g2 e0 k1 k2 k3 k4 k5
      go_enter func147,ntmps147
      go_wp2
      go_ret2
      exact⟨rfl,aH _ _⟩
     ·by_cases d2:s[1].toNat=34
      ·rw[k2 (gQ d2)]
       clear f1 f2 hl cx g1 g2 e0 k1 k2 k3 k4 k5
       go_enter func147,ntmps147
       go_wp2
       go_ret2
       exact⟨rfl,aH _ _⟩
      ·by_cases d3:s[1].toNat=110
       ·rw[k3 (gQ d3)]
        clear f1 f2 hl cx g1 g2 e0 k1 k2 k3 k4 k5
        go_enter func147,ntmps147
        go_wp2
        go_ret2
        exact⟨rfl,aH _ _⟩
       ·by_cases d4:s[1].toNat=120
        ·have ek:=k4 (gQ d4)
         rw[ek]
         clear f1 f2 hl g1 g2 e0 k1 k2 k3 k4 k5 ek
         generalize (pG s.data.toList).1=P1 at *
         generalize (pG s.data.toList).2=P2 at *
         go_enter func147,ntmps147
         go_wp2_with (go_at_call 164;(with_reducible refine(cx _).mono ?_);rintro e w2 ⟨rfl,hB⟩)
         go_ret2
         exact⟨rfl,hB⟩
        ·rw[k5 (yJ (by decide) d1) (yJ (by decide) d2) (yJ (by decide) d3) (yJ (by decide) d4)]
         clear f1 f2 hl cx g1 g2 e0 k1 k2 k3 k4 k5
         go_enter func147,ntmps147
         go_wp2
         go_ret2
         exact⟨rfl,aH _ _⟩
   ·rw[f2 (by omega) (yJ (by decide) a3)]
    clear f1 f2 hl cx
    go_enter func147,ntmps147
    go_wp2
    go_ret2
    exact⟨rfl,aH _ _⟩
theorem DF:(prog.info? 5).map (λi=>(i.zero,i.size,i.bytes))=some (some (.int .u8 0),1,1):=by kernel_rfl
theorem GL{W:World}{e:TypeId}{base size:Nat}{v:Value}{n:Nat}{xs:List Value}(h:W.ownsRow base e size v n xs){b:Nat}{c:Array Value}{t:TypeId}(hb:W.heap[b]? = some (.cells c t (0,0)))(hne:e≠t):v.ownBlock≠some b:=by
 rcases h.2 with⟨rfl,_⟩|⟨g,cap,cur,rfl,_,hg,_⟩
 ·simp[Value.ownBlock]
 ·simp only[Value.ownBlock]
  intro e1
  cases e1
  rw[hb] at hg
  simp at hg
  exact hne hg.2.symm
theorem MV(l:List UInt8):(pG l).1<256/\(pG l).2<=l.length:=by
 unfold pG
 split
 ·rename_i h lo _
  split
  ·rename_i g
   have g1:0<=bT h:=of_decide_eq_true g.1
   have g2:0<=bT lo:=of_decide_eq_true g.2
   have:=mD h
   have:=mD lo
   exact⟨by dsimp only;omega,by simp⟩
  ·exact⟨by decide,bO _⟩
 ·exact⟨by decide,bO _⟩
theorem yN(l:List UInt8):(bZ l).1<256/\(bZ l).2<=l.length:=by
 cases l with
 | nil=>exact⟨by decide,bO _⟩
 | cons c q=>
  obtain⟨f1,f2⟩:=nS c q
  by_cases a:c.toNat<32\/126<c.toNat
  ·rw[f1 a];exact⟨by decide,bO _⟩
  ·by_cases b:c=92
   ·subst b
    obtain⟨g1,g2⟩:=jy q
    cases q with
    | nil=>rw[g1 rfl];exact⟨by decide,bO _⟩
    | cons d r=>
     obtain⟨k1,k2,k3,k4,k5⟩:=g2 d r rfl
     by_cases d1:d=92
     ·rw[k1 d1];exact⟨by decide,by simp⟩
     ·by_cases d2:d=34
      ·rw[k2 d2];exact⟨by decide,by simp⟩
      ·by_cases d3:d=110
       ·rw[k3 d3];exact⟨by decide,by simp⟩
       ·by_cases d4:d=120
        ·rw[k4 d4];exact MV _
        ·rw[k5 d1 d2 d3 d4];exact⟨by decide,bO _⟩
   ·rw[f2 a b]
    exact⟨c.toNat_lt,by simp⟩
theorem jP(f n:Nat)(acc:List UInt8):bq f [] n acc=gG n 61:=by cases f <;> rfl
theorem iR(f n:Nat)(c:UInt8)(r acc:List UInt8)(hf:0<f)(h:c=34):bq f (c::r) n acc=kN ⟨6,bytesOf acc,0,0⟩ (n+1):=by
 cases f with
 | zero=>omega
 | succ f=>unfold bq;dsimp only;rw[if_pos h]
theorem jQ(f n:Nat)(c:UInt8)(r acc:List UInt8)(hf:0<f)(h:c≠34)(h2:(bZ (c::r)).2=0):bq f (c::r) n acc=gG n 61:=by
 cases f with
 | zero=>omega
 | succ f=>unfold bq;dsimp only;rw[if_neg h,if_pos h2]
theorem kM(f n:Nat)(c:UInt8)(r acc:List UInt8)(h:c≠34)(h2:(bZ (c::r)).2≠0):bq (f+1) (c::r) n acc=bq f ((c::r).drop (bZ (c::r)).2) (n+(bZ (c::r)).2) (acc++[(bZ (c::r)).1.toUInt8]):=by
 conv=>lhs;unfold bq
 dsimp only
 rw[if_neg h,if_neg h2]
theorem LB{p:Pc}(h:p.code=0):qd p=p:=by simp[qd,h]
theorem mo(p:Pc):qd p=p\/p.code≠0/\qd p=gG 1 61:=by
 by_cases h:p.code=0
 ·exact .inl (LB h)
 ·first|exact .inr ⟨h,if_neg h⟩|exact .inl rfl
theorem drop_cons(s:ByteArray)(k:Nat)(h:k<s.size):s.data.toList.drop k=s[k]::s.data.toList.drop (k+1):=by
 have e:=get_at s k h
 rw[dQ (by rw[size_list];exact h)]
 congr 1
theorem yX{W W':World}{base:Nat}{e:TypeId}{size:Nat}{v:Value}{n:Nat}{xs:List Value}(h:W.ownsRow base e size v n xs)(hB:Below W.heap.size W W'):W'.ownsRow base e size v n xs:=by
 refine⟨h.1,?_⟩
 rcases h.2 with h2|⟨g,cap,cur,h1,h2,h3,h4⟩
 ·exact .inl h2
 ·exact .inr ⟨g,cap,cur,h1,h2,(hB.block g (Array.getElem?_eq_some_iff.1 h3).1).trans h3,h4⟩
theorem qc:∀ (f:Nat) (r:List UInt8) (k:Nat) (acc:List UInt8),(∃n,bq f r k acc=gG n 61)\/∃t n,bq f r k acc=kN ⟨6,t,0,0⟩ n
 | 0,r,k,acc=>.inl ⟨k,rfl⟩
 | f+1,[],k,acc=>.inl ⟨k,jP _ _ _⟩
 | f+1,c::q,k,acc=>by
  by_cases c1:c=34
  ·exact .inr ⟨_,_,iR (f+1) k c q acc (by omega) c1⟩
  ·by_cases c2:(bZ (c::q)).2=0
   ·exact .inl ⟨_,jQ (f+1) k c q acc (by omega) c1 c2⟩
   ·rw[kM f k c q acc c1 c2]
    exact qc f _ _ _
def Fw(p:Pc):Value:=if p.code=0 then .tuple #[.string p.t.text,.int .i64 (p.size:Nat),.bool true] else .tuple #[.string ⟨#[]⟩,.int .i64 0,.bool false]
theorem tT(n:Nat):Fw (gG n 61)=.tuple #[.string ⟨#[]⟩,.int .i64 0,.bool false]:=rfl
theorem CQ(t:Tk)(n:Nat):Fw (kN t n)=.tuple #[.string t.text,.int .i64 (n:Nat),.bool true]:=rfl
theorem OW(s:ByteArray)(h0:0<s.size)(hs:s.size<=1000000)(hq:s[0].toNat=34)(R:Value)(hR:Fw (bq s.size (s.data.toList.drop 1) 1 [])=R)(w:World):Calls prog 111 #[.string s] w λe w'=>e=.returned R/\Below w.heap.size w w':=by
 have XF:=hid hR
 have HS:=hid hs
 have cp:∀w,Calls prog 106 #[.string s,.string ⟨#[34]⟩] w λe w'=>e=.returned (.bool true)/\w'=w:=by
  intro w
  have:=jS s ⟨#[34]⟩ w
  have e:eU s.data.toList [34]=true:=by
   rw[zD s h0,gQ hq]
   rfl
  rw[show (⟨#[34]⟩:ByteArray).data.toList=[34] from rfl,e] at this
  exact this
 clear hR hs hq
 obtain⟨i0,hi,hz0,hz1,hz2⟩:=info_parts DF
 go_enter func111,ntmps111
 go_wp2_with (go_at_call 106;(with_reducible refine(cp _).mono ?_);rintro e w' ⟨rfl,hw⟩;rw[hw];clear hw w' cp)
 go_loopw [5,3,6,7] (λv sz _ _ wr=>∃ (k f:Nat) (acc:List UInt8),sz=.int .i64 k/\1<=k/\k<=s.size/\s.size<=k+f/\acc.length<=k/\Fw (bq f (s.data.toList.drop k) k acc)=R/\wr.ownsRow w.heap.size 5 1 v acc.length (pQ acc)/\Below w.heap.size w wr) (λ_ sz _ _ _=>s.size-(intOf sz).toNat)
 case atStart=>exact⟨1,s.size,[],rfl,aL _,h0,by omega,by simp,XF.out,World.ownsRow_nil _ _ _ _,aH _ w⟩
 case round=>
  obtain⟨k,f,acc,rfl,hk1,hk2,hkf,hac,hgo,hown,hB⟩:=hrel
  clear XF
  have HB:=hid hB
  by_cases c:k<s.size
  ·have c':(k:Int)<s.size:=by omega
   have hd:=drop_cons s k c
   rw[hd] at hgo
   by_cases c2:s[k].toNat=34
   ·rw[iR f k s[k] _ acc (by omega) (gQ c2),CQ] at hgo
    have eR:=hid hgo
    have kc:=DW _ hown
    have c3:¬k=s.size:=by omega
    have e1:IntKind.i64.wrap ((k:Int)+1)=((k+1:Nat):Int):=by have:=HS.out;rw[IntKind.wrap_i64];omega
    clear hgo hown hB hd
    go_wp2_with fail
    go_ret3
    exact⟨by rw[<- eR.out];rfl,HB.out⟩
   ·obtain⟨t,ht⟩:∃t,s.extract k s.size=t:=⟨_,rfl⟩
    have tl:t.data.toList=s[k]::s.data.toList.drop (k+1):=by rw[<- ht,iW,<- hd]
    have tz:t.size<=s.size:=by rw[<- size_list t,tl,<- hd,List.length_drop,size_list];omega
    have t0:0<t.size:=by rw[<- size_list t,tl];simp
    have cs:=λw=>OA t t0 (Nat.le_trans tz HS.out) w
    rw[tl] at cs
    obtain⟨p1,p2⟩:=yN (s[k]::s.data.toList.drop (k+1))
    rw[<- tl,size_list] at p2
    have tze:t.size=s.size-k:=by rw[<- size_list t,tl,<- hd,List.length_drop,size_list]
    have p3:(bZ (s[k]::s.data.toList.drop (k+1))).2<=s.size-k:=by rw[<- tl];omega
    have ne:s[k]≠34:=yJ (by decide) c2
    have qb:=jQ f k s[k] (s.data.toList.drop (k+1)) acc (by omega) ne
    have qo:=λf'=>kM f' k s[k] (s.data.toList.drop (k+1)) acc ne
    obtain⟨cc,hcc⟩:∃cc:UInt8,(bZ (s[k]::s.data.toList.drop (k+1))).1=cc.toNat:=⟨(bZ (s[k]::s.data.toList.drop (k+1))).1.toUInt8,by simp;omega⟩
    have ecc:(bZ (s[k]::s.data.toList.drop (k+1))).1.toUInt8=cc:=by rw[hcc];simp
    rw[ecc] at qo
    rw[hcc] at cs
    obtain⟨P,hP⟩:∃P:Nat,(bZ (s[k]::s.data.toList.drop (k+1))).2=P:=⟨_,rfl⟩
    rw[hP] at cs p3 qb qo
    clear p2 tl tz t0 hcc ecc hP p1 tze
    by_cases c4:P=0
    ·rw[qb c4,tT] at hgo
     have eR:=hid hgo
     subst c4
     clear qb qo hgo hown hB hd p3
     go_wp2_with (go_at_call 147;(with_reducible refine(cs _).mono ?_);rintro e w2 ⟨rfl,hB2⟩;(replace HB:=hid (HB.out.trans (hB2.mono HB.out.size)));clear hB2 cs)
     go_ret3
     exact⟨by rw[<- eR.out];rfl,HB.out⟩
    ·have c5:¬ (P:Int)=0:=by omega
     obtain⟨f',rfl⟩:∃f',f=f'+1:=⟨f-1,by omega⟩
     rw[qo f' c4,<- hd,List.drop_drop] at hgo
     have HG:=hid hgo
     have HP:=hid (And.intro p3 (Nat.pos_of_ne_zero c4))
     have e1:IntKind.i64.wrap ((k:Int)+(P:Int))=((k+P:Nat):Int):=by have:=HS.out;rw[IntKind.wrap_i64];omega
     have HO:=hid hown
     have hlen:acc.length+1<=2000000:=by have:=HS.out;omega
     have HL:=hid hlen
     clear qb qo hgo hB hd p3 c4 hown hlen
     go_wp2_with (first|(at_builtin;refine wpList_append_own _ rfl _ _ 100 rfl w.heap.size 5 i0 (.int .u8 0) 1 1 underlying100 hi hz0 hz1 hz2 rfl (by decide) _ _ _ rfl ((yX HO.out HB2.out).alloc _) ⟨_,0,none⟩ 1 1 [.int .u8 cc.toNat] rfl rfl ?c1 ?c2 ?c3 ?c4 ?c5 ?_)|(go_at_call 147;(with_reducible refine(cs _).mono ?_);rintro e w2 ⟨rfl,hB2⟩;(have HB2:=hid hB2);clear hB2 cs))
     case c1=>
      intro j u hj
      match j,hj with
      | 0,hj=>simp at hj;subst hj;simp[Addr.add]
     case c2=>intro u hu;simp at hu;subst hu;rfl
     case c3=>have:=HL.out;unfold maxLen;omega
     case c4=>have:=HL.out;omega
     case c5=>have:=HB.out.size;have:=HB2.out.size;simp;omega
     ·intro v' w1 hown' hgrow _
      have R1:=hid (jU acc cc cc.toNat rfl)
      have hBw:=HB.out.trans (HB2.out.mono HB.out.size)
      have R2:Below w.heap.size w w1:=(hBw.alloc (by have:=hBw.size;omega) _).grown hgrow (by have:=hBw.size;simp;omega) (λg hg=>((yX HO.out HB2.out).lt g hg).1)
      have RB:=hid R2
      clear hgrow R2 hBw HO HB HB2
      go_wp2
      go_roundw
      case rel=>exact⟨k+P,f',acc++[cc],by go_num,by have:=HP.out;omega,by have:=HP.out;omega,by have:=HP.out;omega,by have:=HP.out;simp;omega,HG.out,by have:=R1.out;rw[this,List.length_append];exact hown',RB.out⟩
      case measure=>have:=HP.out;simp[intOf];omega
  ·have ck:k=s.size:=by omega
   rw[List.drop_eq_nil_of_le (by rw[size_list];omega),jP,tT] at hgo
   have eR:=hid hgo
   clear hgo hown hB c
   subst ck
   go_wp2_with fail
   go_ret3
   exact⟨by rw[<- eR.out];rfl,HB.out⟩
theorem LA(s:ByteArray)(h0:0<s.size)(hs:s.size<=1000000)(w:World):Calls prog 79 #[.string s] w λe w'=>e=.returned (pv (dh s.data.toList))/\Below w.heap.size w w':=by
 have z0:(0:Int)<s.size:=by omega
 by_cases c:s[0].toNat=34
 ·have e:dh s.data.toList=qd (bq s.size (s.data.toList.drop 1) 1 []):=by
   have g:s.data.toList.head? = some 34:=(vQ s h0 34 (by decide)).2 c
   unfold dh
   rw[if_pos g,size_list]
  rw[e]
  have cr:=λw=>OW s h0 hs c _ rfl w
  have FR:=hid (bY w (.cells #[.int .i64 0,.int .i64 0,.string ⟨#[]⟩,.int .i64 0,.int .u64 0,.int .i64 0,.int .i64 0] 84))
  have B0:=hid ((aH _ w).alloc (aL _) (.cells #[.int .i64 0,.int .i64 0,.string ⟨#[]⟩,.int .i64 0,.int .u64 0,.int .i64 0,.int .i64 0] 84))
  rcases qc s.size (s.data.toList.drop 1) 1 [] with⟨n,hq⟩|⟨t,n,hq⟩
  ·rw[hq,tT] at cr
   rw[hq]
   have e1:qd (gG n 61)=gG 1 61:=if_neg (show ¬ (61:Int)=0 by decide)
   rw[e1]
   clear e hs hq e1
   go_enter func79,ntmps79;go_wp2_with (go_at_call 111;(with_reducible refine(cr _).mono ?_);rintro e w2 ⟨rfl,hB2⟩;(have hr2:=aF FR.out hB2);(have ec:=aA hr2);(have ef:=aC hr2);(have HR:=hid hr2);(have HB:=hid (B0.out.trans (hB2.mono B0.out.size)));clear hr2 hB2 cr);refine bodyPost_ret (iT rfl _ _ w.heap.size _ _ _ _ _ _ _ (0,0) rfl (mX HR.out _ _ _ _ _ _ _)) rfl ?_;exact⟨rfl,kK HB.out (aL _) _ _ _ _ _ _ _⟩
  ·rw[hq,CQ] at cr
   rw[hq,LB rfl]
   clear e hs hq
   go_enter func79,ntmps79;go_wp2_with (go_at_call 111;(with_reducible refine(cr _).mono ?_);rintro e w2 ⟨rfl,hB2⟩;(have hr2:=aF FR.out hB2);(have ec:=aA hr2);(have ef:=aC hr2);(have HR:=hid hr2);(have HB:=hid (B0.out.trans (hB2.mono B0.out.size)));clear hr2 hB2 cr);refine bodyPost_ret (iT rfl _ _ w.heap.size _ _ _ _ _ _ _ (0,0) rfl (mX HR.out _ _ _ _ _ _ _)) rfl ?_;exact⟨rfl,kK HB.out (aL _) _ _ _ _ _ _ _⟩
 ·have e:dh s.data.toList=lJ:=if_neg (λg=>c ((vQ s h0 34 (by decide)).1 g))
  rw[e]
  clear e hs
  unfold pv lJ
  go_enter func79,ntmps79
  go_wp2
  refine bodyPost_ret (iT rfl _ _ w.heap.size _ _ _ _ _ _ _ (0,0) rfl (bY w _)) rfl ?_
  exact⟨rfl,(aH _ w).alloc (aL _) _⟩
def qw:Array Value:=#[.string ⟨#[61,61]⟩,.string ⟨#[33,61]⟩,.string ⟨#[60,61]⟩,.string ⟨#[62,61]⟩,.string ⟨#[60,60]⟩,.string ⟨#[62,62]⟩,.string ⟨#[47,47]⟩,.string ⟨#[46,46]⟩,.string ⟨#[43]⟩,.string ⟨#[45]⟩,.string ⟨#[42]⟩,.string ⟨#[47]⟩,.string ⟨#[37]⟩,.string ⟨#[38]⟩,.string ⟨#[124]⟩,.string ⟨#[94]⟩,.string ⟨#[126]⟩,.string ⟨#[60]⟩,.string ⟨#[62]⟩,.string ⟨#[61]⟩,.string ⟨#[40]⟩,.string ⟨#[41]⟩,.string ⟨#[123]⟩,.string ⟨#[125]⟩,.string ⟨#[91]⟩,.string ⟨#[93]⟩,.string ⟨#[44]⟩,.string ⟨#[59]⟩,.string ⟨#[58]⟩]
theorem yu:qw.toList=marks.map (λm=>Value.string (bytesOf m)):=rfl
theorem Ip(k:Nat)(h:k<29):qw[k]? = some (.string (bytesOf (marks[k]'h))):=by
 rw[<- Array.getElem?_toList,yu,dI,gI (show k<marks.length from h)]
 rfl
theorem LM(l m:List UInt8):eU l m=(l.take m.length==m):=by
 unfold eU
 rw[Bool.eq_iff_iff,List.isPrefixOf_iff_prefix,beq_iff_eq]
 constructor
 ·rintro⟨r,rfl⟩;simp
 ·intro h
  refine⟨l.drop m.length,?_⟩
  have:=List.take_append_drop m.length l
  rw[h] at this
  exact this
def MarksIn(w:World):Prop:=∃ty fr,w.heap[0]? = some (.cells qw ty fr)
theorem MarksIn.below{w w':World}(h:MarksIn w)(hB:Below w.heap.size w w'):MarksIn w':=by
 obtain⟨ty,fr,h⟩:=h
 exact⟨ty,fr,aF h hB⟩
theorem mkT:∃d,prog.underlying 139=some d/\(match d with | .struct _ | .array _ _=>true|_=>false)=true:=by
 have h:(prog.underlying 139).map (λd=>match d with | .struct _ | .array _ _=>true|_=>false)=some true:=by kernel_rfl
 cases hu:prog.underlying 139 with
 | none=>rw[hu] at h;cases h
 | some d=>rw[hu] at h;injection h with h;exact⟨d,rfl,h⟩
theorem aAQ:(prog.info? 139).map (·.size)=some 29:=by kernel_rfl
theorem mkU:prog.underlying 139=some (.array 29 9):=by kernel_rfl
theorem Sq(cs:Array Value)(k:Nat)(h:k<29)(v:Value)(hv:cs[k]? = some v)(w:World):(Instr.index 139 (.agg cs) (.int .i64 (k:Int))).run prog w=.ok v w:=by
 have h1:(0:Int)<=(k:Int):=by omega
 have h2:(k:Int)<29:=by omega
 simp[Instr.index,asIntOf,run_underlying mkU,h1,h2,h]
 exact run_part_plain w (by kernel_rfl) hv
theorem JX(P:List UInt8->Bool)(k:Nat)(h:k<29)(hp:P (marks[k]'h)=false):(marks.drop (k+1)).find? P=(marks.drop k).find? P:=by
 rw[dQ (i:=k) (show k<marks.length from h),List.find?_cons_of_neg]
 show ¬P (marks[k]'h)=true
 rw[hp];decide
theorem Md(P:List UInt8->Bool)(k:Nat)(h:k<29)(hp:P (marks[k]'h)=true):(marks.drop k).find? P=some (marks[k]'h):=by
 rw[dQ (i:=k) (show k<marks.length from h),List.find?_cons_of_pos]
 ·rfl
 ·exact hp
theorem Io(k:Nat)(h:k<29):(marks[k]'h).length<=2:=by
 have all:∀m ∈ marks,m.length<=2:=by decide
 exact all _ (List.getElem_mem _)
theorem SN(s:ByteArray)(hs:s.size<=1000000)(w:World)(hm:MarksIn w):Calls prog 80 #[.string s] w λe w'=>e=.returned (pv (kP s.data.toList))/\Below w.heap.size w w':=by
 have hB1:Below w.heap.size w (w.alloc (.cells #[.int .i64 0,.int .i64 0,.string ⟨#[]⟩,.int .i64 0,.int .u64 0,.int .i64 0,.int .i64 0] 84)):=(aH _ w).alloc (aL _) _
 obtain⟨ty,fr,hg⟩:=hm.below hB1
 obtain⟨d,hu,hd⟩:=mkT
 have hsz:(prog.info? 139).map (·.size)=some qw.size:=aAQ
 have HG:=hid hg
 clear hm hB1 hg
 obtain⟨F,hF⟩:∃F,marks.find? (λm=>s.data.toList.take m.length==m)=F:=⟨_,rfl⟩
 have HF:=hid hF
 obtain⟨R,hR⟩:∃R,kP s.data.toList=R:=⟨_,rfl⟩
 have RM:=hid (show (∀M,F=some M->R=kN ⟨3,bytesOf M,0,0⟩ M.length)/\(F=none->R=lJ) from⟨λM h=>by rw[<- hR];unfold kP;rw[hF,h],λh=>by rw[<- hR];unfold kP;rw[hF,h]⟩)
 rw[hR]
 clear hF hR
 go_enter func80,ntmps80
 go_upto_region 1 with fail
 refine wp_region_lit ?_
 refine wpList_load_row rfl 139 (.global 0) rfl 0 rfl _ qw fr d HG.out hu (by cases d <;> first|rfl|exact hd) hsz ?_
 clear HG hu hd hsz
 (try simp only[Act.put,aW,aV,aU,aT,aS,aR])
 go_wp2
 go_loop [6] (λi=>∃k:Nat,k<=29/\i=.int .i64 k/\(marks.drop k).find? (λm=>s.data.toList.take m.length==m)=F) (λi=>29-(intOf i).toNat)
 case atStart=>exact⟨0,by decide,rfl,HF.out⟩
 case round=>
  obtain⟨k,hk,rfl,hf⟩:=hrel
  clear HF
  by_cases hlt:k<29
  ·have k1:(k:Int)<29:=by omega
   have mv:=Ip k hlt
   have ml:=Io k hlt
   have cp:=λw=>jS s (bytesOf (marks[k]'hlt)) w
   have eb:(bytesOf (marks[k]'hlt)).data.toList=marks[k]'hlt:=by simp[bytesOf]
   have ez:(bytesOf (marks[k]'hlt)).size=(marks[k]'hlt).length:=rfl
   rw[eb,LM] at cp
   have fs:=JX (λm=>s.data.toList.take m.length==m) k hlt
   have fh:=Md (λm=>s.data.toList.take m.length==m) k hlt
   obtain⟨b,hb⟩:∃b,(s.data.toList.take (marks[k]'hlt).length==marks[k]'hlt)=b:=⟨_,rfl⟩
   rw[hb] at cp
   generalize marks[k]'hlt=M at *
   obtain⟨T,hT⟩:∃T,bytesOf M=T:=⟨_,rfl⟩
   rw[hT] at cp mv ez
   have ix:=λw=>Sq qw k hlt _ mv w
   clear mv
   have T2:=hid (And.intro hT ez)
   cases b with
   | true=>
    have eF:=hid ((fh hb).symm.trans hf)
    clear fs fh hb hf hT ez eb
    go_wp2_with (go_at_call 106;(with_reducible refine(cp _).mono ?_);rintro e w' ⟨rfl,rfl⟩)
    have eR:=RM.out.1 _ eF.out.symm
    rw[eR]
    refine bodyPost_ret (iT rfl _ _ w.heap.size _ _ _ _ _ _ _ (0,0) rfl (bY w _)) rfl ?_
    refine⟨?_,(aH _ _).alloc (aL _) _⟩
    obtain⟨q1,q2⟩:=T2.out
    subst q1
    rfl
   | false=>
    have eF:=hid ((fs hb).trans hf)
    clear fs fh hb hf hT ez eb ml
    go_wp2_with (go_at_call 106;(with_reducible refine(cp _).mono ?_);rintro e w' ⟨rfl,rfl⟩)
    go_round
    case rel=>exact⟨k+1,hlt,by go_num,eF.out⟩
    case measure=>simp[intOf];omega
  ·have k1:¬ (k:Int)<29:=by omega
   have eF:=hid hf
   have ek:k=29:=by omega
   clear hf
   subst ek
   go_wp2
   have e0:F=none:=eF.out.symm
   rw[RM.out.2 e0]
   refine bodyPost_ret (iT rfl _ _ w.heap.size _ _ _ _ _ _ _ (0,0) rfl (bY w _)) rfl ?_
   exact⟨rfl,(aH _ w).alloc (aL _) _⟩
open Go.ChangeShapes Go.WideShapes Go.ChangeAt Go.RowKit
theorem yF{H:Type}{enc:TypeId × Value->H}{P:Program}{w:World}{base:Nat}{sp:Nat->Bool}{held:Bool}{fuel:Nat}{t e:TypeId}{n:Nat}{cs:List Value}{bs:List (List UInt8)}{p:List MemPlace}
  (ht:P.underlying t=some (.array n e)) (he:P.underlying e=some .string) (hce:P.cellsOf e=1) (hct:P.cellsOf t=n)
  (h:DataW.trod enc P w base sp held fuel t cs=some (.agg (bs.map λb=>.lit (.string b)),p)):cs=bs.map λb=>Value.string (bytesOf b):=by
 cases fuel with
 | zero=>simp[DataW.trod] at h
 | succ fuel=>
  simp only[DataW.trod,ht,hce,hct,Nat.mul_one] at h
  split at h
  ·rename_i hl
   obtain⟨xs,hm,hx⟩:=dR.1 h
   have hxs:xs.map (·.1)=bs.map λb=>(DataW.lit (.string b):DataW H):=by
    have:=congrArg Prod.fst hx
    simpa using this
   have hxl:xs.length=n:=by simpa using Lib.mapM_length hm
   have hzl:bs.length=n:=by
    have:=congrArg List.length hxs
    simp at this
    omega
   apply List.ext_getElem?
   intro i
   by_cases hi:i<n
   ·obtain⟨b,hb,hf⟩:=Lib.mapM_at hm i i (by simp[hi])
    obtain⟨s,hc,rfl,_⟩:=DataW.trod_string he hf
    have h1:cs[i]? = some (.string s):=by
     have:=congrArg (·[0]?) hc
     simpa [List.getElem?_take,List.getElem?_drop] using this
    have h2:(xs.map (·.1))[i]? = some (DataW.lit (.string s.data.toList):DataW H):=by simp[hb]
    rw[hxs] at h2
    simp only[dI,dR,DataW.lit.injEq,Lit.string.injEq] at h2
    obtain⟨z',hz',e⟩:=h2
    have e3:bytesOf z'=s:=by rw[e];simp[bytesOf]
    simp[h1,hz',e3]
   ·rw[List.getElem?_eq_none (by omega),List.getElem?_eq_none (by simp;omega)]
  ·cases h
theorem GZ : Tryz.prog.globalNamed "casket/lex.marks" = some 0 := by kernel_rfl
theorem Ol:(prog.globals[0]?).map (·.type)=some 139:=by kernel_rfl
theorem Oj:∃e,prog.underlying 139=some (.array 29 e)/\prog.underlying e=some .string/\prog.cellsOf e=1/\prog.cellsOf 139=29:=⟨9,by kernel_rfl,by kernel_rfl,by kernel_rfl,by kernel_rfl⟩
theorem Om{H:Type}:(Rows.laid_casket_lex_marks:DataW H)=.agg (marks.map λb=>.lit (.string b)):=rfl
theorem Lp {W : World} {cs : Array Value} (h : W.var? Tryz.prog "casket/lex.marks" = some cs) (hc : cs.toList = marks.map fun m => Value.string (bytesOf m)) : MarksIn W := by
 have e:cs=qw:=by
  apply Array.ext'
  rw[hc,yu]
 subst e
 unfold World.var? at h
 rw[GZ] at h
 simp only[Option.bind_some] at h
 split at h
 ·rename_i c ty fr hh
  injection h with h
  subst h
  exact⟨ty,fr,hh⟩
 ·cases h
theorem g64 : Tryz.prog.globalNamed "math/bits.deBruijn64tab" = some 1 := by kernel_rfl
theorem t64:(prog.globals[1]?).map (·.type)=some 183:=by kernel_rfl
theorem Xh:∃e,prog.underlying 183=some (.array 64 e)/\prog.underlying e=some (.int .u8)/\prog.cellsOf e=1/\prog.cellsOf 183=64:=⟨5,by kernel_rfl,by kernel_rfl,by kernel_rfl,by kernel_rfl⟩
theorem Ug{H:Type}:(Rows.laid_math_bits_deBruijn64tab:DataW H)=Lib.tabData .u8 (Lib.deBruijn64tab.map λn:Nat=>(n:Int)):=rfl
theorem own:ownKnob prog.godebug=none:=by kernel_rfl
theorem t10:(prog.globals[3]?).map (·.type)=some 191:=by kernel_rfl
theorem Zi:∃e,prog.underlying 191=some (.array 20 e)/\prog.underlying e=some (.int .u64)/\prog.cellsOf e=1/\prog.cellsOf 191=20:=⟨29,by kernel_rfl,by kernel_rfl,by kernel_rfl,by kernel_rfl⟩
def laidV : List (String × DataW Unit) := [("math/bits.deBruijn32tab", Rows.laid_math_bits_deBruijn32tab), ("math/bits.deBruijn64tab", Rows.laid_math_bits_deBruijn64tab), ("internal/strconv.uint64pow10", Rows.laid_internal_strconv_uint64pow10), ("casket/lex.marks", Rows.laid_casket_lex_marks)]
theorem door_met(os:Os)(args:Array Value):laidMetH prog laidV ((World.doorLaid prog 400 os).forCall (λ_ _=>0) ⟨#[],args,[]⟩).memory:=
 laidMetH_of_parts3 (fuel:=8) (laidMet_of_run' 8 (by kernel_rfl) (by kernel_rfl)) (by kernel_rfl) (by kernel_rfl)
theorem Uh{H:Type}:(Rows.laid_internal_strconv_uint64pow10:DataW H)=Lib.tabData .u64 Lib.pow10Tab:=rfl
theorem of_laid{W:World}(h:laidMetH prog laidV W):Tabs W/\MarksIn W:=by
 rw[MakeChecks.laidMetH_plain _ _ _ (by kernel_rfl)] at h
 obtain⟨ps,⟨g0,t0,cs0,f0,p0,q0,hg0,ht0,hv0,hd0,⟨g1,t1,cs1,f1,p1,q1,hg1,ht1,hv1,hd1,⟨g2,t2,cs2,f2,p2,q2,hg2,ht2,hv2,hd2,⟨g3,t3,cs3,f3,p3,q3,hg3,ht3,hv3,hd3,_,_⟩,_⟩,_⟩,_⟩,_,_⟩:=h
 obtain rfl:=Option.some.inj (g64.symm.trans hg1)
 obtain rfl:=Option.some.inj (AJ.symm.trans hg2)
 obtain rfl:=Option.some.inj (GZ.symm.trans hg3)
 obtain rfl:=Option.some.inj (t64.symm.trans ht1)
 obtain rfl:=Option.some.inj (t10.symm.trans ht2)
 obtain rfl:=Option.some.inj (Ol.symm.trans ht3)
 obtain⟨e1,a1,a2,a3,a4⟩:=Xh
 obtain⟨e2,b1,b2,b3,b4⟩:=Zi
 obtain⟨e3,c1,c2,c3,c4⟩:=Oj
 rw[Ug] at hd1
 rw[Uh] at hd2
 rw[Om] at hd3
 have k1:=Lib.cells_of_tab a1 a2 a3 a4 hd1
 have k2:=Lib.cells_of_tab b1 b2 b3 b4 hd2
 have k3:=yF c1 c2 c3 c4 hd3
 refine⟨⟨?_,λj hj=>?_⟩,Lp hv3 k3⟩
 ·show W.var? Tryz.prog "internal/strconv.uint64pow10" = _
  rw[hv2,<- k2]
 ·have:=World.var?_cell hg1 hv1 j
  rw[this]
  have e:cs1[j]? = cs1.toList[j]?:=by simp
  rw[e,k1,dI,dI,gI hj]
  simp[List.getD_eq_getElem?_getD,gI hj]
end Go.Proofs.YtgchnkgolclmgaaGreatDoor.W
