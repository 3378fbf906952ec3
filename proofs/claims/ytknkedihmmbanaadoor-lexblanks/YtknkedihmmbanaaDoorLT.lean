import Derived.Test.YtknkedihmmbanaaDoorLC
open List renaming mem_append → z0z, getElem_append_left → z2z
open Nat renaming le_refl → z1z
set_option maxRecDepth 1000000
set_option maxHeartbeats 8000000
namespace Go.Proofs.YtknkedihmmbanaaDoor.W
open Go.ChangeShapes Go.WideShapes Go.RowKit Go.Shelf
set_option linter.unusedVariables false
theorem find_last(ts:List Yd)(z:Yd)(h:∀y ∈ ts,y.c=0)(hz:z.c≠0):(ts++[z]).find? (λy=>y.c != 0)=some z:=by
 rw[List.find?_append]
 have h1:ts.find? (λy=>y.c != 0)=none:=by
  rw[List.find?_eq_none]
  intro y hy
  simp[h y hy]
 rw[h1]
 have h2:(z.c != 0)=true:=by simp[hz]
 simp[h2]
theorem two_bytes(A B:ByteArray):(A++⟨#[10]⟩++B).data.toList=A.data.toList++10::B.data.toList:=by simp
theorem lexTwo_walk(A B:ByteArray)(wa:A.size<=maxLen)(wb:B.size<=maxLen)(w:World)(ht:Tabs w)(hm:MarksIn w) :
  Calls Tryd.prog 6 #[.string A,.string B] w λe w'=>e=.returned (.bool true)/\Below w.heap.size w w':=by
 by_cases cA:5000<A.size
 ·exact lexTwo_long A B (.inl cA) w
 by_cases cB:5000<B.size
 ·exact lexTwo_long A B (.inr cB) w
 have hA:A.size<=5000:=by omega
 have hB:B.size<=5000:=by omega
 have lA:=size_list A
 have lB:=size_list B
 have hC:(A++⟨#[10]⟩++B).size=A.size+1+B.size:=by
  rw[<- size_list,two_bytes,List.length_append,List.length_cons,lA,lB];omega
 have sA:srcY A.data.toList=T A.data.toList 0:=src_T _ (by omega)
 have sB:srcY B.data.toList=T B.data.toList 0:=src_T _ (by omega)
 have sC:srcY (A++⟨#[10]⟩++B).data.toList=T (A.data.toList++10::B.data.toList) 0:=by
  rw[<- two_bytes]
  exact src_T _ (by rw[size_list];omega)
 have yA:=λw ht hm=>all_any A (by omega) w ht hm
 have yB:=λw ht hm=>all_any B (by omega) w ht hm
 have yC:=λw ht hm=>all_any (A++⟨#[10]⟩++B) (by omega) w ht hm
 obtain⟨ts,z,hT,hts,hz⟩:=T_form _ A.data.toList 0 (z1z _)
 rcases hz with hz|⟨z1,z2,z3,z4⟩
 ·have hw:Well (T A.data.toList 0) ts (0+A.data.toList.length):=⟨by rw[hT,hz],λy hy=>(hts y hy).1⟩
  have hT2:=T_two _ A.data.toList B.data.toList 0 ts (z1z _) hw
  obtain⟨us,v,hU,hus,hv⟩:=T_form _ B.data.toList 0 (z1z _)
  have hsh:T B.data.toList (0+A.data.toList.length+1)=(T B.data.toList 0).map (shY (A.size+1)):=by
   have:=T_shift (A.size+1) _ B.data.toList 0 (z1z _)
   rw[<- this]
   congr 1
  rw[hsh,hU] at hT2
  rcases hv with hv|⟨v1,v2,v3,v4⟩
  ·have hXl:ts.length+1<=A.size+1:=by
    have:=srcY_len A.data.toList
    rw[sA,hT,lA] at this
    simpa using this
   have hYl:us.length+1<=B.size+1:=by
    have:=srcY_len B.data.toList
    rw[sB,hU,lB] at this
    simpa using this
   have hc0:∀y ∈ us++[v],y.c=0/\0<=y.a/\y.a<=6000:=by
    intro y hy
    rcases z0z.1 hy with hy|hy
    ·obtain⟨h1,h2,h3⟩:=hus y hy
     exact⟨h1,by simpa using h2,by omega⟩
    ·simp only[List.mem_singleton] at hy
     subst hy
     rw[hv]
     exact⟨rfl,by simp,by show ((0+B.data.toList.length:Nat):Int)<=6000;omega⟩
   refine lexTwo_good A B hA hB ts (ts++[z]) (us++[v]) (ts++(us++[v]).map (shY (A.size+1))) (ts.length+1) (us.length+1) (ts.length+(us.length+1)) (by simp) (by simp) (by simp) rfl rfl (by omega) (by omega) ?_ ?_ ?_ w ht hm ?_ ?_ ?_
   ·intro k h h1 h3
    rw[z2z h,z2z h]
   ·intro k h2 h3
    rw[List.getElem_append_right (by omega)]
    simp only[Nat.add_sub_cancel_left,List.getElem_map]
    have:=hc0 _ (List.getElem_mem h2)
    unfold shY
    rw[if_pos this.1]
    exact⟨rfl,by simp⟩
   ·intro k h2
    have:=hc0 _ (List.getElem_mem h2)
    exact⟨this.2.1,this.2.2⟩
   ·intro w ht hm
    have:=all_good A (by omega) (ts++[z]) (by rw[sA,hT]) (by rw[hz];intro y hy;rcases z0z.1 hy with hy|hy;exact(hts y hy).1;simp at hy;rw[hy]) (by simp) w ht hm
    simpa using this
   ·intro w ht hm
    have:=all_good B (by omega) (us++[v]) (by rw[sB,hU]) (λy hy=>(hc0 y hy).1) (by simp) w ht hm
    simpa using this
   ·intro w ht hm
    have:=all_good (A++⟨#[10]⟩++B) (by omega) (ts++(us++[v]).map (shY (A.size+1))) (by rw[sC,hT2]) ?_ (by simp;omega) w ht hm
    ·simpa using this
    ·intro y hy
     rcases z0z.1 hy with hy|hy
     ·exact(hts y hy).1
     ·obtain⟨x,hx,rfl⟩:=List.mem_map.1 hy
      have:=(hc0 x hx).1
      unfold shY
      rw[if_pos this]
      exact this
  ·refine lexTwo_second A B hA hB v.c v.f v1 (by simpa using v3) (by simp at v4;omega) w ht hm ?_ (λw ht hm=>all_bad B (by omega) v ?_ w ht hm) (λw ht hm=>?_)
   ·intro w ht hm
    refine(all_good A (by omega) (ts++[z]) (by rw[sA,hT]) (by rw[hz];intro y hy;rcases z0z.1 hy with hy|hy;exact(hts y hy).1;simp at hy;rw[hy]) (by simp) w ht hm).mono ?_
    rintro e w' ⟨h1,g,cap,h2,h3⟩
    exact⟨h1,_,_,_,h2⟩
   ·rw[sB,hU]
    exact find_last us v (λy hy=>(hus y hy).1) v1
   ·have hs:shY (A.size+1) v=⟨v.t,v.a,v.c,v.f+((A.size+1:Nat):Int)⟩:=if_neg v1
    have:=all_bad (A++⟨#[10]⟩++B) (by omega) (shY (A.size+1) v) ?_ w ht hm
    ·rw[hs] at this
     have e:v.f+((A.size+1:Nat):Int)=v.f+(A.size:Nat)+1:=by omega
     rw[<- e]
     exact this
    ·rw[sC,hT2,List.map_append,<- List.append_assoc]
     refine find_last _ _ ?_ ?_
     ·intro y hy
      rcases z0z.1 hy with hy|hy
      ·exact(hts y hy).1
      ·obtain⟨x,hx,rfl⟩:=List.mem_map.1 hy
       have:=(hus x hx).1
       unfold shY
       rw[if_pos this]
       exact this
     ·rw[hs];exact v1
 ·exact lexTwo_first A B hA hB z.c z.f z1 w ht hm (λw ht hm=>all_bad A (by omega) z (by rw[sA,hT];exact find_last ts z (λy hy=>(hts y hy).1) z1) w ht hm) yB yC
end Go.Proofs.YtknkedihmmbanaaDoor.W
