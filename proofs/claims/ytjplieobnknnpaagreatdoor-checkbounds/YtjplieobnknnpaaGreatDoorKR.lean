import Derived.Test.YtjplieobnknnpaaGreatDoorJG
import Derived.Test.YtjplieobnknnpaaGreatDoorKK
import Derived.WideKeyEntry
import Derived.Laws.StructEq
import Derived.Test.YtjplieobnknnpaaGreatDoorKP
open List renaming map_cons → z8z, map_set → z9z
open Array renaming toList_modify → z4z, toList_push → z5z, getElem?_eq_some_iff → z10z
open Nat renaming le_refl → z1z
open Go.RowKit.Below renaming refl → z0z
open Option renaming map_some → z3z
open Go.IntKind renaming i64 → z6z, wrap_i64 → z7z
open And renaming intro → z2z
open Go.Proofs.Tryz
open List renaming getElem_toArray → zx1, getElem_cons_zero → zx2, getElem_cons_succ → zx3, setIfInBounds_toArray → zx4, set_cons_zero → zx5, set_cons_succ → zx6
set_option maxRecDepth 1000000
set_option maxHeartbeats 8000000
namespace Go.Proofs.YtjplieobnknnpaaGreatDoor.W.Tr
open Go.ChangeShapes Go.WideShapes Go.RowKit Go.ChangeMaps Ck
set_option linter.unusedVariables false
set_option linter.unusedSimpArgs false
theorem OQ:prog.underlying 87=some (.map 48 3):=by kernel_rfl
theorem Kw:(match prog.underlying 48 with|some (.array _ _)|some (.struct _)=>true|_=>false)=true:=by kernel_rfl
theorem yJ(p q:Nd × Nat)(w:World):(Op.equal 48 (Ai p.1 p.2) (Ai q.1 q.2)).run prog w=.ok (Hz p q) w:=by
 obtain⟨n,k⟩:=p
 obtain⟨m,j⟩:=q
 unfold Ai Hz Op.equal Op.maxDepth
 go_simp
 have e:=beq_toListBytes n.text m.text
 by_cases h1:n.kind=m.kind
 ·by_cases h2:n.a=m.a
  ·by_cases h3:k=j
   ·by_cases h4:n.text.toList=m.text.toList
    ·by_cases h5:n.int=m.int
     ·by_cases h6:n.bits=m.bits
      ·simp[h1,h2,h3,h4,h5,h6,e]
      ·simp[h1,h2,h3,h4,h5,h6,e]
     ·simp[h1,h2,h3,h4,h5,e]
    ·simp[h1,h2,h3,h4,e]
   ·have h3':¬ (k:Int)=j:=by omega
    simp[h1,h2,h3,h3']
  ·simp[h1,h2]
 ·simp[h1]
theorem SH(em:Bool)(n:Nat)(t:TypeId)(k:IntKind)(hu:prog.underlying t=some (.int k))(v:Value)(w:World):(Instr.checkKey em (n+1) t v).run prog w=.ok () w:=by
 simp[Instr.checkKey,run_underlying hu]
theorem iI(em:Bool)(n:Nat)(t:TypeId)(hu:prog.underlying t=some .string)(v:Value)(w:World):(Instr.checkKey em (n+1) t v).run prog w=.ok () w:=by
 simp[Instr.checkKey,run_underlying hu]
theorem AA4(N:Nat)(p:Nd × Nat)(em:Bool)(w:World):(Instr.checkKey em (N+1+1) 48 (Ai p.1 p.2)).run prog w=.ok () w:=by
 obtain⟨n,k⟩:=p
 unfold Ai
 rw[Instr.checkKey]
 simp only[Sem.run_bind,run_underlying underlying48,Result.andThen_ok]
 have i1:=SH em N 3 .i64 underlying3
 have i2:=SH em N 2 .i64 underlying2
 have i3:=SH em N 46 .u64 underlying46
 have i4:=iI em N 9 underlying9
 go_simp
theorem PZ(p:Nd × Nat)(em:Bool)(w:World):(Instr.checkKey em 10000 48 (Ai p.1 p.2)).run prog w=.ok () w:=AA4 9998 p em w
def EG:List ((Nd × Nat) × Nat)->Nd × Nat->Option (Nat × Nat)
 | [],_=>none
 | p::l,k=>if Hz k p.1=true then some (0,p.2) else (EG l k).map λq=>(q.1+1,q.2)
def Es(l:List ((Nd × Nat) × Nat))(k:Nd × Nat):Nat:=match EG l k with|some q=>q.2|none=>0
theorem uK(k:Nd × Nat):Hz k k=true:=by
 unfold Hz
 have:=(MapKept.bytes_beq k.1.text k.1.text).2 rfl
 simp[this]
theorem Xk{k p:Nd × Nat}(h:Hz k p=true):Ai p.1 p.2=Ai k.1 k.2:=by
 unfold Hz at h
 simp only[Bool.and_eq_true,beq_iff_eq] at h
 obtain⟨⟨⟨⟨⟨h1,h2⟩,h3⟩,h4⟩,h5⟩,h6⟩:=h
 have h4':=(MapKept.bytes_beq _ _).1 h4
 unfold Ai
 rw[h1,h2,h3,h4',h5,h6]
theorem dR(k:Nd × Nat)(w:World):∀ (es:List MapEntry) (l:List ((Nd × Nat) × Nat)) (i:Nat),es.map (λe=>(e.key,e.val))=l.map (λp=>(Ai p.1.1 p.1.2,Value.int .i64 (p.2:Nat))) ->
  (Instr.findAsking 48 (Ai k.1 k.2) es i).run prog w=.ok ((EG l k).map λq=>(i+q.1,Value.int .i64 (q.2:Nat))) w
 | [],[],i,_=>by simp[Instr.findAsking,EG]
 | [],_::_,i,h=>by simp at h
 | _::_,[],i,h=>by simp at h
 | e::es,p::l,i,h=>by
  simp only[z8z,List.cons.injEq,Prod.mk.injEq] at h
  obtain⟨⟨hk,hv⟩,ht⟩:=h
  unfold Instr.findAsking EG
  rw[Sem.run_bind,hk,yJ k p.1 w]
  simp only[Result.andThen_ok]
  by_cases c:Hz k p.1=true
  ·simp[c,hv]
  ·have c':Hz k p.1=false:=by simpa using c
   simp only[c',Bool.false_eq_true,if_false]
   rw[dR k w es l (i+1) ht]
   cases EG l k with
   | none=>rfl
   | some q=>simp;omega
theorem fF{w:World}{es:List MapEntry}{l:List ((Nd × Nat) × Nat)}(h:es.map (λe=>(e.key,e.val))=l.map (λp=>(Ai p.1.1 p.1.2,Value.int .i64 (p.2:Nat))))(k:Nd × Nat) :
  (Instr.findKey 48 (Ai k.1 k.2) es).run prog w=.ok ((EG l k).map λq=>(q.1,Value.int .i64 (q.2:Nat))) w:=by
 refine(run_findKey_eq (P:=prog) (k:=48) w Kw (Ai k.1 k.2) es).trans ?_
 rw[dR k w es l 0 h]
 cases EG l k with
 | none=>rfl
 | some q=>simp
theorem Ro:∀ (l:List ((Nd × Nat) × Nat)) (k:Nd × Nat) (j c:Nat),EG l k=some (j,c)->∃p,l[j]? = some (p,c)/\Hz k p=true/\bump l k=l.modify j (λq=>(q.1,q.2+1))
 | [],k,j,c,h=>by cases h
 | p::l,k,j,c,h=>by
  unfold EG at h
  unfold bump
  by_cases e:Hz k p.1=true
  ·rw[if_pos e] at h ⊢
   simp only[Option.some.injEq,Prod.mk.injEq] at h
   obtain⟨rfl,rfl⟩:=h
   exact⟨p.1,rfl,e,rfl⟩
  ·rw[if_neg e] at h ⊢
   cases hq:EG l k with
   | none=>rw[hq] at h;cases h
   | some q=>
    rw[hq] at h
    simp only[z3z,Option.some.injEq,Prod.mk.injEq] at h
    obtain⟨rfl,rfl⟩:=h
    obtain⟨p',h1,h2,h3⟩:=Ro l k q.1 q.2 hq
    exact⟨p',by simpa using h1,h2,by rw[h3];rfl⟩
theorem bQ:∀ (l:List ((Nd × Nat) × Nat)) (k:Nd × Nat),EG l k=none->bump l k=l++[(k,1)]/\∀c,EG (l++[(k,c)]) k=some (l.length,c)
 | [],k,h=>⟨rfl,λc=>by simp[EG,uK]⟩
 | p::l,k,h=>by
  unfold EG at h
  by_cases e:Hz k p.1=true
  ·rw[if_pos e] at h;cases h
  ·rw[if_neg e] at h
   have h':EG l k=none:=by
    cases hq:EG l k with
    | none=>rfl
    | some q=>rw[hq] at h;cases h
   obtain⟨h1,h2⟩:=bQ l k h'
   refine⟨?_,λc=>?_⟩
   ·unfold bump
    rw[if_neg e,h1]
    rfl
   ·rw[List.cons_append]
    unfold EG
    rw[if_neg e,h2 c]
    simp
theorem T9{w:World}{b:Nat}{l:List ((Nd × Nat) × Nat)}(h:Ej w b l)(k:Nd × Nat):(Instr.lookup 87 (.map (some b)) (Ai k.1 k.2) false).run prog w=.ok (.int .i64 ((Es l k:Nat):Int)) w:=by
 obtain⟨es,clock,h1,h2,_⟩:=h
 have hf:=fF (w:=w) h2 k
 unfold Es
 cases hp:EG l k with
 | none=>
  rw[hp] at hf
  simp only[Option.map_none] at hf
  simp[Instr.lookup,run_underlying OQ,MapKept.run_getObj_map h1,PZ,hf,OE,Result.andThen]
 | some q=>
  rw[hp] at hf
  simp only[z3z] at hf
  simp[Instr.lookup,run_underlying OQ,MapKept.run_getObj_map h1,PZ,hf,Result.andThen]
theorem OP{w:World}{b:Nat}{es:Array MapEntry}{clock:Nat}{o':Obj}(h:w.heap[b]? = some (.map es clock)):w.grownBy (setBlock w b o') (some b):=
 ⟨rfl,rfl,rfl,by simp[setBlock],λi _ hi=>heap_setBlock_other h _ (λe=>hi (by rw[e]))⟩
theorem XV{w1:World}{b:Nat}{es:Array MapEntry}{clock st j:Nat}(h:w1.heap[b]? = some (.map es clock))(hidx:es.findIdx? (λe=>((e.born:Nat):Int)==((st:Nat):Int))=some j)(v:Value):(Instr.entryStore 87 (.map (some b)) (goInt st) v).run prog w1=.ok () (setBlock w1 b (.map (es.modify j λe=>{ e with val:=v }) clock)):=by
 simp[Instr.entryStore,MapKept.run_getObj_map h,asInt,asIntOf,goInt,hidx,MapKept.run_setObj_map _ h,Result.andThen,setBlock]
theorem ACr{w:World}{b:Nat}{l:List ((Nd × Nat) × Nat)}(h:Ej w b l)(k:Nd × Nat) :
  ∃ (v0:Value) (st:Nat) (w1:World),(Instr.mapEntry 87 (.map (some b)) (Ai k.1 k.2)).run prog w=.ok (.tuple #[v0,goInt st]) w1/\w.grownBy w1 (some b) /\
   (Instr.lookup 87 (.map (some b)) (Ai k.1 k.2) false).run prog w1=.ok (.int .i64 ((Es l k:Nat):Int)) w1 /\
   ∃w3,(Instr.entryStore 87 (.map (some b)) (goInt st) (.int .i64 ((Es l k+1:Nat):Int))).run prog w1=.ok () w3/\Ej w3 b (bump l k)/\w1.grownBy w3 (some b):=by
 obtain⟨es,clock,h1,h2,h3,h4⟩:=h
 have hf:=fF (w:=w) h2 k
 cases hp:EG l k with
 | none=>
  rw[hp] at hf
  simp only[Option.map_none] at hf
  obtain⟨hb1,hb2⟩:=bQ l k hp
  have hc:Es l k=0:=by unfold Es;rw[hp]
  have hk1:(setBlock w b (.map (es.push ⟨Ai k.1 k.2,.int .i64 0,clock⟩) (clock+1))).heap[b]? = some (.map (es.push ⟨Ai k.1 k.2,.int .i64 0,clock⟩) (clock+1)):=heap_setBlock_same h1 _
  have nd:∀v:Value,((es.push ⟨Ai k.1 k.2,v,clock⟩).toList.map (·.born)).Nodup/\∀e ∈ (es.push ⟨Ai k.1 k.2,v,clock⟩).toList,e.born<clock+1:=by
   intro v
   simp only[z5z,List.map_append,z8z,List.map_nil]
   refine⟨List.nodup_append.2 ⟨h3,by simp,λa ha c hc e1=>?_⟩,λe he=>?_⟩
   ·simp only[List.mem_singleton] at hc
    obtain⟨x,hx,rfl⟩:=List.mem_map.1 ha
    have:=h4 x hx
    omega
   ·rcases List.mem_append.1 he with he|he
    ·have:=h4 e he;omega
    ·simp at he;subst he;simp
  have mC:∀ (w':World) (c:Nat),w'.heap[b]? = some (.map (es.push ⟨Ai k.1 k.2,.int .i64 (c:Nat),clock⟩) (clock+1))->Ej w' b (l++[(k,c)]):=by
   intro w' c hw
   refine⟨_,_,hw,?_,nd _⟩
   simp only[z5z,List.map_append,z8z,List.map_nil,h2]
  have m1:=mC _ 0 hk1
  have g1:=T9 m1 k
  have hc1:Es (l++[(k,0)]) k=0:=by unfold Es;rw[hb2 0]
  rw[hc1] at g1
  refine⟨.int .i64 0,clock,_,?_,OP h1,by rw[hc];exact g1,setBlock _ b (.map (es.push ⟨Ai k.1 k.2,.int .i64 1,clock⟩) (clock+1)),?_,?_,OP hk1⟩
  ·simp[Instr.mapEntry,run_underlying OQ,MapKept.run_getObj_map h1,PZ,hf,OE,MapKept.run_setObj_map _ h1,Result.andThen,setBlock]
  ·have hidx:(es.push ⟨Ai k.1 k.2,.int .i64 0,clock⟩).findIdx? (λe=>((e.born:Nat):Int)==((clock:Nat):Int))=some es.size:=by
    rw[WideElems.findIdx_arr]
    exact WideElems.findIdx_born (l:=(es.push ⟨Ai k.1 k.2,.int .i64 0,clock⟩).toList) (j:=es.size) (e0:=⟨Ai k.1 k.2,.int .i64 0,clock⟩) (nd _).1 (by simp)
   have hmod:(es.push ⟨Ai k.1 k.2,.int .i64 0,clock⟩).modify es.size (λe=>{ e with val:=.int .i64 1 })=es.push ⟨Ai k.1 k.2,.int .i64 1,clock⟩:=by
    apply Array.ext'
    rw[z4z,z5z,z5z,<- Array.length_toList,WideElems.modify_last]
   rw[hc,<- hmod]
   exact XV hk1 hidx _
  ·rw[hb1]
   exact mC _ 1 (heap_setBlock_same hk1 _)
 | some q=>
  rw[hp] at hf
  simp only[z3z] at hf
  obtain⟨j,c⟩:=q
  obtain⟨p,q1,q2,q3⟩:=Ro l k j c hp
  have hc:Es l k=c:=by unfold Es;rw[hp]
  have hj:∃e0,es.toList[j]? = some e0/\e0.key=Ai k.1 k.2:=by
   have:=congrArg (λx=>x[j]?) h2
   simp only[List.getElem?_map,q1,z3z] at this
   cases he:es.toList[j]? with
   | none=>rw[he] at this;cases this
   | some e0=>
    rw[he] at this
    simp only[z3z,Option.some.injEq,Prod.mk.injEq] at this
    exact⟨e0,rfl,this.1.trans (Xk q2)⟩
  obtain⟨e0,he0,hek⟩:=hj
  have hj':es[j]? = some e0:=by simpa using he0
  have hsame:es.modify j (λe=>{ e with key:=Ai k.1 k.2 })=es:=by
   apply Array.ext'
   rw[z4z,Go.ChangeMaps.modify_eq_set _ _ _ _ he0]
   have:({ e0 with key:=Ai k.1 k.2 }:MapEntry)=e0:=by rw[<- hek]
   rw[this]
   exact WideElems.set_self _ _ _ he0
  have stays:(Instr.keyThatStays (Ai k.1 k.2) (Ai k.1 k.2)).run prog w=.ok (Ai k.1 k.2) w:=by
   have hs:(k.1.text==k.1.text)=true:=(MapKept.bytes_beq _ _).2 rfl
   simp[Instr.keyThatStays,Instr.sameBits,Ai,hs]
  have hk1:(setBlock w b (.map es clock)).heap[b]? = some (.map es clock):=heap_setBlock_same h1 _
  have m1:Ej (setBlock w b (.map es clock)) b l:=⟨es,clock,hk1,h2,h3,h4⟩
  refine⟨.int .i64 (c:Nat),e0.born,setBlock w b (.map es clock),?_,OP h1,T9 m1 k,setBlock _ b (.map (es.modify j λe=>{ e with val:=.int .i64 ((c+1:Nat):Int) }) clock),?_,?_,OP hk1⟩
  ·simp[Instr.mapEntry,run_underlying OQ,MapKept.run_getObj_map h1,PZ,hf,hj',hek,stays,hsame,MapKept.run_setObj_map _ h1,Result.andThen,setBlock]
  ·have hidx:es.findIdx? (λe=>((e.born:Nat):Int)==((e0.born:Nat):Int))=some j:=by
    rw[WideElems.findIdx_arr]
    exact WideElems.findIdx_born h3 he0
   rw[hc]
   exact XV hk1 hidx _
  ·refine⟨_,_,heap_setBlock_same hk1 _,?_,?_,?_⟩
   ·rw[q3,z4z,Go.ChangeMaps.modify_eq_set _ _ _ _ he0,Go.ChangeMaps.modify_eq_set _ _ _ _ q1,z9z,z9z,h2]
    simp only
    rw[hek,Xk q2]
   ·rw[z4z,Go.ChangeMaps.modify_eq_set _ _ _ _ he0,z9z]
    simp only
    rw[WideElems.set_self _ _ _ (by rw[List.getElem?_map,he0];rfl)]
    exact h3
   ·intro e he
    rw[z4z,Go.ChangeMaps.modify_eq_set _ _ _ _ he0] at he
    rcases List.mem_or_eq_of_mem_set he with he|he
    ·exact h4 e he
    ·rw[he]
     exact h4 e0 (List.mem_of_getElem? he0)
theorem zD{w:World}{b:Nat}{l:List ((Nd × Nat) × Nat)}(h:Ej w b l)(ty:TypeId):∃w',(Builtin.clear_ #[87] ty #[.map (some b)]).run prog w=.ok (.tuple #[]) w'/\Ej w' b []/\w.grownBy w' (some b):=by
 obtain⟨es,clock,h1,_⟩:=h
 refine⟨setBlock w b (.map #[] clock),?_,⟨#[],clock,heap_setBlock_same h1 _,rfl,List.nodup_nil,λe he=>by simp at he⟩,OP h1⟩
 simp[Builtin.clear_,run_underlying OQ,MapKept.run_getObj_map h1,MapKept.run_setObj_map _ h1,Result.andThen,setBlock]
open Go.ChangeShapes Go.WideShapes Go.RowKit Go.Shelf Go.ChangeMaps Ck
section
variable {B:Nat} {w w':World} {pb:Nat} {L:List (Nd × Nat)} {E:List Nat} {mr:Int} {pm:List (ByteArray × Nat)} {lv ev:Value} {mp mt mc:Nat} {ov sv pv:Value} {bs:List Nat} {c:Sc}
theorem ABL{W:World}{B:Nat}{e:TypeId}{g n cap:Nat}{xs:List Value}(h:W.ownsRow B e 1 (.slice (some ⟨g,0,none⟩) n cap) n xs)(j:Nat)(u:Value):(W.setCell ⟨g,j,none⟩ u).ownsRow B e 1 (.slice (some ⟨g,0,none⟩) n cap) n (xs.set j u):=by
 rcases h.2 with⟨h0,_⟩|⟨g',cap',cur,h0,h2,h3,h4,h5,h6,h7⟩
 ·cases h0
 ·simp only[Value.slice.injEq,Option.some.injEq,Addr.mk.injEq,true_and,and_true] at h0
  obtain⟨rfl,rfl⟩:=h0
  have hs:=Io (c:=cur.toList) (by simpa using h3) j u
  refine⟨by rw[List.length_set,h.1],.inr ⟨g,cap,_,rfl,h2,hs,h4,h5,by simpa using h6,?_⟩⟩
  rw[<- h7,List.toList_toArray,List.take_set]
theorem yX{W:World}{B:Nat}{e:TypeId}{g n cap:Nat}{xs:List Value}(h:W.ownsRow B e 1 (.slice (some ⟨g,0,none⟩) n cap) n xs)(j:Nat)(hj:j<n):W.cell? ⟨g,j,none⟩=xs[j]?:=by
 rcases h.2 with⟨h0,_⟩|⟨g',cap',cur,h0,h2,h3,h4,h5,h6,h7⟩
 ·cases h0
 ·simp only[Value.slice.injEq,Option.some.injEq,Addr.mk.injEq,true_and,and_true] at h0
  obtain⟨rfl,rfl⟩:=h0
  rw[cell_of_row _ g _ _ _ _ h3,<- h7,List.getElem?_take,if_pos (by omega),Array.getElem?_toList]
theorem Pz.setLab(h:Pz B w pb L E mr pm lv ev mp mt mc ov sv pv bs c){l0:ByteArray}{lr:List ByteArray}(hl:c.lps=l0::lr){g pc:Nat}(hp:pv=.slice (some ⟨g,0,none⟩) (lr.length+1) pc)(x:ByteArray):Pz B (w.setCell ⟨g,lr.length,none⟩ (.string x)) pb L E mr pm lv ev mp mt mc ov sv pv bs { c with lps:=x::lr }:=by
 subst hp
 have hlo:=h.pr.lps
 unfold GZ at hlo
 rw[hl] at hlo
 have hlen:(l0::lr).reverse.length=lr.length+1:=by simp
 rw[hlen] at hlo
 have hU:It.AL (λk=>k=pb\/(Value.slice (some ⟨g,0,none⟩) (lr.length+1) pc).ownBlock=some k) w (w.setCell ⟨g,lr.length,none⟩ (.string x)):=(It.AL.refl _ w).setCell (p:=⟨g,lr.length,none⟩) (.inl (.inr rfl)) _
 have hne:=h.ne7
 have hb:(w.setCell ⟨g,lr.length,none⟩ (.string x)).heap[pb]? = w.heap[pb]?:=Below.heap_setCell _ _ _ _ (λe=>hne (by rw[e];rfl))
 refine h.newL hU (hb.trans h.pr.blk) ?_ (by have:=h.pr.few;rw[hl] at this;simpa using this.2.2)
 have:=ABL hlo lr.length (.string x)
 unfold GZ
 have e1:(x::lr).reverse.length=lr.length+1:=by simp
 have e2:(List.map Value.string (l0::lr).reverse).set lr.length (.string x)=List.map Value.string (x::lr).reverse:=by
  simp[List.set_append]
 rw[e1,<- e2]
 exact this
theorem Pz.beside(h:Pz B w pb L E mr pm lv ev mp mt mc ov sv pv bs c){X:Nat->Prop}(hU:It.AL X w w')(hX:∀k,X k->B<=k/\∃cur,w.heap[k]? = some (.cells cur 48 (0,0))):Pz B w' pb L E mr pm lv ev mp mt mc ov sv pv bs c:=by
 have hB:=hU.below h.size (λk e=>(hX k e).1)
 have sep:∀ (k:Nat) (o:Obj),w.heap[k]? = some o->DX o≠48+2->w'.heap[k]? = w.heap[k]?:=by
  intro k o hk h1
  refine hU.block k (z10z.1 hk).1 (λe=>?_)
  obtain⟨_,cur,h3⟩:=hX k e
  exact Da hk h3 h1 rfl
 obtain⟨m1,m2,m3,m4⟩:=h.maps_on hU (λb hb e=>by
  obtain⟨es,k,h1⟩:=h.mobj b hb
  obtain⟨_,cur,h3⟩:=hX b e
  exact Da h1 h3 (by simp[DX]) rfl)
 refine⟨⟨(sep pb _ h.pr.blk (by show 91+2≠_;decide)).trans h.pr.blk,h.row hB,h.ends hB,h.pr.ok,Hu h.pr.opn λg e=>?_,Hu h.pr.scs λg e=>?_,Hu h.pr.lps λg e=>?_,h.pr.blen,m1,m2,m3,m4,h.pr.few,h.pr.some1⟩,h.low,h.rl,h.el,h.lows,h.nd⟩
 ·obtain⟨_,cur,h3⟩:=Ba h.pr.opn e
  exact sep g _ h3 (by show 134+2≠_;decide)
 ·obtain⟨_,cur,h3⟩:=Ba h.pr.scs e
  exact sep g _ h3 (by show 83+2≠_;decide)
 ·obtain⟨_,cur,h3⟩:=Ba h.pr.lps e
  exact sep g _ h3 (by show 9+2≠_;decide)
theorem sN{l:List ((Nd × Nat) × Nat)}(h:∀p ∈ l,p.2<=1000000)(k:Nd × Nat):Es l k<=100000000:=by
 unfold Es
 cases hp:EG l k with
 | none=>simp
 | some q=>
  obtain⟨p,h1,_⟩:=Ro l k q.1 q.2 hp
  have:=h _ (List.mem_of_getElem? h1)
  simp only at this ⊢
  omega
end
section
variable {B:Nat} {w w':World} {pb:Nat} {L:List (Nd × Nat)} {E:List Nat} {mr:Int} {pm:List (ByteArray × Nat)} {lv ev:Value} {mp mt mc:Nat} {ov sv pv:Value} {bs:List Nat} {c:Sc}
theorem Oj(h:Pz B w pb L E mr pm lv ev mp mt mc ov sv pv bs c)(a:Nat){n:Nd}{kids:Nat}(hn:L[a]? = some (n,kids))(hf:c.opn.length<99999/\c.scs.length<199990/\c.lps.length<99990){c1:Sc}(hd:(∃ (o:Nat × Nat × Nat) (r:List (Nat × Nat × Nat)) (m:Nd) (kd:Nat),n.kind=5/\c.opn=o::r/\L[o.1]? = some (m,kd)/\m.kind≠11/\c1={ c with scs:=[]::c.scs,opn:=(a,c.scs.length,c.lps.length)::c.opn })\/(∃ (o:Nat × Nat × Nat) (r:List (Nat × Nat × Nat)) (m:Nd) (kd:Nat),n.kind=5/\c.opn=o::r/\L[o.1]? = some (m,kd)/\m.kind=11/\c1={ c with scs:=[]::EM [] m.text o.1::c.scs,opn:=(a,c.scs.length,c.lps.length)::c.opn })\/(∃l0 lr,n.kind=12/\c.lps=l0::lr/\c1={ c with lps:=n.text::lr,opn:=(a,c.scs.length,lr.length+1)::c.opn })\/(n.kind=3/\c1={ c with taken:=EM c.taken n.text a,scs:=[]::c.scs,cst:=[],opn:=(a,c.scs.length,c.lps.length)::c.opn })\/((n.kind=26\/n.kind=27\/n.kind=28)/\(∀p ∈ c.cst,p.2<=1000000)/\c1={ c with cst:=bump c.cst ({ n with a:=0 },kids),opn:=(a,c.scs.length,c.lps.length)::c.opn })) :
  Calls prog 40 #[.pointer (some ⟨pb,0,none⟩),.int .i64 (a:Nat)] w λe w'=>e=.returned (.tuple #[])/\Below B w w'/\A9 w w'/\∃ov' sv' pv' bs',Pz B w' pb L E mr pm lv ev mp mt mc ov' sv' pv' bs' c1:=by
 have H:=hid h
 have HN:=hid hn
 have HF:=hid hf
 have HD:=hid hd
 have hlt:=h.lt
 have hsz:=h.size
 obtain⟨gl,lc,hlv,hgl,hLl,_⟩:=id h.pr.row
 have hrow:=h.pr.row
 rw[hlv] at hrow
 obtain⟨c0,c1,c2,c3,c4,c5⟩:=hrow.at hn
 simp only at c0 c1 c2 c3 c4 c5
 have p0:=AU h.pr.blk 0
 change _=some lv at p0
 rw[hlv] at p0
 have hal:=(List.getElem?_eq_some_iff.1 hn).1
 have m1:(0:Int)<=(a:Nat):=by omega
 have m2:((a:Nat):Int)<L.length:=by omega
 have bz:Below w.heap.size w (w.alloc (.cells #[.int .i64 0,.int .i64 0,.int .i64 0,.string ⟨#[]⟩,.int .i64 0,.int .u64 0] 48)):=(z0z _ w).alloc (z1z _) _
 have d0:=(bz.cell (p:=⟨gl,a*6,none⟩) hgl).trans c0
 have d1:=(bz.cell (p:=⟨gl,a*6+1,none⟩) hgl).trans c1
 have d2:=(bz.cell (p:=⟨gl,a*6+2,none⟩) hgl).trans c2
 have d3:=(bz.cell (p:=⟨gl,a*6+3,none⟩) hgl).trans c3
 have d4:=(bz.cell (p:=⟨gl,a*6+4,none⟩) hgl).trans c4
 have d5:=(bz.cell (p:=⟨gl,a*6+5,none⟩) hgl).trans c5
 have q0:=(bz.cell (p:=⟨pb,0,none⟩) h.lt).trans p0
 clear h hlv hgl hLl hrow hn hal bz hf hd
 generalize L.length=ln at *
 go_enter func40,ntmps40
 go_upto_region 1 with fail
 have b5:Below w.heap.size w (w.alloc (Ab n kids)):=(z0z _ w).alloc (z1z _) _
 have nb:=World.cell?_alloc_new w #[.int .i64 n.kind,.int .i64 n.a,.int .i64 (kids:Nat),.string n.text,.int .i64 n.int,.int .u64 n.bits] 48
 have hnb:(w.alloc (Ab n kids)).heap[w.heap.size]? = some (.cells #[.int .i64 n.kind,.int .i64 n.a,.int .i64 (kids:Nat),.string n.text,.int .i64 n.int,.int .u64 n.bits] 48 (0,0)):=World.alloc_heap_new w (.cells #[.int .i64 n.kind,.int .i64 n.a,.int .i64 (kids:Nat),.string n.text,.int .i64 n.int,.int .u64 n.bits] 48)
 have h5:=H.out.below b5
 have hoo:ov.ownBlock≠some w.heap.size:=λe=>Nat.lt_irrefl _ (VO H.out.pr.opn e)
 have hpn:w.heap.size≠pb:=by omega
 have B5:=hid (b5.mono hsz)
 have K5:=hid ((A9.refl w).more b5)
 clear nb b5 d0 d1 d2 d3 d4 d5 q0 c0 c1 c2 c3 c4 c5 p0 m1 m2 H
 simp only[Ab] at *
 generalize World.alloc _ _=W5 at *
 have hBn:B<=w.heap.size:=hsz
 generalize w.heap.size=nbk at *
 obtain⟨hf1,hf2,hf3⟩:=HF.out
 have hnl:nbk<W5.heap.size:=(z10z.1 hnb).1
 have h5d:=h5.drew
 obtain⟨so,sc,rfl⟩:=Et h5.pr.scs
 obtain⟨po,pc,hpv⟩:=Et h5.pr.lps
 simp only[List.length_reverse] at hpv
 subst hpv
 have p5:=AU h5.pr.blk 5
 change _=some ov at p5
 have p6:=AU h5.pr.blk 6
 change _=some (Value.slice so c.scs.length sc) at p6
 have p7:=AU h5.pr.blk 7
 change _=some (Value.slice po c.lps.length pc) at p7
 obtain⟨ov1,w7,hr1,hown1,hgr1⟩:=fK W5.drew 88 ov c.opn.length _ h5d.pr.opn h5d.size a c.scs.length c.lps.length (by omega)
 obtain⟨oo1,oc1,rfl⟩:=Et hown1
 have hU7:It.AL (λk=>ov.ownBlock=some k) W5.drew w7:=((It.AL.refl _ _).alloc _).grown hgr1 (λk e=>.inl e)
 have blk7:=(hU7.block pb h5d.lt h5d.ne5).trans h5d.pr.blk
 have nb7:=(hU7.block nbk hnl hoo).trans hnb
 have z7:=thaw blk7 5
 have q5:=AU blk7 5
 change _=some ov at q5
 have h9:=h5d.pushO (o:=(a,c.scs.length,c.lps.length)) hU7 hown1 (by omega)
 have nb9:(w7.setCell ⟨pb,5,none⟩ (.slice oo1 (c.opn.length+1) oc1)).heap[nbk]? = some (.cells #[.int .i64 n.kind,.int .i64 n.a,.int .i64 (kids:Nat),.string n.text,.int .i64 n.int,.int .u64 n.bits] 48 (0,0)):=(Below.heap_setCell _ _ _ _ hpn).trans nb7
 have B9:Below B w (w7.setCell ⟨pb,5,none⟩ (.slice oo1 (c.opn.length+1) oc1)):=(B5.out.drew.trans (hU7.below h5d.size (λk e=>(Ba h5d.pr.opn e).1))).setCell (p:=⟨pb,5,none⟩) h5.low _
 have HK9:=hid (show A9 w (w7.setCell ⟨pb,5,none⟩ (.slice oo1 (c.opn.length+1) oc1)) from(K5.out.drew.upd hU7 (λk e=>by obtain⟨_,cur,h3⟩:=Ba h5d.pr.opn e;exact⟨_,h3,by show 134+2≠_;decide⟩)).set blk7 (by show 91+2≠_;decide) 5 _)
 have S5:W5.drew.cell? ⟨pb,5,none⟩=some ov/\W5.drew.cell? ⟨pb,6,none⟩=some (Value.slice so c.scs.length sc)/\W5.drew.cell? ⟨pb,7,none⟩=some (Value.slice po c.lps.length pc):=⟨p5,p6,p7⟩
 have ba:=(z0z _ W5.drew).alloc (z1z W5.drew.heap.size) (.cells #[.int .i64 (a:Nat),.int .i64 (c.scs.length:Nat),.int .i64 (c.lps.length:Nat)] 134)
 have S6:(W5.drew.alloc (.cells #[.int .i64 (a:Nat),.int .i64 (c.scs.length:Nat),.int .i64 (c.lps.length:Nat)] 134)).cell? ⟨pb,5,none⟩=some ov/\(W5.drew.alloc (.cells #[.int .i64 (a:Nat),.int .i64 (c.scs.length:Nat),.int .i64 (c.lps.length:Nat)] 134)).cell? ⟨pb,6,none⟩=some (Value.slice so c.scs.length sc)/\(W5.drew.alloc (.cells #[.int .i64 (a:Nat),.int .i64 (c.scs.length:Nat),.int .i64 (c.lps.length:Nat)] 134)).cell? ⟨pb,7,none⟩=some (Value.slice po c.lps.length pc):=⟨(ba.cell (p:=⟨pb,5,none⟩) h5d.lt).trans S5.1,(ba.cell (p:=⟨pb,6,none⟩) h5d.lt).trans S5.2.1,(ba.cell (p:=⟨pb,7,none⟩) h5d.lt).trans S5.2.2⟩
 have S7:w7.cell? ⟨pb,5,none⟩=some ov/\w7.cell? ⟨pb,6,none⟩=some (Value.slice so c.scs.length sc)/\w7.cell? ⟨pb,7,none⟩=some (Value.slice po c.lps.length pc):=⟨AU blk7 5,AU blk7 6,AU blk7 7⟩
 have H9:=hid h9
 have HB9:=hid B9
 have HZ7:=hid z7
 have HR1:=hid hr1
 have HS6:=hid S6
 have HS7:=hid S7
 have HNB:=hid nb9
 clear h5 h5d hr1 hown1 hgr1 hU7 blk7 nb7 z7 h9 B9 ba S6 S7 nb9 hoo B5 p5 p6 p7 q5 hnb hnl K5
 refine It.Eu (z:=21) (S:=λw'=>w'.cell? ⟨pb,5,none⟩=some ov/\w'.cell? ⟨pb,6,none⟩=some (Value.slice so c.scs.length sc)/\w'.cell? ⟨pb,7,none⟩=some (Value.slice po c.lps.length pc)) (by kernel_rfl) ?_
 generalize W5.drew=Wd at *
 iterate 17 ((refine It.nL 0 ?_ rfl (by kernel_rfl) (λ_ _ _ h=>h) (Or.inl ⟨by rfl,?_⟩) S5 ?_);rotate_left;(focus (intro w' hSw;(obtain⟨s0,s1,s2⟩:=hSw);go_simp;(try with_reducible rfl)));(try simp only[Act.put,zx1,zx2,zx3,zx4,zx5,zx6]))
 refine It.Aa (i:=17) (by kernel_rfl) rfl rfl (λK hK=>?_)
 refine It.AZ (λc h=>by cases h) ?_
 have HK1:=hid hK
 clear hK
 go_simp
 refine HK1.out _ _ (.inr HS6.out) ?_
 clear HK1
 (try simp only[Act.put,zx1,zx2,zx3,zx4,zx5,zx6])
 refine It.Aa (i:=18) (by kernel_rfl) rfl rfl (λK hK=>?_)
 refine It.AZ (λc h=>by cases h) ?_
 have HK1:=hid hK
 clear hK
 refine Lib.wp_append_run _ (.tmp 17) (.tmp 30) 88 88 rfl _ _ rfl rfl _ _ HR1.out ?_
 refine HK1.out _ _ (.inr HS7.out) ?_
 clear HK1
 (try simp only[Act.put,zx1,zx2,zx3,zx4,zx5,zx6])
 refine It.Aa (i:=19) (by kernel_rfl) rfl rfl (λK hK=>?_)
 refine It.AZ (λc h=>by cases h) ?_
 have HK1:=hid hK
 clear hK
 go_simp
 refine HK1.out _ _ (.inr HS7.out) ?_
 clear HK1
 (try simp only[Act.put,zx1,zx2,zx3,zx4,zx5,zx6])
 refine It.Aa (i:=20) (by kernel_rfl) rfl rfl (λK hK=>?_)
 refine It.AZ (λc h=>by cases h) ?_
 have HK1:=hid hK
 clear hK
 go_simp
 refine HK1.out _ _ (.inr HS7.out) ?_
 clear HK1
 (try simp only[Act.put,zx1,zx2,zx3,zx4,zx5,zx6])
 refine It.Aa (i:=21) (by kernel_rfl) rfl rfl (λK hK=>?_)
 refine It.AZ (λc h=>by cases h) ?_
 have HK1:=hid hK
 clear hK
 have z7:=HZ7.out
 have s7:=HS7.out.1
 go_simp
 refine HK1.out _ _ (.inl rfl) ?_
 clear HK1
 (try simp only[Act.put,zx1,zx2,zx3,zx4,zx5,zx6])
 refine It.EU (by kernel_rfl) ?_ _
 have h9:=H9.out
 have nb9:=HNB.out
 have hB9:=HB9.out
 have hK9:=HK9.out
 clear HK9 H9 HNB HB9 HR1 HS6 HS7 HZ7 S5
 generalize w7.setCell ⟨pb,5,none⟩ (.slice oo1 (c.opn.length+1) oc1)=W9 at *
 have x0:W9.cell? ⟨nbk,0,none⟩=some (.int .i64 n.kind):=cell_of_row _ _ 0 _ _ _ nb9
 have x3:W9.cell? ⟨nbk,3,none⟩=some (.string n.text):=cell_of_row _ _ 3 _ _ _ nb9
 rcases HD.out with⟨o,r,m,kd,hk,ho,hm,hmk,rfl⟩|⟨o,r,m,kd,hk,ho,hm,hmk,rfl⟩|⟨l0,lr,hk,hcl,rfl⟩|⟨hk,rfl⟩|⟨hk,hcc,rfl⟩
 ·skip
  have HK:=hid hk
  clear hk HD
  have HC:=hid (z2z ho (z2z hm hmk))
  clear ho hm hmk
  have e2:(n.kind==2)=false:=by rw[HK.out];rfl
  have e3:(n.kind==3)=false:=by rw[HK.out];rfl
  have e4:(n.kind==4)=false:=by rw[HK.out];rfl
  have e5:(n.kind==5)=true:=by rw[HK.out];rfl
  obtain⟨ho,hm,hmk⟩:=HC.out
  have ce:=vX h9 (o1:=(a,c.scs.length,c.lps.length)) (o:=o) (r:=r) (by rw[<- ho]) hm (by show c.scs.length<199999;omega) hmk
  have HB9:=hid hB9
  have HK9:=hid hK9
  clear hK9 h9 hB9 nb9 HK HN HF HC ho hm hmk x3
  go_wp2_with (go_at_call 76;(with_reducible refine ce.mono ?_);rintro e w10 ⟨rfl,hB10,hK10,sv',bs',h10⟩;clear ce)
  refine bodyPost_end (results_none rfl _ _ _) rfl ?_
  exact⟨rfl,HB9.out.trans hB10,HK9.out.trans hK10,_,_,_,_,h10⟩
 ·skip
  have HK:=hid hk
  clear hk HD
  have HC:=hid (z2z ho (z2z hm hmk))
  clear ho hm hmk
  have e2:(n.kind==2)=false:=by rw[HK.out];rfl
  have e3:(n.kind==3)=false:=by rw[HK.out];rfl
  have e4:(n.kind==4)=false:=by rw[HK.out];rfl
  have e5:(n.kind==5)=true:=by rw[HK.out];rfl
  obtain⟨ho,hm,hmk⟩:=HC.out
  have ce:=uH h9 (o1:=(a,c.scs.length,c.lps.length)) (o:=o) (r:=r) (by rw[<- ho]) hm (by show c.scs.length<199999;omega) hmk
  have HB9:=hid hB9
  have HK9:=hid hK9
  clear hK9 h9 hB9 nb9 HK HN HF HC ho hm hmk x3
  go_wp2_with (go_at_call 76;(with_reducible refine ce.mono ?_);rintro e w10 ⟨rfl,hB10,hK10,sv',bs',h10⟩;clear ce)
  refine bodyPost_end (results_none rfl _ _ _) rfl ?_
  exact⟨rfl,HB9.out.trans hB10,HK9.out.trans hK10,_,_,_,_,h10⟩
 ·skip
  have HK:=hid hk
  clear hk HD
  have HC:=hid hcl
  clear hcl
  have e2:(n.kind==2)=false:=by rw[HK.out];rfl
  have e3:(n.kind==3)=false:=by rw[HK.out];rfl
  have e4:(n.kind==4)=false:=by rw[HK.out];rfl
  have e5:(n.kind==5)=false:=by rw[HK.out];rfl
  have e10:(n.kind==10)=false:=by rw[HK.out];rfl
  have e11:(n.kind==11)=false:=by rw[HK.out];rfl
  have e12:(n.kind==12)=true:=by rw[HK.out];rfl
  have hcl:=HC.out
  have hll:c.lps.length=lr.length+1:=by rw[hcl];rfl
  have hlr:lr.length<99990:=by omega
  have h9d:=h9.drew
  obtain⟨gp,hpo⟩:∃gp,po=some ⟨gp,0,none⟩:=by
   have:=h9.pr.lps
   unfold GZ at this
   rcases this.2 with⟨_,e0⟩|⟨g',cap',cur,e,_⟩
   ·simp only[List.length_reverse] at e0;omega
   ·simp only[Value.slice.injEq] at e
    exact⟨g',e.1⟩
  subst hpo
  rw[hll] at *
  have HH:=hid (h9d.setLab (l0:=l0) (lr:=lr) hcl rfl n.text)
  have hlow:B<=gp:=(Ba h9d.pr.lps (g:=gp) rfl).1
  have HB:=hid (show Below B w (W9.drew.setCell ⟨gp,lr.length,none⟩ (.string n.text)) from hB9.drew.setCell (p:=⟨gp,lr.length,none⟩) hlow _)
  obtain⟨_,cur0,hcur0⟩:=Ba h9d.pr.lps (g:=gp) rfl
  have KK:=hid (show A9 w (W9.drew.setCell ⟨gp,lr.length,none⟩ (.string n.text)) from hK9.drew.set hcur0 (by show 9+2≠_;decide) _ _)
  clear hK9 hcur0 cur0
  have p7:=AU h9.pr.blk 7
  change _=some (Value.slice (some ⟨gp,0,none⟩) (lr.length+1) pc) at p7
  obtain⟨_,cur,hcur⟩:=Ba h9d.pr.lps (g:=gp) rfl
  have zg:=thaw hcur lr.length
  have xg:W9.drew.cell? ⟨gp,lr.length,none⟩=some (.string l0):=by
   have:=h9d.pr.lps
   unfold GZ at this
   rw[hcl] at this
   have e1:(l0::lr).reverse.length=lr.length+1:=by simp
   rw[e1] at this
   rw[yX this lr.length (by omega)]
   simp
  have HX:=hid xg
  have o1:z6z.wrap (((lr.length+1:Nat):Int)-1)=lr.length:=by rw[z7z];omega
  have o9:z6z.wrap ((lr.length:Nat):Int)=lr.length:=by rw[z7z];omega
  have o1':z6z.wrap (((lr.length:Nat):Int)+1-1)=lr.length:=by rw[z7z];omega
  have o2:(0:Int)<=lr.length:=by omega
  have o3:(lr.length:Int)<((lr.length+1:Nat):Int):=by omega
  have o3':(lr.length:Int)<((lr.length:Nat):Int)+1:=by omega
  have o8:wrap64 ((lr.length:Nat):Int)=lr.length:=by unfold wrap64;omega
  have HZ:=hid zg
  clear h9 h9d hB9 nb9 HK HN HF hlow hcur zg xg hcl HC hll hlr
  go_upto_region 18 with fail
  refine It.Eu (z:=13) (S:=λw'=>w'.cell? ⟨pb,7,none⟩=some (Value.slice (some ⟨gp,0,none⟩) (lr.length+1) pc)/\w'.cell? ⟨nbk,3,none⟩=some (.string n.text)) (by kernel_rfl) ?_
  have S5:W9.drew.cell? ⟨pb,7,none⟩=some (Value.slice (some ⟨gp,0,none⟩) (lr.length+1) pc)/\W9.drew.cell? ⟨nbk,3,none⟩=some (.string n.text):=⟨p7,x3⟩
  generalize W9.drew=Wd at *
  clear x0 x3 p7 e2 e3 e4 e5 e10 e11 e12
  iterate 12 ((refine It.nL 0 ?_ rfl (by kernel_rfl) (λ_ _ _ h=>h) (Or.inl ⟨by rfl,?_⟩) S5 ?_);rotate_left;(focus (intro w' hSw;(obtain⟨s0,s1⟩:=hSw);go_simp;(try with_reducible rfl)));(try simp only[Act.put,zx1,zx2,zx3,zx4,zx5,zx6]))
  refine It.Aa (i:=12) (by kernel_rfl) rfl rfl (λK hK=>?_)
  refine It.AZ (λc h=>by cases h) ?_
  have HK1:=hid hK
  clear hK
  go_simp
  refine HK1.out _ _ (.inr S5) ?_
  clear HK1
  (try simp only[Act.put,zx1,zx2,zx3,zx4,zx5,zx6])
  refine It.Aa (i:=13) (by kernel_rfl) rfl rfl (λK hK=>?_)
  refine It.AZ (λc h=>by cases h) ?_
  have HK1:=hid hK
  clear hK
  have zg:=HZ.out
  have xg:=HX.out
  go_simp
  refine HK1.out _ _ (.inl rfl) ?_
  clear HK1
  (try simp only[Act.put,zx1,zx2,zx3,zx4,zx5,zx6])
  refine It.EU (by kernel_rfl) ?_ _
  clear S5
  go_wp2
  refine bodyPost_end (results_none rfl _ _ _) rfl ?_
  exact⟨rfl,HB.out,KK.out,_,_,_,_,HH.out⟩
 ·skip
  have HK:=hid hk
  clear hk HD
  have e2:(n.kind==2)=false:=by rw[HK.out];rfl
  have e3:(n.kind==3)=true:=by rw[HK.out];rfl
  have h9d:=h9.drew
  obtain⟨W10,hput,hm10,hg10⟩:=Lu (P:=prog) J5 II h9d.pr.tak n.text a
  have hU10:It.AL (λk=>k=mt) W9.drew W10:=(It.AL.refl _ _).grown hg10 (λk e=>.inl (by cases e;rfl))
  have h10:=h9d.putT hU10 hm10
  have K10:=hid (hK9.drew.upd hU10 (λk e=>by obtain⟨es,kk9,q9⟩:=h9d.mobj mt (by simp);exact⟨.map es kk9,by rw[e];exact q9,by show 1≠_;decide⟩))
  clear hK9
  have B10:=hB9.drew.trans (hU10.below h9d.size (λk e=>by subst e;exact h9d.lows _ (by simp)))
  have p4:=AU h9.pr.blk 4
  change _=some (Value.map (some mt)) at p4
  have HP:=hid hput
  have H10:=hid h10
  have HB10:=hid B10
  clear h9 h9d hB9 nb9 HK HN HF hm10 hg10 hU10 hput h10 B10
  go_upto_region 6 with fail
  refine It.Eu (z:=7) (S:=λw'=>w'.cell? ⟨pb,4,none⟩=some (.map (some mt))/\w'.cell? ⟨nbk,3,none⟩=some (.string n.text)) (by kernel_rfl) ?_
  have S5:W9.drew.cell? ⟨pb,4,none⟩=some (.map (some mt))/\W9.drew.cell? ⟨nbk,3,none⟩=some (.string n.text):=⟨p4,x3⟩
  clear p4 x0 x3 e2 e3
  iterate 7 ((refine It.nL 0 ?_ rfl (by kernel_rfl) (λ_ _ _ h=>h) (Or.inl ⟨by rfl,?_⟩) S5 ?_);rotate_left;(focus (intro w' hSw;(obtain⟨s0,s1⟩:=hSw);go_simp;(try with_reducible rfl)));(try simp only[Act.put,zx1,zx2,zx3,zx4,zx5,zx6]))
  refine It.Aa (i:=7) (by kernel_rfl) rfl rfl (λK hK=>?_)
  refine It.AZ (λc h=>by cases h) ?_
  have HK1:=hid hK
  clear hK
  have hput:=HP.out
  go_simp
  refine HK1.out _ _ (.inl rfl) ?_
  clear HK1
  (try simp only[Act.put,zx1,zx2,zx3,zx4,zx5,zx6])
  refine It.EU (by kernel_rfl) ?_ _
  clear S5 HP
  have h10:=H10.out
  have p6:=AU h10.pr.blk 6
  change _=some (Value.slice so c.scs.length sc) at p6
  have h11:=h10.below ((z0z _ W10).alloc (z1z _) (.map #[] 0))
  obtain⟨sv',w12,hr,hown,hgr⟩:=Qz (W10.alloc (.map #[] 0)) 86 (.slice so c.scs.length sc) c.scs.length _ h11.pr.scs h11.size W10.heap.size (by omega)
  obtain⟨oo,oc,rfl⟩:=Et hown
  have hU:It.AL (λk=>(Value.slice so c.scs.length sc).ownBlock=some k) (W10.alloc (.map #[] 0)) w12:=((It.AL.refl _ _).alloc _).grown hgr (λk e=>.inl e)
  have blk12:=(hU.block pb h11.lt h11.ne6).trans h11.pr.blk
  have z12:=thaw blk12 6
  have h13:=h11.pushS hU hown (Px W10) h10.size (λhm=>Nat.lt_irrefl _ (h10.mlt _ hm)) (by show c.scs.length<200000;omega)
  have B13:Below B w (w12.setCell ⟨pb,6,none⟩ (.slice oo (c.scs.length+1) oc)):=(HB10.out.trans ((((z0z _ W10).alloc (z1z _) (.map #[] 0)).mono h10.size).trans (hU.below h11.size (λk e=>(Ba h11.pr.scs e).1)))).setCell (p:=⟨pb,6,none⟩) h10.low _
  have K13:=hid (show A9 w (w12.setCell ⟨pb,6,none⟩ (.slice oo (c.scs.length+1) oc)) from((K10.out.more ((z0z _ W10).alloc (z1z _) (.map #[] 0))).upd hU (λk e=>by obtain⟨_,cur,h3⟩:=Ba h11.pr.scs e;exact⟨_,h3,by show 83+2≠_;decide⟩)).set blk12 (by show 91+2≠_;decide) 6 _)
  have hmm:=@run_makeMap prog
  have p7:=AU blk12 6
  change _=some (Value.slice so c.scs.length sc) at p7
  have H13:=hid h13
  have HB13:=hid B13
  have e9:(W10.alloc (.map #[] 0)).heap.size=W10.heap.size+1:=by simp
  rw[e9] at hr
  have HR:=hid hr
  clear h10 h11 hU hown hgr blk12 h13 B13 hr H10 HB10 K10
  go_upto_region 8 with(at_builtin;refine Lib.wpList_append_run _ rfl (.tmp 58) (.tmp 60) 86 86 rfl (.slice so c.scs.length sc) (.slice (some ⟨W10.heap.size+1,0,none⟩) 1 1) (by simp[Act.eval]) (by simp[Act.eval]) _ w12 HR.out ?_)
  clear p6 p7 z12 hmm e9 HR
  have h13:=H13.out
  generalize w12.setCell ⟨pb,6,none⟩ (.slice oo (c.scs.length+1) oc)=W13 at *
  have p8:=AU h13.pr.blk 8
  change _=some (Value.map (some mc)) at p8
  obtain⟨W14,hcl,hm14,hg14⟩:=zD h13.pr.cst 0
  have hU14:It.AL (λk=>k=mc) W13 W14:=(It.AL.refl _ _).grown hg14 (λk e=>.inl (by cases e;rfl))
  have HH:=hid (h13.putC hU14 hm14)
  have HB:=hid (HB13.out.trans (hU14.below h13.size (λk e=>by subst e;exact h13.lows _ (by simp))))
  have KK:=hid (K13.out.upd hU14 (λk e=>by obtain⟨es,kk9,q9⟩:=h13.mobj mc (by simp);exact⟨.map es kk9,by rw[e];exact q9,by show 1≠_;decide⟩))
  clear h13 hm14 hg14 hU14 H13 HB13 K13
  go_wp2
  refine bodyPost_end (results_none rfl _ _ _) rfl ?_
  exact⟨rfl,HB.out,KK.out,_,_,_,_,HH.out⟩
 ·skip
  have HK:=hid hk
  clear hk HD
  have HC:=hid hcc
  clear hcc
  have kk:=HK.out
  have e2:(n.kind==2)=false:=by rcases kk with h|h|h <;> rw[h] <;> rfl
  have e3:(n.kind==3)=false:=by rcases kk with h|h|h <;> rw[h] <;> rfl
  have e4:(n.kind==4)=false:=by rcases kk with h|h|h <;> rw[h] <;> rfl
  have e5:(n.kind==5)=false:=by rcases kk with h|h|h <;> rw[h] <;> rfl
  have e10:(n.kind==10)=false:=by rcases kk with h|h|h <;> rw[h] <;> rfl
  have e11:(n.kind==11)=false:=by rcases kk with h|h|h <;> rw[h] <;> rfl
  have e12:(n.kind==12)=false:=by rcases kk with h|h|h <;> rw[h] <;> rfl
  have x1:W9.cell? ⟨nbk,1,none⟩=some (.int .i64 n.a):=cell_of_row _ _ 1 _ _ _ nb9
  have z1:=thaw nb9 1
  have hU10:It.AL (λk=>k=nbk) W9 (W9.setCell ⟨nbk,1,none⟩ (.int .i64 0)):=(It.AL.refl (λk=>k=nbk) W9).setCell (p:=⟨nbk,1,none⟩) (.inl rfl) _
  have h10:=h9.beside hU10 (λk e=>by cases e;exact⟨hBn,_,nb9⟩)
  have nb10:(W9.setCell ⟨nbk,1,none⟩ (.int .i64 0)).heap[nbk]? = some (.cells #[.int .i64 n.kind,.int .i64 0,.int .i64 (kids:Nat),.string n.text,.int .i64 n.int,.int .u64 n.bits] 48 (0,0)):=Io (c:=[.int .i64 n.kind,.int .i64 n.a,.int .i64 (kids:Nat),.string n.text,.int .i64 n.int,.int .u64 n.bits]) nb9 1 _
  have B10:Below B w (W9.setCell ⟨nbk,1,none⟩ (.int .i64 0)):=hB9.setCell (p:=⟨nbk,1,none⟩) hBn _
  have H10:=hid h10
  have HB10:=hid B10
  have HN10:=hid nb10
  have HK10:=hid (show A9 w (W9.setCell ⟨nbk,1,none⟩ (.int .i64 0)) from hK9.set nb9 (by show 48+2≠_;decide) _ _)
  clear hK9
  have HKK:=hid kk
  clear h9 hB9 nb9 HK HN HF hU10 h10 nb10 B10 kk x3
  have fin:Hid (∀ (W:World) (aa:Act),aa=aa->True):=hid (λ_ _ _=>trivial)
  clear fin
  rcases HKK.out with hk|hk|hk
  all_goals first|(have e26:(n.kind==26)=true:=by rw[hk];rfl)|(have e26:(n.kind==26)=false:=by rw[hk];rfl)
  all_goals first|(have e27:(n.kind==27)=true:=by rw[hk];rfl)|(have e27:(n.kind==27)=false:=by rw[hk];rfl)
  all_goals first|(have e28:(n.kind==28)=true:=by rw[hk];rfl)|(have e28:(n.kind==28)=false:=by rw[hk];rfl)
  all_goals clear hk HKK
  all_goals
   go_upto_region 23 with fail
   have h10:=H10.out
   have nb10:=HN10.out
   have hB10:=HB10.out
   have hK10:=HK10.out
   clear HK10
   generalize W9.setCell ⟨nbk,1,none⟩ (.int .i64 0)=W10 at *
   have h10d:=h10.drew
   have p8:=AU h10.pr.blk 8
   change _=some (Value.map (some mc)) at p8
   obtain⟨v0,st,W11,hent,hg11,hlk1,W12,hsto,hm12,hg12⟩:=ACr h10d.pr.cst ({ n with a:=0 },kids)
   have hlk0:=T9 h10d.pr.cst ({ n with a:=0 },kids)
   unfold Ai at hent hlk1 hlk0
   simp only at hent hlk1 hsto hm12 hlk0
   have hU11:It.AL (λk=>k=mc) W10.drew W11:=(It.AL.refl _ _).grown hg11 (λk e=>.inl (by cases e;rfl))
   have hU12:It.AL (λk=>k=mc) W10.drew W12:=(It.AL.refl _ _).grown hg11 (λk e=>.inl (by cases e;rfl)) |>.grown hg12 (λk e=>.inl (by cases e;rfl))
   have HH:=hid (h10d.putC hU12 hm12)
   have HB:=hid (hB10.drew.trans (hU12.below h10d.size (λk e=>by subst e;exact h10d.lows _ (by simp))))
   have KK:=hid (hK10.drew.upd hU12 (λk e=>by obtain⟨es,kk9,q9⟩:=h10d.mobj mc (by simp);exact⟨.map es kk9,by rw[e];exact q9,by show 1≠_;decide⟩))
   clear hK10
   have nmc:nbk≠mc:=by
    obtain⟨es,kk,h9⟩:=h10.mobj mc (by simp)
    exact Da nb10 h9 (by show 48+2≠1;decide)
   have pmc:pb≠mc:=by
    obtain⟨es,kk,h9⟩:=h10.mobj mc (by simp)
    exact Da h10.pr.blk h9 (by show 91+2≠1;decide)
   have k11:∀k,k≠mc->k<W10.heap.size->W11.heap[k]? = W10.heap[k]?:=λk h1 h2=>hU11.block k h2 h1
   have b11:=(k11 pb pmc h10.lt).trans h10.pr.blk
   have n11:=(k11 nbk nmc (z10z.1 nb10).1).trans nb10
   have SS:∀w':World,w'.heap[pb]? = some (.cells (Ey lv ev mr mp mt (.slice oo1 (c.opn.length+1) oc1) (.slice so c.scs.length sc) (.slice po c.lps.length pc) mc) 91 (0,0))->w'.heap[nbk]? = some (.cells #[.int .i64 n.kind,.int .i64 0,.int .i64 (kids:Nat),.string n.text,.int .i64 n.int,.int .u64 n.bits] 48 (0,0))->w'.cell? ⟨pb,8,none⟩=some (.map (some mc))/\w'.cell? ⟨nbk,0,none⟩=some (.int .i64 n.kind)/\w'.cell? ⟨nbk,1,none⟩=some (.int .i64 0)/\w'.cell? ⟨nbk,2,none⟩=some (.int .i64 (kids:Nat))/\w'.cell? ⟨nbk,3,none⟩=some (.string n.text)/\w'.cell? ⟨nbk,4,none⟩=some (.int .i64 n.int)/\w'.cell? ⟨nbk,5,none⟩=some (.int .u64 n.bits):=λw' h1 h2=>⟨AU h1 8,cell_of_row _ _ 0 _ _ _ h2,cell_of_row _ _ 1 _ _ _ h2,cell_of_row _ _ 2 _ _ _ h2,cell_of_row _ _ 3 _ _ _ h2,cell_of_row _ _ 4 _ _ _ h2,cell_of_row _ _ 5 _ _ _ h2⟩
   have S5:=z2z (SS W10.drew h10.pr.blk nb10) hlk0
   have HS6:=hid (z2z (SS W11 b11 n11) hlk1)
   have hcb:Es c.cst ({ n with a:=0 },kids)<=100000000:=sN HC.out _
   have wk:z6z.wrap (((Es c.cst ({ n with a:=0 },kids):Nat):Int)+1)=((Es c.cst ({ n with a:=0 },kids)+1:Nat):Int):=by rw[z7z];omega
   have e1':((Es c.cst ({ n with a:=0 },kids)+1:Nat):Int)=((Es c.cst ({ n with a:=0 },kids):Nat):Int)+1:=by omega
   rw[e1'] at hsto
   unfold goInt at hsto
   have HE:=hid hent
   have HT:=hid hsto
   clear e1'
   clear h10 h10d nb10 hB10 hent hg11 hlk1 hsto hm12 hg12 hlk0 hU11 hU12 nmc pmc k11 b11 n11 SS p8 H10 HB10 HN10 x0 x1 z1
   generalize hcc:Es c.cst ({ n with a:=0 },kids)=cc at *
   clear hcc
   refine It.Eu (z:=9) (S:=λw'=>(w'.cell? ⟨pb,8,none⟩=some (.map (some mc))/\w'.cell? ⟨nbk,0,none⟩=some (.int .i64 n.kind)/\w'.cell? ⟨nbk,1,none⟩=some (.int .i64 0)/\w'.cell? ⟨nbk,2,none⟩=some (.int .i64 (kids:Nat))/\w'.cell? ⟨nbk,3,none⟩=some (.string n.text)/\w'.cell? ⟨nbk,4,none⟩=some (.int .i64 n.int)/\w'.cell? ⟨nbk,5,none⟩=some (.int .u64 n.bits))/\(Instr.lookup 87 (.map (some mc)) (.agg #[.int .i64 n.kind,.int .i64 0,.int .i64 (kids:Nat),.string n.text,.int .i64 n.int,.int .u64 n.bits]) false).run prog w'=.ok (.int .i64 (cc:Nat)) w') (by kernel_rfl) ?_
   generalize W10.drew=Wd at *
   iterate 7 ((refine It.nL 0 ?_ rfl (by kernel_rfl) (λ_ _ _ h=>h) (Or.inl ⟨by rfl,?_⟩) S5 ?_);rotate_left;(focus (intro w' hSw;(obtain⟨⟨s0,s1,s2,s3,s4,s5,s6⟩,s7⟩:=hSw);go_simp;(try with_reducible rfl)));(try simp only[Act.put,zx1,zx2,zx3,zx4,zx5,zx6]))
   refine It.Aa (i:=7) (by kernel_rfl) rfl rfl (λK hK=>?_)
   refine It.AZ (λc h=>by cases h) ?_
   have HK1:=hid hK
   clear hK
   have hent:=HE.out
   go_simp
   refine HK1.out _ _ (.inr HS6.out) ?_
   clear HK1
   (try simp only[Act.put,zx1,zx2,zx3,zx4,zx5,zx6])
   refine It.Aa (i:=8) (by kernel_rfl) rfl rfl (λK hK=>?_)
   refine It.AZ (λc h=>by cases h) ?_
   have HK1:=hid hK
   clear hK
   go_simp
   refine HK1.out _ _ (.inr HS6.out) ?_
   clear HK1
   (try simp only[Act.put,zx1,zx2,zx3,zx4,zx5,zx6])
   refine It.Aa (i:=9) (by kernel_rfl) rfl rfl (λK hK=>?_)
   refine It.AZ (λc h=>by cases h) ?_
   have HK1:=hid hK
   clear hK
   have hsto:=HT.out
   go_simp
   refine HK1.out _ _ (.inl rfl) ?_
   clear HK1
   (try simp only[Act.put,zx1,zx2,zx3,zx4,zx5,zx6])
   refine It.EU (by kernel_rfl) ?_ _
   clear S5
   go_wp2
   refine bodyPost_end (results_none rfl _ _ _) rfl ?_
   exact⟨rfl,HB.out,KK.out,_,_,_,_,HH.out⟩
theorem ACg(h:Pz B w pb L E mr pm lv ev mp mt mc ov sv pv bs c)(a:Nat){n:Nd}{kids:Nat}(hn:L[a]? = some (n,kids))(hf:c.opn.length<99999/\c.scs.length<199990/\c.lps.length<99990)(hk:n.kind=5){o:Nat × Nat × Nat}{r:List (Nat × Nat × Nat)}(ho:c.opn=o::r){m:Nd}{kd:Nat}(hm:L[o.1]? = some (m,kd))(hmk:m.kind≠11) :
  Calls prog 40 #[.pointer (some ⟨pb,0,none⟩),.int .i64 (a:Nat)] w λe w'=>e=.returned (.tuple #[])/\Below B w w'/\A9 w w'/\∃ov' sv' pv' bs',Pz B w' pb L E mr pm lv ev mp mt mc ov' sv' pv' bs' { c with scs:=[]::c.scs,opn:=(a,c.scs.length,c.lps.length)::c.opn }:=
 Oj h a hn hf (.inl ⟨_,_,_,_,hk,ho,hm,hmk,rfl⟩)
theorem jV(h:Pz B w pb L E mr pm lv ev mp mt mc ov sv pv bs c)(a:Nat){n:Nd}{kids:Nat}(hn:L[a]? = some (n,kids))(hf:c.opn.length<99999/\c.scs.length<199990/\c.lps.length<99990)(hk:n.kind=5){o:Nat × Nat × Nat}{r:List (Nat × Nat × Nat)}(ho:c.opn=o::r){m:Nd}{kd:Nat}(hm:L[o.1]? = some (m,kd))(hmk:m.kind=11) :
  Calls prog 40 #[.pointer (some ⟨pb,0,none⟩),.int .i64 (a:Nat)] w λe w'=>e=.returned (.tuple #[])/\Below B w w'/\A9 w w'/\∃ov' sv' pv' bs',Pz B w' pb L E mr pm lv ev mp mt mc ov' sv' pv' bs' { c with scs:=[]::EM [] m.text o.1::c.scs,opn:=(a,c.scs.length,c.lps.length)::c.opn }:=
 Oj h a hn hf (.inr (.inl ⟨_,_,_,_,hk,ho,hm,hmk,rfl⟩))
theorem jw(h:Pz B w pb L E mr pm lv ev mp mt mc ov sv pv bs c)(a:Nat){n:Nd}{kids:Nat}(hn:L[a]? = some (n,kids))(hf:c.opn.length<99999/\c.scs.length<199990/\c.lps.length<99990)(hk:n.kind=12){l0:ByteArray}{lr:List ByteArray}(hcl:c.lps=l0::lr) :
  Calls prog 40 #[.pointer (some ⟨pb,0,none⟩),.int .i64 (a:Nat)] w λe w'=>e=.returned (.tuple #[])/\Below B w w'/\A9 w w'/\∃ov' sv' pv' bs',Pz B w' pb L E mr pm lv ev mp mt mc ov' sv' pv' bs' { c with lps:=n.text::lr,opn:=(a,c.scs.length,lr.length+1)::c.opn }:=
 Oj h a hn hf (.inr (.inr (.inl ⟨_,_,hk,hcl,rfl⟩)))
theorem AAb(h:Pz B w pb L E mr pm lv ev mp mt mc ov sv pv bs c)(a:Nat){n:Nd}{kids:Nat}(hn:L[a]? = some (n,kids))(hf:c.opn.length<99999/\c.scs.length<199990/\c.lps.length<99990)(hk:n.kind=3) :
  Calls prog 40 #[.pointer (some ⟨pb,0,none⟩),.int .i64 (a:Nat)] w λe w'=>e=.returned (.tuple #[])/\Below B w w'/\A9 w w'/\∃ov' sv' pv' bs',Pz B w' pb L E mr pm lv ev mp mt mc ov' sv' pv' bs' { c with taken:=EM c.taken n.text a,scs:=[]::c.scs,cst:=[],opn:=(a,c.scs.length,c.lps.length)::c.opn }:=
 Oj h a hn hf (.inr (.inr (.inr (.inl ⟨hk,rfl⟩))))
theorem lN(h:Pz B w pb L E mr pm lv ev mp mt mc ov sv pv bs c)(a:Nat){n:Nd}{kids:Nat}(hn:L[a]? = some (n,kids))(hf:c.opn.length<99999/\c.scs.length<199990/\c.lps.length<99990)(hk:n.kind=26\/n.kind=27\/n.kind=28)(hcc:∀p ∈ c.cst,p.2<=1000000) :
  Calls prog 40 #[.pointer (some ⟨pb,0,none⟩),.int .i64 (a:Nat)] w λe w'=>e=.returned (.tuple #[])/\Below B w w'/\A9 w w'/\∃ov' sv' pv' bs',Pz B w' pb L E mr pm lv ev mp mt mc ov' sv' pv' bs' { c with cst:=bump c.cst ({ n with a:=0 },kids),opn:=(a,c.scs.length,c.lps.length)::c.opn }:=
 Oj h a hn hf (.inr (.inr (.inr (.inr ⟨hk,hcc,rfl⟩))))
end
end Go.Proofs.YtjplieobnknnpaaGreatDoor.W.Tr
