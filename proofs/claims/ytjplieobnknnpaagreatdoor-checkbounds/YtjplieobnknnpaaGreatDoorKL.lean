import Derived.Test.YtjplieobnknnpaaGreatDoorKK
open List renaming getElem?_eq_some_iff → z3z
open Nat renaming le_refl → z1z
open Go.World renaming alloc_heap_new → z2z
open Go.RowKit.Below renaming refl → z0z
open Go.Proofs.Tryz
set_option maxRecDepth 1000000
set_option maxHeartbeats 8000000
namespace Go.Proofs.YtjplieobnknnpaaGreatDoor.W.Tr
open Go.ChangeShapes Go.WideShapes Go.RowKit Go.Shelf Go.ChangeMaps Ck
set_option linter.unusedVariables false
set_option linter.unusedSimpArgs false
section
variable {w:World} {pb:Nat} {L:List (Nd × Nat)} {E:List Nat} {mr:Int} {pm:List (ByteArray × Nat)} {lv ev:Value} {mp mt mc:Nat} {ov sv pv:Value} {bs:List Nat} {c:Sc} {B:Nat}
theorem yU(l:List ByteArray):((l.reverse.length:Int)==0)=l.isEmpty:=by
 cases l with
 | nil=>rfl
 | cons a l=>
  have:¬ ((List.reverse (a::l)).length:Int)=0:=by simp;omega
  rw[List.isEmpty_cons]
  simpa using this
theorem ql(n:Nat):decide (((n:Nat):Int)>15)=decide (15<n):=by
 by_cases h:15<n
 ·rw[decide_eq_true h,decide_eq_true (by omega)]
 ·rw[decide_eq_false h,decide_eq_false (by omega)]
theorem xH(h:Pr w pb L E mr pm lv ev mp mt mc ov sv pv bs c B)(n:Nd)(kids:Nat)(hk:n.kind=4) :
  Calls prog 72 #[.pointer (some ⟨pb,0,none⟩),Ai n kids] w λe w'=>e=.returned (.bool (JE Am pm c n kids))/\Below w.heap.size w w':=by
 obtain⟨q,hq⟩:∃q,JE Am pm c n kids=q:=⟨_,rfl⟩
 rw[hq]
 unfold JE at hq
 rw[if_pos hk] at hq
 (have bw:Below w.heap.size w (w.alloc (Ab n kids)):=(z0z _ w).alloc (z1z _) _);(have hn:=z2z w (Ab n kids));(have hp:=h.below bw);(obtain⟨k,a,t,i,b⟩:=n);simp only[Ai,Ab] at *
 obtain⟨mb,br,l,lr,hbs,hcs,hm,ci⟩:=hp.inn
 rw[hcs,List.headD_cons,<- ql] at hq
 obtain⟨so,sc,rfl⟩:=Et hp.scs
 have c6:=AU hp.blk 6
 have hr:=iQ (P:=prog) J5 3 hm
 change _=some (Value.slice so c.scs.length sc) at c6
 generalize c.scs.length=ln at *
 generalize l.length=ll at *
 subst hk
 clear hp h hn hm hcs hbs
 subst hq
 go_enter func72,ntmps72
 go_wp2_with (go_at_call 75;(with_reducible refine ci.mono ?_);rintro e w1 ⟨rfl,hw⟩;(have hw':=hw.symm);subst hw';clear hw ci)
 go_ret
 exact⟨rfl,bw⟩
theorem nat_ne(a b:Nat):(((a:Nat):Int)!=(b:Nat)) = !(a==b):=by
 by_cases h:a=b
 ·subst h;simp
 ·have h1:(a==b)=false:=by simpa using h
  have h2:¬ ((a:Nat):Int)=b:=by omega
  simp[h1,h2,bne]
theorem jd(h:Pr w pb L E mr pm lv ev mp mt mc ov sv pv bs c B)(n:Nd)(kids:Nat)(hk:n.kind=23) :
  Calls prog 72 #[.pointer (some ⟨pb,0,none⟩),Ai n kids] w λe w'=>e=.returned (.bool (JE Am pm c n kids))/\Below w.heap.size w w':=by
 obtain⟨q,hq⟩:∃q,JE Am pm c n kids=q:=⟨_,rfl⟩
 rw[hq]
 unfold JE at hq
 rw[if_neg (by omega),if_pos hk,<- nat_ne] at hq
 (have bw:Below w.heap.size w (w.alloc (Ab n kids)):=(z0z _ w).alloc (z1z _) _);(have hn:=z2z w (Ab n kids));(have hp:=h.below bw);(obtain⟨k,a,t,i,b⟩:=n);simp only[Ai,Ab] at *
 have ca:=hp.args t
 generalize (Gp Am pm t).isSome=r at *
 generalize (Gp Am pm t).getD 0=d at *
 subst hk
 have HN:=hid hn
 clear hp h hn
 subst hq
 go_enter func72,ntmps72
 go_wp2_with (go_at_call 112;(with_reducible refine ca.mono ?_);rintro e w1 ⟨rfl,hB1⟩;(have HB:=hid (bw.trans (hB1.mono bw.size)));(have c2:=(hB1.cell (p:=⟨w.heap.size,2,none⟩) (by simp)).trans (AU HN.out 2));(change _=some (Value.int .i64 (kids:Nat)) at c2);clear hB1 ca bw HN)
 go_ret
 exact⟨rfl,HB.out⟩
theorem AB7(h:Pr w pb L E mr pm lv ev mp mt mc ov sv pv bs c B)(n:Nd)(kids:Nat) :
  Calls prog 72 #[.pointer (some ⟨pb,0,none⟩),Ai n kids] w λe w'=>e=.returned (.bool (JE Am pm c n kids))/\Below w.heap.size w w':=by
 by_cases h1:n.kind=4
 ·exact xH h n kids h1
 by_cases h2:n.kind=23
 ·exact jd h n kids h2
 have hq:JE Am pm c n kids=false:=by unfold JE;rw[if_neg h1,if_neg h2]
 rw[hq]
 (have bw:Below w.heap.size w (w.alloc (Ab n kids)):=(z0z _ w).alloc (z1z _) _);(have hn:=z2z w (Ab n kids));(have hp:=h.below bw);(obtain⟨k,a,t,i,b⟩:=n);simp only[Ai,Ab] at *
 have b3:(k==4)=false:=by simpa using h1
 have b4:(k==23)=false:=by simpa using h2
 clear hp h hn hq h1 h2
 go_enter func72,ntmps72
 go_wp2
 go_ret
 exact⟨rfl,bw⟩
theorem rH(h:Pr w pb L E mr pm lv ev mp mt mc ov sv pv bs c B)(n:Nd)(kids:Nat) :
  Calls prog 73 #[.pointer (some ⟨pb,0,none⟩),Ai n kids] w λe w'=>e=.returned (.bool (LJ c n))/\Below w.heap.size w w':=by
 by_cases hk:n.kind=13\/n.kind=14
 case neg=>
  have hq:LJ c n=false:=by unfold LJ;rw[if_neg hk]
  rw[hq]
  (have bw:Below w.heap.size w (w.alloc (Ab n kids)):=(z0z _ w).alloc (z1z _) _);(have hn:=z2z w (Ab n kids));(have hp:=h.below bw);(obtain⟨k,a,t,i,b⟩:=n);simp only[Ai,Ab] at *
  have b3:(k==13)=false:=by simp;omega
  have b4:(k==14)=false:=by simp;omega
  clear hp h hn hq hk
  go_enter func73,ntmps73
  go_wp2
  go_ret
  exact⟨rfl,bw⟩
 case pos=>
  obtain⟨q,hq⟩:∃q,LJ c n=q:=⟨_,rfl⟩
  rw[hq]
  unfold LJ at hq
  rw[if_pos hk] at hq
  (have bw:Below w.heap.size w (w.alloc (Ab n kids)):=(z0z _ w).alloc (z1z _) _);(have hn:=z2z w (Ab n kids));(have hp:=h.below bw);(obtain⟨k,a,t,i,b⟩:=n);simp only[Ai,Ab] at *
  have ca:=hp.around t
  obtain⟨so,sc,rfl⟩:=Et hp.lps
  have c7:=AU hp.blk 7
  change _=some (Value.slice so c.lps.reverse.length sc) at c7
  have e0:=yU c.lps
  generalize Ku c t=ar at *
  generalize c.lps.isEmpty=em at *
  generalize c.lps.reverse.length=ln at *
  clear hp h hn
  rcases hk with rfl|rfl
  all_goals
   cases em
   all_goals
    cases ht:(t.toList==[])
    all_goals
     rw[ht] at hq
     subst hq
     go_enter func73,ntmps73
     go_wp2_with (go_at_call 110;(with_reducible refine ca.mono ?_);rintro e w1 ⟨rfl,hw⟩;(have hw':=hw.symm);subst hw';clear hw ca)
     go_ret
     exact⟨by first|rfl|simp,bw⟩
end
section
variable {w:World} {pb:Nat} {L:List (Nd × Nat)} {E:List Nat} {mr:Int} {pm:List (ByteArray × Nat)} {lv ev:Value} {mp mt mc:Nat} {ov sv pv:Value} {bs:List Nat} {c:Sc} {B:Nat}
theorem Cw.at{g cap:Nat}(h:Cw w (.slice (some ⟨g,0,none⟩) L.length cap) L){i:Nat}{p:Nd × Nat}(hp:L[i]? = some p):w.cell? ⟨g,i*6,none⟩=some (.int .i64 p.1.kind)/\w.cell? ⟨g,i*6+1,none⟩=some (.int .i64 p.1.a)/\w.cell? ⟨g,i*6+2,none⟩=some (.int .i64 (p.2:Nat))/\w.cell? ⟨g,i*6+3,none⟩=some (.string p.1.text)/\w.cell? ⟨g,i*6+4,none⟩=some (.int .i64 p.1.int)/\w.cell? ⟨g,i*6+5,none⟩=some (.int .u64 p.1.bits):=by
 obtain⟨g',cap',e,h1,h2,h3⟩:=h
 simp only[Value.slice.injEq,Option.some.injEq,Addr.mk.injEq,true_and,and_true] at e
 obtain⟨rfl,rfl⟩:=e
 exact⟨h3 i p hp 0 (by omega),h3 i p hp 1 (by omega),h3 i p hp 2 (by omega),h3 i p hp 3 (by omega),h3 i p hp 4 (by omega),h3 i p hp 5 (by omega)⟩
theorem Gy.fin(h:Gy L E){a:Nat}{p:Nd × Nat}(hp:L[a]? = some p):∃x,E[a]? = some x/\a<x/\x<=L.length:=by
 obtain⟨x,h1,h2,h3,h4⟩:=h.kid a p hp p.2 (z1z _)
 exact⟨x,(h4 rfl).1,h2,(h4 rfl).2⟩
theorem mZ(n:Nat):decide (((n:Nat):Int)>1000)=decide (1000<n):=by
 by_cases h:1000<n
 ·rw[decide_eq_true h,decide_eq_true (by omega)]
 ·rw[decide_eq_false h,decide_eq_false (by omega)]
theorem rM(h:Pr w pb L E mr pm lv ev mp mt mc ov sv pv bs c B)(a:Nat)(n:Nd)(kids:Nat)(ha:L[a]? = some (n,kids)) :
  Calls prog 74 #[.pointer (some ⟨pb,0,none⟩),.int .i64 (a:Nat)] w λe w'=>e=.returned (.bool (OH E a n))/\Below w.heap.size w w':=by
 obtain⟨x,hx,hax,hxl⟩:=h.ok.fin ha
 obtain⟨g,cap,rfl,hg,hL,_⟩:=id h.row
 obtain⟨c0,_⟩:=h.row.at ha
 have hal:=(z3z.1 ha).1
 have o1:(0:Int)<=a:=by omega
 have o2:(a:Int)<L.length:=by omega
 have p0:=AU h.blk 0
 have p1:=AU h.blk 1
 obtain⟨ge,ce,rfl,hge,_⟩:=id h.ends
 change _=some (Value.slice (some ⟨g,0,none⟩) L.length cap) at p0
 change _=some (Value.slice (some ⟨ge,0,none⟩) E.length ce) at p1
 have cs:=AB5 w (.slice (some ⟨g,0,none⟩) L.length cap) _ E h.ends a x hx (by have:=h.ok.len;omega) hax (by omega) ⟨_,_,_,rfl⟩
 obtain⟨q,hq⟩:∃q,OH E a n=q:=⟨_,rfl⟩
 rw[hq]
 unfold OH IV at hq
 rw[hx,Option.getD_some] at hq
 have hl:x-a<=1000000:=by omega
 generalize x-a=d at *
 generalize L.length=ln at *
 generalize E.length=le at *
 by_cases hk:n.kind=10\/n.kind=11
 case neg=>
  rw[if_neg hk] at hq
  subst hq
  have b3:(n.kind==10)=false:=by simp;omega
  have b4:(n.kind==11)=false:=by simp;omega
  clear h hk cs ha hx hax hxl hal
  go_enter func74,ntmps74
  go_wp2
  go_ret
  exact⟨rfl,z0z _ _⟩
 case pos=>
  rw[if_pos hk,<- mZ] at hq
  subst hq
  generalize n.kind=k at *
  clear h ha hx hax hxl hal
  rcases hk with rfl|rfl
  all_goals
   go_enter func74,ntmps74
   go_wp2_with (go_at_call 113;(with_reducible refine cs.mono ?_);rintro e w1 ⟨rfl,hB⟩;(have HB:=hid hB);clear hB cs)
   go_ret
   exact⟨rfl,HB.out⟩
theorem ACd(h:Pr w pb L E mr pm lv ev mp mt mc ov sv pv bs c B)(a:Nat)(n:Nd)(kids:Nat)(ha:L[a]? = some (n,kids)) :
  Calls prog 39 #[.pointer (some ⟨pb,0,none⟩),.int .i64 (a:Nat)] w λe w'=>e=.returned (.int .i64 (Ez Am pm E c a n kids))/\Below w.heap.size w w':=by
 have bw:Below w.heap.size w (w.alloc (Ab n kids)):=(z0z _ w).alloc (z1z _) _
 have hn:=z2z w (Ab n kids)
 have hp:=h.below bw
 obtain⟨g,cap,rfl,hg,hL,_⟩:=id h.row
 obtain⟨c0,c1,c2,c3,c4,c5⟩:=h.row.at ha
 have hal:=(z3z.1 ha).1
 have o1:(0:Int)<=a:=by omega
 have o2:(a:Int)<L.length:=by omega
 have p0:=AU h.blk 0
 obtain⟨oo,oc,rfl⟩:=Et h.opn
 have p5:=AU hp.blk 5
 change _=some (Value.slice (some ⟨g,0,none⟩) L.length cap) at p0
 change _=some (Value.slice oo c.opn.length oc) at p5
 obtain⟨q,hq⟩:∃q,Ez Am pm E c a n kids=q:=⟨_,rfl⟩
 rw[hq]
 unfold Ez at hq
 have ctw:=λw1 (hB:Below (w.alloc (Ab n kids)).heap.size (w.alloc (Ab n kids)) w1)=>sM (hp.below hB) n kids
 have cnb:=λw1 (hB:Below (w.alloc (Ab n kids)).heap.size (w.alloc (Ab n kids)) w1)=>AAG (hp.below hB) n kids
 have cmi:=λw1 (hB:Below (w.alloc (Ab n kids)).heap.size (w.alloc (Ab n kids)) w1)=>AB7 (hp.below hB) n kids
 have cou:=λw1 (hB:Below (w.alloc (Ab n kids)).heap.size (w.alloc (Ab n kids)) w1)=>rH (hp.below hB) n kids
 have clo:=λw1 (hB:Below (w.alloc (Ab n kids)).heap.size (w.alloc (Ab n kids)) w1)=>rM (hp.below hB) a n kids ha
 have cell:∀j v w1,Below (w.alloc (Ab n kids)).heap.size (w.alloc (Ab n kids)) w1->(#[Value.int .i64 n.kind,.int .i64 n.a,.int .i64 (kids:Nat),.string n.text,.int .i64 n.int,.int .u64 n.bits]:Array Value)[j]? = some v->w1.cell? ⟨w.heap.size,j,none⟩=some v:=λj v w1 hB hv=>((hB.cell (p:=⟨w.heap.size,j,none⟩) (by simp)).trans (AU hn j)).trans hv
 generalize Gh Am c n=b1 at *
 generalize Ir Am pm c n=b2 at *
 generalize JE Am pm c n kids=b3 at *
 generalize LJ c n=b4 at *
 generalize OH E a n=b5 at *
 have dd:decide (((c.opn.length:Nat):Int)>256)=decide (256<c.opn.length):=by
  by_cases h:256<c.opn.length
  ·rw[decide_eq_true h,decide_eq_true (by omega)]
  ·rw[decide_eq_false h,decide_eq_false (by omega)]
 have HW:=hid ctw
 have HX:=hid cnb
 have HY:=hid cmi
 have HZ:=hid cou
 have HV:=hid clo
 have HC:=hid cell
 have HBW:=hid bw
 clear ctw cnb cmi cou clo cell hn hp h ha hL hg hal bw
 simp only[Ai,Ab] at *
 generalize hd:decide (256<c.opn.length)=b0 at *
 have hq2:(if b0=true then (71:Int) else if b1=true then 80 else if b2=true then 63 else if b3=true then 81 else if b4=true then 82 else if b5=true then 85 else 0)=q:=by
  rw[<- hq,<- hd]
  by_cases h:256<c.opn.length <;> simp[h]
 have HQ:=hid hq2
 clear hq hq2 hd
 generalize c.opn.length=ln at *
 cases b0
 case true=>
  obtain rfl:(71:Int)=q:=by simpa using HQ.out
  go_enter func39,ntmps39
  go_wp2
  go_ret
  exact⟨rfl,HBW.out⟩
 cases b1
 case true=>
  obtain rfl:(80:Int)=q:=by simpa using HQ.out
  go_enter func39,ntmps39
  go_wp2_with (first|(go_at_call 70;(with_reducible refine(HW.out _ (z0z _ _)).mono ?_);rintro e w1 ⟨rfl,hB1⟩;(have HB1:=hid hB1);(have d0:=HC.out 0 (.int .i64 n.kind) w1 hB1 rfl);(have d1:=HC.out 1 (.int .i64 n.a) w1 hB1 rfl);(have d2:=HC.out 2 (.int .i64 (kids:Nat)) w1 hB1 rfl);(have d3:=HC.out 3 (.string n.text) w1 hB1 rfl);(have d4:=HC.out 4 (.int .i64 n.int) w1 hB1 rfl);(have d5:=HC.out 5 (.int .u64 n.bits) w1 hB1 rfl);clear hB1)|(go_at_call 71;(with_reducible refine(HX.out _ HB1.out).mono ?_);rintro e w2 ⟨rfl,hB2⟩;clear d0 d1 d2 d3 d4 d5;(have HB2:=hid (HB1.out.trans (hB2.mono HB1.out.size)));(have d0:=HC.out 0 (.int .i64 n.kind) w2 HB2.out rfl);(have d1:=HC.out 1 (.int .i64 n.a) w2 HB2.out rfl);(have d2:=HC.out 2 (.int .i64 (kids:Nat)) w2 HB2.out rfl);(have d3:=HC.out 3 (.string n.text) w2 HB2.out rfl);(have d4:=HC.out 4 (.int .i64 n.int) w2 HB2.out rfl);(have d5:=HC.out 5 (.int .u64 n.bits) w2 HB2.out rfl);clear hB2)|(go_at_call 72;(with_reducible refine(HY.out _ HB2.out).mono ?_);rintro e w3 ⟨rfl,hB3⟩;clear d0 d1 d2 d3 d4 d5;(have HB3:=hid (HB2.out.trans (hB3.mono HB2.out.size)));(have d0:=HC.out 0 (.int .i64 n.kind) w3 HB3.out rfl);(have d1:=HC.out 1 (.int .i64 n.a) w3 HB3.out rfl);(have d2:=HC.out 2 (.int .i64 (kids:Nat)) w3 HB3.out rfl);(have d3:=HC.out 3 (.string n.text) w3 HB3.out rfl);(have d4:=HC.out 4 (.int .i64 n.int) w3 HB3.out rfl);(have d5:=HC.out 5 (.int .u64 n.bits) w3 HB3.out rfl);clear hB3)|(go_at_call 73;(with_reducible refine(HZ.out _ HB3.out).mono ?_);rintro e w4 ⟨rfl,hB4⟩;clear d0 d1 d2 d3 d4 d5;(have HB4:=hid (HB3.out.trans (hB4.mono HB3.out.size)));clear hB4)|(go_at_call 74;(with_reducible refine(HV.out _ HB4.out).mono ?_);rintro e w5 ⟨rfl,hB5⟩;(have HB5:=hid (HB4.out.trans (hB5.mono HB4.out.size)));clear hB5))
  go_ret
  exact⟨rfl,HBW.out.trans (HB1.out.mono HBW.out.size)⟩
 cases b2
 case true=>
  obtain rfl:(63:Int)=q:=by simpa using HQ.out
  go_enter func39,ntmps39
  go_wp2_with (first|(go_at_call 70;(with_reducible refine(HW.out _ (z0z _ _)).mono ?_);rintro e w1 ⟨rfl,hB1⟩;(have HB1:=hid hB1);(have d0:=HC.out 0 (.int .i64 n.kind) w1 hB1 rfl);(have d1:=HC.out 1 (.int .i64 n.a) w1 hB1 rfl);(have d2:=HC.out 2 (.int .i64 (kids:Nat)) w1 hB1 rfl);(have d3:=HC.out 3 (.string n.text) w1 hB1 rfl);(have d4:=HC.out 4 (.int .i64 n.int) w1 hB1 rfl);(have d5:=HC.out 5 (.int .u64 n.bits) w1 hB1 rfl);clear hB1)|(go_at_call 71;(with_reducible refine(HX.out _ HB1.out).mono ?_);rintro e w2 ⟨rfl,hB2⟩;clear d0 d1 d2 d3 d4 d5;(have HB2:=hid (HB1.out.trans (hB2.mono HB1.out.size)));(have d0:=HC.out 0 (.int .i64 n.kind) w2 HB2.out rfl);(have d1:=HC.out 1 (.int .i64 n.a) w2 HB2.out rfl);(have d2:=HC.out 2 (.int .i64 (kids:Nat)) w2 HB2.out rfl);(have d3:=HC.out 3 (.string n.text) w2 HB2.out rfl);(have d4:=HC.out 4 (.int .i64 n.int) w2 HB2.out rfl);(have d5:=HC.out 5 (.int .u64 n.bits) w2 HB2.out rfl);clear hB2)|(go_at_call 72;(with_reducible refine(HY.out _ HB2.out).mono ?_);rintro e w3 ⟨rfl,hB3⟩;clear d0 d1 d2 d3 d4 d5;(have HB3:=hid (HB2.out.trans (hB3.mono HB2.out.size)));(have d0:=HC.out 0 (.int .i64 n.kind) w3 HB3.out rfl);(have d1:=HC.out 1 (.int .i64 n.a) w3 HB3.out rfl);(have d2:=HC.out 2 (.int .i64 (kids:Nat)) w3 HB3.out rfl);(have d3:=HC.out 3 (.string n.text) w3 HB3.out rfl);(have d4:=HC.out 4 (.int .i64 n.int) w3 HB3.out rfl);(have d5:=HC.out 5 (.int .u64 n.bits) w3 HB3.out rfl);clear hB3)|(go_at_call 73;(with_reducible refine(HZ.out _ HB3.out).mono ?_);rintro e w4 ⟨rfl,hB4⟩;clear d0 d1 d2 d3 d4 d5;(have HB4:=hid (HB3.out.trans (hB4.mono HB3.out.size)));clear hB4)|(go_at_call 74;(with_reducible refine(HV.out _ HB4.out).mono ?_);rintro e w5 ⟨rfl,hB5⟩;(have HB5:=hid (HB4.out.trans (hB5.mono HB4.out.size)));clear hB5))
  go_ret
  exact⟨rfl,HBW.out.trans (HB2.out.mono HBW.out.size)⟩
 cases b3
 case true=>
  obtain rfl:(81:Int)=q:=by simpa using HQ.out
  go_enter func39,ntmps39
  go_wp2_with (first|(go_at_call 70;(with_reducible refine(HW.out _ (z0z _ _)).mono ?_);rintro e w1 ⟨rfl,hB1⟩;(have HB1:=hid hB1);(have d0:=HC.out 0 (.int .i64 n.kind) w1 hB1 rfl);(have d1:=HC.out 1 (.int .i64 n.a) w1 hB1 rfl);(have d2:=HC.out 2 (.int .i64 (kids:Nat)) w1 hB1 rfl);(have d3:=HC.out 3 (.string n.text) w1 hB1 rfl);(have d4:=HC.out 4 (.int .i64 n.int) w1 hB1 rfl);(have d5:=HC.out 5 (.int .u64 n.bits) w1 hB1 rfl);clear hB1)|(go_at_call 71;(with_reducible refine(HX.out _ HB1.out).mono ?_);rintro e w2 ⟨rfl,hB2⟩;clear d0 d1 d2 d3 d4 d5;(have HB2:=hid (HB1.out.trans (hB2.mono HB1.out.size)));(have d0:=HC.out 0 (.int .i64 n.kind) w2 HB2.out rfl);(have d1:=HC.out 1 (.int .i64 n.a) w2 HB2.out rfl);(have d2:=HC.out 2 (.int .i64 (kids:Nat)) w2 HB2.out rfl);(have d3:=HC.out 3 (.string n.text) w2 HB2.out rfl);(have d4:=HC.out 4 (.int .i64 n.int) w2 HB2.out rfl);(have d5:=HC.out 5 (.int .u64 n.bits) w2 HB2.out rfl);clear hB2)|(go_at_call 72;(with_reducible refine(HY.out _ HB2.out).mono ?_);rintro e w3 ⟨rfl,hB3⟩;clear d0 d1 d2 d3 d4 d5;(have HB3:=hid (HB2.out.trans (hB3.mono HB2.out.size)));(have d0:=HC.out 0 (.int .i64 n.kind) w3 HB3.out rfl);(have d1:=HC.out 1 (.int .i64 n.a) w3 HB3.out rfl);(have d2:=HC.out 2 (.int .i64 (kids:Nat)) w3 HB3.out rfl);(have d3:=HC.out 3 (.string n.text) w3 HB3.out rfl);(have d4:=HC.out 4 (.int .i64 n.int) w3 HB3.out rfl);(have d5:=HC.out 5 (.int .u64 n.bits) w3 HB3.out rfl);clear hB3)|(go_at_call 73;(with_reducible refine(HZ.out _ HB3.out).mono ?_);rintro e w4 ⟨rfl,hB4⟩;clear d0 d1 d2 d3 d4 d5;(have HB4:=hid (HB3.out.trans (hB4.mono HB3.out.size)));clear hB4)|(go_at_call 74;(with_reducible refine(HV.out _ HB4.out).mono ?_);rintro e w5 ⟨rfl,hB5⟩;(have HB5:=hid (HB4.out.trans (hB5.mono HB4.out.size)));clear hB5))
  go_ret
  exact⟨rfl,HBW.out.trans (HB3.out.mono HBW.out.size)⟩
 cases b4
 case true=>
  obtain rfl:(82:Int)=q:=by simpa using HQ.out
  go_enter func39,ntmps39
  go_wp2_with (first|(go_at_call 70;(with_reducible refine(HW.out _ (z0z _ _)).mono ?_);rintro e w1 ⟨rfl,hB1⟩;(have HB1:=hid hB1);(have d0:=HC.out 0 (.int .i64 n.kind) w1 hB1 rfl);(have d1:=HC.out 1 (.int .i64 n.a) w1 hB1 rfl);(have d2:=HC.out 2 (.int .i64 (kids:Nat)) w1 hB1 rfl);(have d3:=HC.out 3 (.string n.text) w1 hB1 rfl);(have d4:=HC.out 4 (.int .i64 n.int) w1 hB1 rfl);(have d5:=HC.out 5 (.int .u64 n.bits) w1 hB1 rfl);clear hB1)|(go_at_call 71;(with_reducible refine(HX.out _ HB1.out).mono ?_);rintro e w2 ⟨rfl,hB2⟩;clear d0 d1 d2 d3 d4 d5;(have HB2:=hid (HB1.out.trans (hB2.mono HB1.out.size)));(have d0:=HC.out 0 (.int .i64 n.kind) w2 HB2.out rfl);(have d1:=HC.out 1 (.int .i64 n.a) w2 HB2.out rfl);(have d2:=HC.out 2 (.int .i64 (kids:Nat)) w2 HB2.out rfl);(have d3:=HC.out 3 (.string n.text) w2 HB2.out rfl);(have d4:=HC.out 4 (.int .i64 n.int) w2 HB2.out rfl);(have d5:=HC.out 5 (.int .u64 n.bits) w2 HB2.out rfl);clear hB2)|(go_at_call 72;(with_reducible refine(HY.out _ HB2.out).mono ?_);rintro e w3 ⟨rfl,hB3⟩;clear d0 d1 d2 d3 d4 d5;(have HB3:=hid (HB2.out.trans (hB3.mono HB2.out.size)));(have d0:=HC.out 0 (.int .i64 n.kind) w3 HB3.out rfl);(have d1:=HC.out 1 (.int .i64 n.a) w3 HB3.out rfl);(have d2:=HC.out 2 (.int .i64 (kids:Nat)) w3 HB3.out rfl);(have d3:=HC.out 3 (.string n.text) w3 HB3.out rfl);(have d4:=HC.out 4 (.int .i64 n.int) w3 HB3.out rfl);(have d5:=HC.out 5 (.int .u64 n.bits) w3 HB3.out rfl);clear hB3)|(go_at_call 73;(with_reducible refine(HZ.out _ HB3.out).mono ?_);rintro e w4 ⟨rfl,hB4⟩;clear d0 d1 d2 d3 d4 d5;(have HB4:=hid (HB3.out.trans (hB4.mono HB3.out.size)));clear hB4)|(go_at_call 74;(with_reducible refine(HV.out _ HB4.out).mono ?_);rintro e w5 ⟨rfl,hB5⟩;(have HB5:=hid (HB4.out.trans (hB5.mono HB4.out.size)));clear hB5))
  go_ret
  exact⟨rfl,HBW.out.trans (HB4.out.mono HBW.out.size)⟩
 cases b5
 case true=>
  obtain rfl:(85:Int)=q:=by simpa using HQ.out
  go_enter func39,ntmps39
  go_wp2_with (first|(go_at_call 70;(with_reducible refine(HW.out _ (z0z _ _)).mono ?_);rintro e w1 ⟨rfl,hB1⟩;(have HB1:=hid hB1);(have d0:=HC.out 0 (.int .i64 n.kind) w1 hB1 rfl);(have d1:=HC.out 1 (.int .i64 n.a) w1 hB1 rfl);(have d2:=HC.out 2 (.int .i64 (kids:Nat)) w1 hB1 rfl);(have d3:=HC.out 3 (.string n.text) w1 hB1 rfl);(have d4:=HC.out 4 (.int .i64 n.int) w1 hB1 rfl);(have d5:=HC.out 5 (.int .u64 n.bits) w1 hB1 rfl);clear hB1)|(go_at_call 71;(with_reducible refine(HX.out _ HB1.out).mono ?_);rintro e w2 ⟨rfl,hB2⟩;clear d0 d1 d2 d3 d4 d5;(have HB2:=hid (HB1.out.trans (hB2.mono HB1.out.size)));(have d0:=HC.out 0 (.int .i64 n.kind) w2 HB2.out rfl);(have d1:=HC.out 1 (.int .i64 n.a) w2 HB2.out rfl);(have d2:=HC.out 2 (.int .i64 (kids:Nat)) w2 HB2.out rfl);(have d3:=HC.out 3 (.string n.text) w2 HB2.out rfl);(have d4:=HC.out 4 (.int .i64 n.int) w2 HB2.out rfl);(have d5:=HC.out 5 (.int .u64 n.bits) w2 HB2.out rfl);clear hB2)|(go_at_call 72;(with_reducible refine(HY.out _ HB2.out).mono ?_);rintro e w3 ⟨rfl,hB3⟩;clear d0 d1 d2 d3 d4 d5;(have HB3:=hid (HB2.out.trans (hB3.mono HB2.out.size)));(have d0:=HC.out 0 (.int .i64 n.kind) w3 HB3.out rfl);(have d1:=HC.out 1 (.int .i64 n.a) w3 HB3.out rfl);(have d2:=HC.out 2 (.int .i64 (kids:Nat)) w3 HB3.out rfl);(have d3:=HC.out 3 (.string n.text) w3 HB3.out rfl);(have d4:=HC.out 4 (.int .i64 n.int) w3 HB3.out rfl);(have d5:=HC.out 5 (.int .u64 n.bits) w3 HB3.out rfl);clear hB3)|(go_at_call 73;(with_reducible refine(HZ.out _ HB3.out).mono ?_);rintro e w4 ⟨rfl,hB4⟩;clear d0 d1 d2 d3 d4 d5;(have HB4:=hid (HB3.out.trans (hB4.mono HB3.out.size)));clear hB4)|(go_at_call 74;(with_reducible refine(HV.out _ HB4.out).mono ?_);rintro e w5 ⟨rfl,hB5⟩;(have HB5:=hid (HB4.out.trans (hB5.mono HB4.out.size)));clear hB5))
  go_ret
  exact⟨rfl,HBW.out.trans (HB5.out.mono HBW.out.size)⟩
 case false=>
  obtain rfl:(0:Int)=q:=by simpa using HQ.out
  go_enter func39,ntmps39
  go_wp2_with (first|(go_at_call 70;(with_reducible refine(HW.out _ (z0z _ _)).mono ?_);rintro e w1 ⟨rfl,hB1⟩;(have HB1:=hid hB1);(have d0:=HC.out 0 (.int .i64 n.kind) w1 hB1 rfl);(have d1:=HC.out 1 (.int .i64 n.a) w1 hB1 rfl);(have d2:=HC.out 2 (.int .i64 (kids:Nat)) w1 hB1 rfl);(have d3:=HC.out 3 (.string n.text) w1 hB1 rfl);(have d4:=HC.out 4 (.int .i64 n.int) w1 hB1 rfl);(have d5:=HC.out 5 (.int .u64 n.bits) w1 hB1 rfl);clear hB1)|(go_at_call 71;(with_reducible refine(HX.out _ HB1.out).mono ?_);rintro e w2 ⟨rfl,hB2⟩;clear d0 d1 d2 d3 d4 d5;(have HB2:=hid (HB1.out.trans (hB2.mono HB1.out.size)));(have d0:=HC.out 0 (.int .i64 n.kind) w2 HB2.out rfl);(have d1:=HC.out 1 (.int .i64 n.a) w2 HB2.out rfl);(have d2:=HC.out 2 (.int .i64 (kids:Nat)) w2 HB2.out rfl);(have d3:=HC.out 3 (.string n.text) w2 HB2.out rfl);(have d4:=HC.out 4 (.int .i64 n.int) w2 HB2.out rfl);(have d5:=HC.out 5 (.int .u64 n.bits) w2 HB2.out rfl);clear hB2)|(go_at_call 72;(with_reducible refine(HY.out _ HB2.out).mono ?_);rintro e w3 ⟨rfl,hB3⟩;clear d0 d1 d2 d3 d4 d5;(have HB3:=hid (HB2.out.trans (hB3.mono HB2.out.size)));(have d0:=HC.out 0 (.int .i64 n.kind) w3 HB3.out rfl);(have d1:=HC.out 1 (.int .i64 n.a) w3 HB3.out rfl);(have d2:=HC.out 2 (.int .i64 (kids:Nat)) w3 HB3.out rfl);(have d3:=HC.out 3 (.string n.text) w3 HB3.out rfl);(have d4:=HC.out 4 (.int .i64 n.int) w3 HB3.out rfl);(have d5:=HC.out 5 (.int .u64 n.bits) w3 HB3.out rfl);clear hB3)|(go_at_call 73;(with_reducible refine(HZ.out _ HB3.out).mono ?_);rintro e w4 ⟨rfl,hB4⟩;clear d0 d1 d2 d3 d4 d5;(have HB4:=hid (HB3.out.trans (hB4.mono HB3.out.size)));clear hB4)|(go_at_call 74;(with_reducible refine(HV.out _ HB4.out).mono ?_);rintro e w5 ⟨rfl,hB5⟩;(have HB5:=hid (HB4.out.trans (hB5.mono HB4.out.size)));clear hB5))
  go_ret
  exact⟨rfl,HBW.out.trans (HB5.out.mono HBW.out.size)⟩
end
theorem Nl(P R:List (Nat × Nat × Nat)):DZ (P++R)=DZ P++DZ R:=by simp[DZ]
theorem Qm(P:List (Nat × Nat × Nat)):(DZ P).length=3*P.length:=by
 induction P with
 | nil=>rfl
 | cons p P ih=>simp[DZ] at ih ⊢;omega
section
variable {w:World} {pb:Nat} {L:List (Nd × Nat)} {E:List Nat} {mr:Int} {pm:List (ByteArray × Nat)} {lv ev:Value} {mp mt mc:Nat} {ov sv pv:Value} {bs:List Nat} {c:Sc} {B:Nat}
theorem Pr.top(h:Pr w pb L E mr pm lv ev mp mt mc ov sv pv bs c B){o:Nat × Nat × Nat}{r:List (Nat × Nat × Nat)}(ho:c.opn=o::r):∃g cap,ov=.slice (some ⟨g,0,none⟩) (r.length+1) cap/\r.length+1<=cap/\g<w.heap.size/\w.cell? ⟨g,r.length*3,none⟩=some (.int .i64 (o.1:Nat))/\w.cell? ⟨g,r.length*3+1,none⟩=some (.int .i64 (o.2.1:Nat))/\w.cell? ⟨g,r.length*3+2,none⟩=some (.int .i64 (o.2.2:Nat)):=by
 have hl:c.opn.length=r.length+1:=by rw[ho];rfl
 rcases h.opn.2 with⟨_,e0⟩|⟨g,cap,cur,rfl,h2,h3,h4,h5,h6,h7⟩
 ·omega
 ·rw[hl] at h4
  refine⟨g,cap,by rw[hl],h4,(Array.getElem?_eq_some_iff.1 h3).1,?_⟩
  have key:∀j,j<3->w.cell? ⟨g,r.length*3+j,none⟩=(DZ c.opn.reverse)[r.length*3+j]?:=λj hj=>by
   rw[cell_of_row _ g _ _ _ _ h3,<- h7,List.getElem?_take,if_pos (by omega),Array.getElem?_toList]
  have e:DZ c.opn.reverse=DZ r.reverse++[.int .i64 (o.1:Nat),.int .i64 (o.2.1:Nat),.int .i64 (o.2.2:Nat)]:=by
   rw[ho,List.reverse_cons,Nl]
   simp[DZ]
  have el:(DZ r.reverse).length=r.length*3:=by rw[Qm];simp;omega
  refine⟨(key 0 (by omega)).trans ?_,(key 1 (by omega)).trans ?_,(key 2 (by omega)).trans ?_⟩
  all_goals
   rw[e,List.getElem?_append_right (by omega),el]
   simp
def KX(E:List Nat)(c:Sc)(a:Nat):Bool:=match c.opn with
 | []=>false
 | o::_=>IV E o.1==a+1
theorem wT(h:Pr w pb L E mr pm lv ev mp mt mc ov sv pv bs c B)(a:Nat)(ha:a<=1000000)(hv:∀o ∈ c.opn,o.1<L.length) :
  Calls prog 41 #[.pointer (some ⟨pb,0,none⟩),.int .i64 (a:Nat)] w λe w'=>e=.returned (.bool (KX E c a))/\Below w.heap.size w w':=by
 have p5:=AU h.blk 5
 have p1:=AU h.blk 1
 cases ho:c.opn with
 | nil=>
  obtain⟨oo,oc,rfl⟩:=Et h.opn
  rw[ho] at p5
  change _=some (Value.slice oo 0 oc) at p5
  have hq:KX E c a=false:=by unfold KX;rw[ho]
  rw[hq]
  clear h hv hq ho p1
  go_enter func41,ntmps41
  go_upto_region 1 with fail
  have f5:=BW.cell p5
  have inst:Nonempty (BW w):=⟨⟨_,z0z _ _⟩⟩
  clear p5
  (refine Ji (by kernel_rfl) (by kernel_rfl) ?_);(repeat (go_big_quiet_step (fail)));(refine wpQuiet_nil ?_);intro _ hw';(obtain⟨pw,hw''⟩:=hw');subst hw'';go_wp2;go_ret
  exact⟨rfl,pw.h⟩
 | cons o r=>
  obtain⟨g,cap,rfl,hc,hg,d0,_,_⟩:=h.top ho
  change _=some (Value.slice (some ⟨g,0,none⟩) (r.length+1) cap) at p5
  obtain⟨ge,ce,rfl,hge,he⟩:=id h.ends
  change _=some (Value.slice (some ⟨ge,0,none⟩) E.length ce) at p1
  have hol:o.1<L.length:=hv o (by rw[ho];simp)
  have hlen:=h.ok.len
  obtain⟨p,hp⟩:∃p,L[o.1]? = some p:=⟨_,List.getElem?_eq_getElem hol⟩
  obtain⟨x,hx,hx1,hx2⟩:=h.ok.fin hp
  have hLn:L.length<=1000000:=by obtain⟨_,_,_,_,hl,_⟩:=h.row;exact hl
  have c1:=he _ _ hx
  have hrl:r.length<=1000000:=by have:=h.few;rw[ho] at this;simp at this;omega
  have hq:KX E c a=((x:Int)==(a:Int)+1):=by
   unfold KX IV
   rw[ho]
   simp only[hx,Option.getD_some]
   by_cases h:x=a+1
   ·subst h;simp
   ·have:¬ (x:Int)=(a:Int)+1:=by omega
    have h1:(x==a+1)=false:=by simpa using h
    rw[h1]
    simp[this]
  rw[hq]
  have o1:IntKind.i64.wrap (((r.length+1:Nat):Int)-1)=r.length:=by rw[IntKind.wrap_i64];omega
  have o2:(0:Int)<=r.length:=by omega
  have o3:(r.length:Int)<((r.length+1:Nat):Int):=by omega
  have o4:((r.length+1:Nat):Int)>0:=by omega
  have o5:(0:Int)<=o.1:=by omega
  have o6:(o.1:Int)<E.length:=by omega
  have o7:IntKind.i64.wrap ((a:Int)+1)=(a:Int)+1:=by rw[IntKind.wrap_i64];omega
  have o8:wrap64 ((r.length:Nat):Int)=r.length:=by unfold wrap64;omega
  have o9:wrap64 ((a:Int)+1)=(a:Int)+1:=by unfold wrap64;omega
  generalize o.1=ot at *
  generalize r.length=rl at *
  generalize E.length=el at *
  clear h hv hq ho he hp hx hx1 hx2 hLn hrl hol hlen hc
  go_enter func41,ntmps41
  go_upto_region 1 with fail
  have f5:=BW.cell p5
  have f1:=BW.cell p1
  have f2:=BW.cell d0
  have f3:=BW.cell c1
  have inst:Nonempty (BW w):=⟨⟨_,z0z _ _⟩⟩
  clear p5 p1 d0 c1
  (refine Ji (by kernel_rfl) (by kernel_rfl) ?_);(repeat (go_big_quiet_step (fail)));(refine wpQuiet_nil ?_);intro _ hw';(obtain⟨pw,hw''⟩:=hw');subst hw'';go_wp2;go_ret
  exact⟨rfl,pw.h⟩
end
end Go.Proofs.YtjplieobnknnpaaGreatDoor.W.Tr
