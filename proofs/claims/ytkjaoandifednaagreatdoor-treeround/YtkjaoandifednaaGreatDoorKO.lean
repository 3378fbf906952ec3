import Derived.Test.YtkjaoandifednaaGreatDoorKM
import Derived.Test.YtkjaoandifednaaGreatDoorKI
namespace Go.Proofs.YtkjaoandifednaaGreatDoor.W.Tr
set_option linter.unusedVariables false
set_option linter.unusedSimpArgs false
def tkOf (b:ByteArray):Tk:=(pieceP b.data.toList).t
def GT (b:ByteArray):Prop:=pieceP b.data.toList=okPc (tkOf b) b.data.toList.length∧(tkOf b).kind ≠ 0∧b.data.toList ≠ []
def gtB (b:ByteArray):Bool:=(pieceP b.data.toList).size == b.data.toList.length && (pieceP b.data.toList).code == 0 && (pieceP b.data.toList).t.kind != 0 && b.data.toList != []
theorem gt_of {b:ByteArray} (h:gtB b=true):GT b:=by
 unfold gtB at h
 simp only [Bool.and_eq_true,beq_iff_eq,bne_iff_ne,ne_eq] at h
 obtain ⟨⟨⟨h1,h2⟩,h3⟩,h4⟩:=h
 refine ⟨?_,h3,h4⟩
 unfold tkOf okPc
 cases hp:pieceP b.data.toList with
 | mk t n c=>
  rw [hp] at h1 h2
  simp only at h1 h2
  rw [← h1,h2]
theorem gt_mk {b:ByteArray} {t:Tk} (h:pieceP b.data.toList=okPc t b.data.toList.length) (hk:t.kind ≠ 0) (hne:b.data.toList ≠ []):GT b∧tkOf b=t:=by
 have e:tkOf b=t:=by unfold tkOf;rw [h];rfl
 exact ⟨⟨by rw [e];exact h,by rw [e];exact hk,hne⟩,e⟩
def Lx (ts:List ByteArray) (ys:List Yd):Prop:=ys.map (·.t)=ts.map tkOf∧∀ y ∈ ys,y.c=0
theorem T_tok (b:ByteArray) (hb:GT b) (Z:List UInt8) (hZ:Z.head? = some 10∨Z.head? = some 32) (a:Nat):T (b.data.toList ++ Z) a=⟨tkOf b,(a:Nat),0,0⟩ :: T Z (a + b.data.toList.length):=by
 obtain ⟨h1,h2,h3⟩:=hb
 have hL:Likes [] Z:=by
  rcases hZ with h | h
  ·exact .inr (.inl h)
  ·exact .inr (.inr (.inr h))
 have hp:=piece_like b.data.toList [] Z hL (tkOf b) h3 h2 (by rw [List.append_nil];exact h1)
 have hl:b.data.toList.length ≠ 0:=by
  intro e
  exact h3 (List.eq_nil_of_length_eq_zero e)
 rw [T_step (by simp [h3]),hp]
 show (if b.data.toList.length=0 then _ else if (0:Int) ≠ 0 then _ else if (tkOf b).kind ≠ 0 then _ else _)=_
 rw [if_neg hl,if_neg (by decide),if_pos h2]
 congr 2
 show List.drop b.data.toList.length (b.data.toList ++ Z)=Z
 simp
def blk (ts:List ByteArray):List UInt8:=ts.flatMap (fun s=>32 :: s.data.toList)
theorem T_toks:∀ (ts:List ByteArray),(∀ b ∈ ts,GT b)→∀ a:Nat,∃ ys e,T (blk ts ++ [10]) a=ys ++ [e]∧Lx ts ys∧∃ p:Int,e=⟨endTk,p,0,0⟩
 | [],_,a=>by
  refine ⟨[],⟨endTk,((a + 1:Nat):Int),0,0⟩,?_,⟨rfl,by simp⟩,_,rfl⟩
  show T [10] a=_
  rw [T_blank 10 [] a (by decide),T_nil]
  rfl
 | b :: ts,h,a=>by
  obtain ⟨ys,e,h1,h2,h3⟩:=T_toks ts (fun x hx=>h x (by simp [hx])) (a + 1 + b.data.toList.length)
  have er:blk (b :: ts) ++ [10]=32 :: (b.data.toList ++ (blk ts ++ [10])):=by simp [blk]
  have hZ:(blk ts ++ [10]).head? = some 10∨(blk ts ++ [10]).head? = some 32:=by
   cases ts with
   | nil=>exact .inl rfl
   | cons c ts=>exact .inr rfl
  refine ⟨⟨tkOf b,((a + 1:Nat):Int),0,0⟩ :: ys,e,?_,⟨by simp [h2.1],?_⟩,h3⟩
  ·rw [er,T_blank 32 _ a (by decide),T_tok b (h b (by simp)) _ hZ,h1]
   rfl
  ·intro y hy
   rcases List.mem_cons.1 hy with rfl | hy
   ·rfl
   ·exact h2.2 y hy
theorem join_out:∀ (ts:List ByteArray) (out:List UInt8),out ≠ []→joinB out ts=out ++ blk ts
 | [],out,_=>by simp [joinB,blk]
 | b :: ts,out,h=>by
  have e:addB out b=out ++ 32 :: b.data.toList:=by unfold addB;rw [if_neg h];simp
  show joinB (addB out b) ts=_
  rw [e,join_out ts _ (by simp)]
  simp [blk]
theorem T_text (ts:List ByteArray) (h:∀ b ∈ ts,GT b):∃ ys e,T (if joinB [] ts=[] then [] else joinB [] ts ++ [10]) 0=ys ++ [e]∧Lx ts ys∧∃ p:Int,e=⟨endTk,p,0,0⟩:=by
 cases ts with
 | nil=>exact ⟨[],_,rfl,⟨rfl,by simp⟩,_,rfl⟩
 | cons b ts=>
  have hb:=h b (by simp)
  have e1:joinB [] (b :: ts)=b.data.toList ++ blk ts:=by
   show joinB (addB [] b) ts=_
   have:addB [] b=b.data.toList:=by simp [addB]
   rw [this,join_out ts _ hb.2.2]
  rw [e1,if_neg (by simp [hb.2.2]),List.append_assoc]
  have hZ:(blk ts ++ [10]).head? = some 10∨(blk ts ++ [10]).head? = some 32:=by
   cases ts with
   | nil=>exact .inl rfl
   | cons c ts=>exact .inr rfl
  obtain ⟨ys,e,h1,h2,h3⟩:=T_toks ts (fun x hx=>h x (by simp [hx])) (0 + b.data.toList.length)
  refine ⟨⟨tkOf b,((0:Nat):Int),0,0⟩ :: ys,e,?_,⟨by simp [h2.1],?_⟩,h3⟩
  ·rw [T_tok b hb _ hZ,h1]
   rfl
  ·intro y hy
   rcases List.mem_cons.1 hy with rfl | hy
   ·rfl
   ·exact h2.2 y hy
def lits:List ByteArray:=[⟨#[102,110]⟩,⟨#[40]⟩,⟨#[41]⟩,⟨#[123]⟩,⟨#[125]⟩,⟨#[105,102]⟩,⟨#[101,108,115,101]⟩,⟨#[119,104,105,108,101]⟩,⟨#[58]⟩,⟨#[102,111,114]⟩,⟨#[105,110]⟩,⟨#[46,46]⟩,⟨#[98,114,101,97,107]⟩,⟨#[59]⟩,⟨#[99,111,110,116,105,110,117,101]⟩,⟨#[114,101,116,117,114,110]⟩,⟨#[108,101,116]⟩,⟨#[61]⟩,⟨#[91]⟩,⟨#[93]⟩,⟨#[111,117,116]⟩,⟨#[111,114]⟩,⟨#[97,110,100]⟩,⟨#[110,111,116]⟩,⟨#[116,114,117,101]⟩,⟨#[102,97,108,115,101]⟩,⟨#[110,105,108]⟩,⟨#[44]⟩,⟨#[61,61]⟩,⟨#[33,61]⟩,⟨#[60]⟩,⟨#[60,61]⟩,⟨#[62]⟩,⟨#[62,61]⟩,⟨#[124]⟩,⟨#[94]⟩,⟨#[38]⟩,⟨#[60,60]⟩,⟨#[62,62]⟩,⟨#[43]⟩,⟨#[45]⟩,⟨#[42]⟩,⟨#[47]⟩,⟨#[47,47]⟩,⟨#[37]⟩,⟨#[126]⟩]
def litB (b:ByteArray):Bool:=gtB b && ((tkOf b).kind == 2 || (tkOf b).kind == 3) && (tkOf b).text.data.toList == b.data.toList
theorem lits_ok:lits.all litB=true:=by kernel_rfl
theorem lit_gt {b:ByteArray} (h:b ∈ lits):GT b∧fixedT (tkOf b)=b:=by
 have:=List.all_eq_true.1 lits_ok b h
 unfold litB at this
 simp only [Bool.and_eq_true,Bool.or_eq_true,beq_iff_eq] at this
 obtain ⟨⟨h1,h2⟩,h3⟩:=this
 refine ⟨gt_of h1,?_⟩
 unfold fixedT
 rw [if_pos h2]
 obtain ⟨⟨d⟩⟩:=b
 cases hx:(tkOf ⟨⟨d⟩⟩).text with
 | mk e=>
  cases e with
  | mk e=>
   rw [hx] at h3
   simp only at h3
   rw [h3]
theorem piece_name (r:List UInt8) (h:(pieceP r).t.kind=1):pieceP r=okPc ⟨1,bytesOf (r.take (pieceP r).size),0,0⟩ (pieceP r).size:=by
 have key:∀ p:Pc,p.t.kind ≠ 1→∀ q:Pc,(orPc p q).t.kind=1→orPc p q=q:=by
  intro p hp q hq
  unfold orPc at *
  split
  ·rfl
  ·rename_i c
   rw [if_neg c] at hq
   exact absurd hq hp
 have k2:(doubleP r).t.kind ≠ 1:=by
  unfold doubleP
  split
  ·split
   ·show (5:Int) ≠ 1;decide
   ·show (0:Int) ≠ 1;decide
  ·show (0:Int) ≠ 1;decide
 have k3:(wholeP r).t.kind ≠ 1:=by
  unfold wholeP
  split
  ·show (0:Int) ≠ 1;decide
  ·split
   ·show (4:Int) ≠ 1;decide
   ·show (0:Int) ≠ 1;decide
 have k4:(quotedP r).t.kind ≠ 1:=by
  unfold quotedP
  split
  ·rcases qd_cases (quoteGo r.length (r.drop 1) 1 []) with g | ⟨_,g⟩
   ·rw [g]
    rcases quote_form r.length (r.drop 1) 1 [] with ⟨n,e⟩ | ⟨t,n,e⟩
    ·rw [e];show (0:Int) ≠ 1;decide
    ·rw [e];show (6:Int) ≠ 1;decide
   ·rw [g];show (0:Int) ≠ 1;decide
  ·show (0:Int) ≠ 1;decide
 have k5:(markP r).t.kind ≠ 1:=by
  unfold markP
  split
  ·show (3:Int) ≠ 1;decide
  ·show (0:Int) ≠ 1;decide
 have k6:(orPc (doubleP r) (orPc (wholeP r) (orPc (quotedP r) (markP r)))).t.kind ≠ 1:=by
  intro e
  have e1:=key _ k2 _ e
  rw [e1] at e
  have e2:=key _ k3 _ e
  rw [e2] at e
  have e3:=key _ k4 _ e
  rw [e3] at e
  exact k5 e
 have e0:pieceP r=orPc (W.nameP r) (orPc (doubleP r) (orPc (wholeP r) (orPc (quotedP r) (markP r)))):=key _ (show (0:Int) ≠ 1 by decide) _ h
 have e1:pieceP r=W.nameP r:=by
  rw [e0] at h ⊢
  unfold orPc at h ⊢
  split
  ·rename_i c
   rw [if_pos c] at h
   exact absurd h k6
  ·rfl
 rw [e1] at h ⊢
 unfold W.nameP at h ⊢
 split
 ·rename_i c;rw [if_pos c] at h;exact absurd h (by decide)
 ·rename_i c
  rw [if_neg c] at h
  split
  ·rename_i c2;rw [if_pos c2] at h;exact absurd h (by show ¬ (0:Int)=1;decide)
  ·rename_i c2
   rw [if_neg c2] at h
   show okPc (namedT _) _=okPc ⟨1,bytesOf _,0,0⟩ _
   have hn:namedT (r.take (runN nameB r))=⟨1,bytesOf (r.take (runN nameB r)),0,0⟩:=by
    have h':(namedT (r.take (runN nameB r))).kind=1:=h
    unfold namedT at h' ⊢
    split
    ·rename_i c3;rw [if_pos c3] at h';exact absurd h' (by show ¬ (5:Int)=1;decide)
    ·rename_i c3
     rw [if_neg c3] at h'
     split
     ·rename_i c4;rw [if_pos c4] at h';exact absurd h' (by show ¬ (5:Int)=1;decide)
     ·rename_i c4
      rw [if_neg c4] at h'
      split
      ·rename_i c5;rw [if_pos c5] at h';exact absurd h' (by show ¬ (2:Int)=1;decide)
      ·rfl
   rw [hn]
   rfl
theorem T_len1 (n:Nat):∀ (r:List UInt8) (a:Nat) (y:Yd),r.length≤n→y ∈ T r a→y.t.kind=1→y.t.text.data.toList.length≤r.length:=by
 induction n with
 | zero=>
  intro r a y hr hy hk
  have hr0:r=[]:=List.eq_nil_of_length_eq_zero (by omega)
  subst hr0
  rw [T_nil,List.mem_singleton] at hy
  rw [hy] at hk
  exact absurd hk (by show ¬ (7:Int)=1;decide)
 | succ n ih=>
  intro r a y hr hy hk
  cases r with
  | nil=>exact ih [] a y (by simp) hy hk
  | cons c r=>
   rw [T_step (by simp)] at hy
   have hdl:¬ (pieceP (c :: r)).size=0→((c :: r).drop (pieceP (c :: r)).size).length≤n:=fun h=>by rw [List.length_drop];simp at hr ⊢;omega
   have sub:¬ (pieceP (c :: r)).size=0→y ∈ T ((c :: r).drop (pieceP (c :: r)).size) (a + (pieceP (c :: r)).size)→y.t.text.data.toList.length≤(c :: r).length:=fun h hy=>by
    have:=ih _ _ y (hdl h) hy hk
    rw [List.length_drop] at this
    omega
   split at hy
   ·rw [List.mem_singleton] at hy;rw [hy] at hk;exact absurd hk (by show ¬ (0:Int)=1;decide)
   ·rename_i c1
    split at hy
    ·rw [List.mem_singleton] at hy;rw [hy] at hk;exact absurd hk (by show ¬ (0:Int)=1;decide)
    ·split at hy
     ·rcases List.mem_cons.1 hy with rfl | hy
      ·have:=piece_name (c :: r) hk
       rw [this]
       show (bytesOf (List.take _ (c :: r))).data.toList.length≤_
       show (List.take _ (c :: r)).toArray.toList.length≤_
       rw [List.toList_toArray,List.length_take]
       omega
      ·exact sub c1 hy
     ·exact sub c1 hy
theorem name_gt {t:ByteArray} (h:nameP t=true) (hs:t.size≤6000):GT t∧tkOf t=⟨1,t,0,0⟩:=by
 have hk:=k_name h
 have hne:t.data.toList ≠ []:=by
  intro e
  rw [isK_eq,e] at hk
  cases hk
 have hl:t.data.toList.length=t.size:=by simp
 unfold nameP at h
 rw [src_T _ (by omega)] at h
 split at h
 ·rename_i y z e
  simp only [Bool.and_eq_true,decide_eq_true_eq,beq_iff_eq] at h
  obtain ⟨⟨⟨h1,h2⟩,h3⟩,h4⟩:=h
  rw [ByteArray.toList_eq,ByteArray.toList_eq] at h4
  rw [T_step hne] at e
  split at e
  ·cases e
  ·rename_i c1
   split at e
   ·cases e
   ·rename_i c2
    split at e
    ·injection e with e1 e2
     have hy:(pieceP t.data.toList).t=y.t:=by rw [← e1]
     have hpn:=piece_name t.data.toList (by rw [hy];exact h3)
     have htx:(pieceP t.data.toList).t.text.data.toList=t.data.toList:=by rw [hy];exact h4
     have hlen:(pieceP t.data.toList).size=t.data.toList.length:=by
      have hle:=piece_le t.data.toList
      have e3:(t.data.toList.take (pieceP t.data.toList).size)=t.data.toList:=by
       have e4:(pieceP t.data.toList).t.text=bytesOf (t.data.toList.take (pieceP t.data.toList).size):=by rw [hpn];rfl
       rw [e4] at htx
       simpa [bytesOf] using htx
      have:=congrArg List.length e3
      rw [List.length_take] at this
      omega
     rw [hlen,List.take_length] at hpn
     have eb:bytesOf t.data.toList=t:=rfl
     rw [eb] at hpn
     exact gt_mk hpn (show (1:Int) ≠ 0 by decide) hne
    ·exfalso
     have hm:y ∈ T (t.data.toList.drop (pieceP t.data.toList).size) (0 + (pieceP t.data.toList).size):=by rw [e];simp
     have:=T_len1 _ _ _ y (Nat.le_refl _) hm h3
     rw [h4,List.length_drop] at this
     have:t.data.toList.length ≠ 0:=fun e=>hne (List.eq_nil_of_length_eq_zero e)
     omega
 ·cases h
theorem int_gt (i:Int) (h0:0≤i) (h1:i≤9223372036854775807):GT ⟨(intT i).toArray⟩∧tkOf ⟨(intT i).toArray⟩=⟨4,⟨#[]⟩,i,0⟩:=by
 have e:intT i=decL i.natAbs:=if_neg (by omega)
 refine gt_mk ?_ (show (4:Int) ≠ 0 by decide) ?_
 ·show pieceP (intT i)=okPc _ (intT i).length
  rw [e,piece_digits _ (dec_digs _) (dec_ne _),dec_read _ (by omega),if_pos rfl]
  congr 2
  omega
 ·show intT i ≠ []
  rw [e]
  exact dec_ne _
theorem flt_gt (b:Int) (h0:0≤b) (h:b≤9218868437227405312∨b=9221120237041090560):GT (flP b)∧tkOf (flP b)=⟨5,⟨#[]⟩,0,b⟩:=by
 rcases h with h | rfl
 ·have e:fltT b=posT b.toNat:=by
   unfold fltT
   rw [if_neg ?_,if_neg (by omega)]
   unfold nanB
   intro hn
   simp at hn
   omega
  have hp:=pos_piece b.toNat (by omega)
  refine gt_mk ?_ (show (5:Int) ≠ 0 by decide) ?_
  ·show pieceP (fltT b)=okPc _ (fltT b).length
   rw [e,hp]
   congr 2
   omega
  ·show fltT b ≠ []
   intro e2
   rw [e] at e2
   rw [e2] at hp
   have:=congrArg Pc.t hp
   have h2:(pieceP []).t.kind=0:=by kernel_rfl
   rw [this] at h2
   exact absurd h2 (by show ¬ (5:Int)=0;decide)
 ·have e:fltT 9221120237041090560=nanT:=by kernel_rfl
  refine gt_mk ?_ (show (5:Int) ≠ 0 by decide) ?_
  ·show pieceP (fltT 9221120237041090560)=okPc _ (fltT 9221120237041090560).length
   rw [e]
   exact piece_nan
  ·show fltT 9221120237041090560 ≠ []
   rw [e]
   decide
def Rn {α:Type} (F:Nat→Pm α) (s:Cs) (r:Rs α):Prop:=∃ n,∀ m,n≤m→F m s=some r
def Og {α:Type} (F:Nat→Pm α) (s:Cs) (Q:α→Cs→Prop):Prop:=(∃ a s',Rn F s (.ok (a,s'))∧Q a s')∨∃ p,Rn F s (.error (71,p))
section
variable {α β:Type} {F:Nat→Pm α} {s:Cs} {y:Yd} {L:List Yd}
theorem Og.bind {G:α→Nat→Pm β} {R:α→Cs→Prop} {Q:β→Cs→Prop} (h:Og F s R) (g:∀ a s',R a s'→Og (G a) s' Q):Og (fun m=>(F m).bind fun a=>G a m) s Q:=by
 rcases h with ⟨a,s',⟨n,hn⟩,hR⟩ | ⟨p,n,hn⟩
 ·rcases g a s' hR with ⟨b,s2,⟨k,hk⟩,hQ⟩ | ⟨p,k,hk⟩
  ·refine .inl ⟨b,s2,⟨max n k,fun m hm=>?_⟩,hQ⟩
   show ((F m).bind fun a=>G a m) s=_
   rw [bind_ok (hn m (by omega))]
   exact hk m (by omega)
  ·refine .inr ⟨p,max n k,fun m hm=>?_⟩
   show ((F m).bind fun a=>G a m) s=_
   rw [bind_ok (hn m (by omega))]
   exact hk m (by omega)
 ·refine .inr ⟨p,n,fun m hm=>?_⟩
  show ((F m).bind fun a=>G a m) s=_
  unfold Pm.bind
  rw [hn m hm]
theorem Og.mono {Q R:α→Cs→Prop} (h:Og F s Q) (g:∀ a s',Q a s'→R a s'):Og F s R:=by
 rcases h with ⟨a,s',h1,h2⟩ | h
 ·exact .inl ⟨a,s',h1,g a s' h2⟩
 ·exact .inr h
theorem Og.pure {a:α} {Q:α→Cs→Prop} (h:Q a s):Og (fun _=>Pm.pure a) s Q:=.inl ⟨a,s,⟨0,fun _ _=>rfl⟩,h⟩
theorem look_cases (hr:s.r=y :: L) (hc:y.c=0):Tr.look s=.ok y∨Tr.look s=.error (71,y.a):=by
 unfold Tr.look
 rw [hr]
 simp only
 rw [if_pos hc]
 split
 ·exact .inr rfl
 ·exact .inl rfl
theorem Og.look {Q:Yd→Cs→Prop} (hr:s.r=y :: L) (hc:y.c=0) (h:Q y s):Og (fun _=>lookM) s Q:=by
 rcases look_cases hr hc with e | e
 ·exact .inl ⟨y,s,⟨0,fun _ _=>by show lookM s=_;unfold lookM;rw [e]⟩,h⟩
 ·exact .inr ⟨y.a,0,fun _ _=>by show lookM s=_;unfold lookM;rw [e]⟩
theorem Og.take {Q:Yd→Cs→Prop} (hr:s.r=y :: L) (hc:y.c=0) (h:Q y (behind y s)):Og (fun _=>takeM) s Q:=by
 rcases look_cases hr hc with e | e
 ·exact .inl ⟨y,behind y s,⟨0,fun _ _=>by show takeM s=_;unfold takeM;rw [e]⟩,h⟩
 ·exact .inr ⟨y.a,0,fun _ _=>by show takeM s=_;unfold takeM;rw [e]⟩
theorem Og.pos {c:Prop} [Decidable c] {G:Nat→Pm α} {Q:α→Cs→Prop} (hc:c) (h:Og F s Q):Og (fun m=>if c then F m else G m) s Q:=by
 have e:(fun m=>if c then F m else G m)=F:=by funext m;rw [if_pos hc]
 rw [e];exact h
theorem Og.neg {c:Prop} [Decidable c] {G:Nat→Pm α} {Q:α→Cs→Prop} (hc:¬ c) (h:Og G s Q):Og (fun m=>if c then F m else G m) s Q:=by
 have e:(fun m=>if c then F m else G m)=G:=by funext m;rw [if_neg hc]
 rw [e];exact h
theorem Og.want {t:ByteArray} {Q:Yd→Cs→Prop} (hr:s.r=y :: L) (hc:y.c=0) (ht:fixedT y.t=t) (h:Q y (behind y s)):Og (fun _=>wantM t) s Q:=
 Og.bind (F:=fun _=>lookM) (G:=fun y _=>if fixedT y.t=t then takeM else failM (70,y.a)) (R:=fun a s'=>a=y∧s'=s) (Og.look hr hc ⟨rfl,rfl⟩) fun a s' ⟨e1,e2⟩=>by
  subst e1 e2
  exact Og.pos (F:=fun _=>takeM) (G:=fun _=>failM (70,a.a)) ht (Og.take hr hc h)
theorem Og.name {Q:Yd→Cs→Prop} (hr:s.r=y :: L) (hc:y.c=0) (ht:y.t.kind=1) (h:Q y (behind y s)):Og (fun _=>nameM) s Q:=
 Og.bind (F:=fun _=>lookM) (G:=fun y _=>if y.t.kind=1 then takeM else failM (70,y.a)) (R:=fun a s'=>a=y∧s'=s) (Og.look hr hc ⟨rfl,rfl⟩) fun a s' ⟨e1,e2⟩=>by
  subst e1 e2
  exact Og.pos (F:=fun _=>takeM) (G:=fun _=>failM (70,a.a)) ht (Og.take hr hc h)
theorem Og.P {nt:Nt} {Q:Fo→Cs→Prop} (h:Og (fun m=>Tr.P (m + 1) nt) s Q):Og (fun m=>Tr.P m nt) s Q:=by
 have key:∀ {r:Rs Fo},Rn (fun m=>Tr.P (m + 1) nt) s r→Rn (fun m=>Tr.P m nt) s r:=by
  rintro r ⟨n,hn⟩
  refine ⟨n + 1,fun m hm=>?_⟩
  have:=hn (m - 1) (by omega)
  simp only at this
  rw [show m - 1 + 1=m by omega] at this
  exact this
 rcases h with ⟨a,s',h1,h2⟩ | ⟨p,h⟩
 ·exact .inl ⟨a,s',key h1,h2⟩
 ·exact .inr ⟨p,key h⟩
theorem Og.lookB {G:Yd→Nat→Pm β} {Q:β→Cs→Prop} (hr:s.r=y :: L) (hc:y.c=0) (h:Og (G y) s Q):Og (fun m=>lookM.bind fun a=>G a m) s Q:=
 Og.bind (F:=fun _=>lookM) (R:=fun a s'=>a=y∧s'=s) (Og.look hr hc ⟨rfl,rfl⟩) fun a s' ⟨e1,e2⟩=>by subst e1 e2;exact h
theorem Og.takeB {G:Yd→Nat→Pm β} {Q:β→Cs→Prop} (hr:s.r=y :: L) (hc:y.c=0) (h:Og (G y) (behind y s) Q):Og (fun m=>takeM.bind fun a=>G a m) s Q:=
 Og.bind (F:=fun _=>takeM) (R:=fun a s'=>a=y∧s'=behind y s) (Og.take hr hc ⟨rfl,rfl⟩) fun a s' ⟨e1,e2⟩=>by subst e1 e2;exact h
theorem Og.wantB {t:ByteArray} {G:Yd→Nat→Pm β} {Q:β→Cs→Prop} (hr:s.r=y :: L) (hc:y.c=0) (ht:fixedT y.t=t) (h:Og (G y) (behind y s) Q):Og (fun m=>(wantM t).bind fun a=>G a m) s Q:=
 Og.bind (F:=fun _=>wantM t) (R:=fun a s'=>a=y∧s'=behind y s) (Og.want hr hc ht ⟨rfl,rfl⟩) fun a s' ⟨e1,e2⟩=>by subst e1 e2;exact h
theorem Og.nameB {G:Yd→Nat→Pm β} {Q:β→Cs→Prop} (hr:s.r=y :: L) (hc:y.c=0) (ht:y.t.kind=1) (h:Og (G y) (behind y s) Q):Og (fun m=>nameM.bind fun a=>G a m) s Q:=
 Og.bind (F:=fun _=>nameM) (R:=fun a s'=>a=y∧s'=behind y s) (Og.name hr hc ht ⟨rfl,rfl⟩) fun a s' ⟨e1,e2⟩=>by subst e1 e2;exact h
end
def bareN (n:Nd):Nd:=⟨n.kind,0,n.text,n.int,n.bits⟩
def bareF:Fo→Fo
 | .nil=>.nil
 | .cons n ks r=>.cons (bareN n) (bareF ks) (bareF r)
theorem bare_app:∀ f g:Fo,bareF (f.app g)=(bareF f).app (bareF g)
 | .nil,g=>rfl
 | .cons n ks r,g=>by simp [bareF,Fo.app,bare_app r g]
theorem bare_len:∀ f:Fo,(bareF f).len=f.len
 | .nil=>rfl
 | .cons n ks r=>by simp [bareF,Fo.len,bare_len r]
theorem Lx.app {a b:List ByteArray} {ys:List Yd} (h:Lx (a ++ b) ys):∃ y1 y2,ys=y1 ++ y2∧Lx a y1∧Lx b y2:=by
 obtain ⟨h1,h2⟩:=h
 rw [List.map_append] at h1
 obtain ⟨y1,y2,e,e1,e2⟩:=List.map_eq_append_iff.1 h1
 exact ⟨y1,y2,e,⟨e1,fun y hy=>h2 y (by rw [e];simp [hy])⟩,⟨e2,fun y hy=>h2 y (by rw [e];simp [hy])⟩⟩
theorem Lx.cons {s:ByteArray} {b:List ByteArray} {ys:List Yd} (h:Lx (s :: b) ys):∃ y y2,ys=y :: y2∧y.t=tkOf s∧y.c=0∧Lx b y2:=by
 obtain ⟨h1,h2⟩:=h
 cases ys with
 | nil=>cases h1
 | cons y y2=>
  rw [List.map_cons,List.map_cons] at h1
  injection h1 with e1 e2
  exact ⟨y,y2,rfl,e1,h2 y (by simp),⟨e2,fun z hz=>h2 z (by simp [hz])⟩⟩
theorem Lx.nil {ys:List Yd} (h:Lx [] ys):ys=[]:=by
 have:=congrArg List.length h.1
 simpa using this
def tx (x:Fo):List ByteArray:=(tkl (tkN flP) x).flatten
theorem tkl_app (tk:Nd × Nat→List ByteArray):∀ f g:Fo,tkl tk (f.app g)=tkl tk f ++ tkl tk g
 | .nil,g=>rfl
 | .cons n ks r,g=>by simp [tkl,Fo.app,tkl_app tk r g]
theorem tx_one (n:Nd) (ks:Fo):tx (.cons n ks .nil)=fillT (tkN flP (n,ks.len)) (tkl (tkN flP) ks):=by simp [tx,tkl]
theorem tx_cons (n:Nd) (ks r:Fo):tx (.cons n ks r)=tx (.cons n ks .nil) ++ tx r:=by simp [tx,tkl]
theorem tkl_one {x:Fo} (h:x.len=1):tkl (tkN flP) x=[tx x]:=by
 cases x with
 | nil=>cases h
 | cons n ks r=>
  cases r with
  | nil=>simp [tx,tkl]
  | cons m k q=>simp [Fo.len] at h
theorem be_open {y:Yd} {L:List Yd} {o:Int} (h:fixedT y.t=k_lpar∨fixedT y.t=k_lbr∨fixedT y.t=k_lcu):behind y ⟨y :: L,o⟩=⟨L,o + 1⟩:=by
 have h1:opensT y.t=true:=by unfold opensT;rcases h with h | h | h <;> rw [h] <;> decide
 have h2:closesT y.t=false:=by unfold closesT;rcases h with h | h | h <;> rw [h] <;> decide
 simp [behind,h1,h2]
theorem be_shut {y:Yd} {L:List Yd} {o:Int} (h:fixedT y.t=k_rpar∨fixedT y.t=k_rbr∨fixedT y.t=k_rcu):behind y ⟨y :: L,o⟩=⟨L,o - 1⟩:=by
 have h1:opensT y.t=false:=by unfold opensT;rcases h with h | h | h <;> rw [h] <;> decide
 have h2:closesT y.t=true:=by unfold closesT;rcases h with h | h | h <;> rw [h] <;> decide
 simp [behind,h1,h2]
def noBr (k:ByteArray):Bool:=!(decide (k=k_lpar) || decide (k=k_lbr) || decide (k=k_lcu) || decide (k=k_rpar) || decide (k=k_rbr) || decide (k=k_rcu))
theorem be_no {y:Yd} {L:List Yd} {o:Int} (h:noBr (fixedT y.t)=true):behind y ⟨y :: L,o⟩=⟨L,o⟩:=by
 unfold noBr at h
 simp only [Bool.not_eq_true',Bool.or_eq_false_iff] at h
 obtain ⟨⟨⟨⟨⟨h1,h2⟩,h3⟩,h4⟩,h5⟩,h6⟩:=h
 have a1:opensT y.t=false:=by unfold opensT;simp only [h1,h2,h3];rfl
 have a2:closesT y.t=false:=by unfold closesT;simp only [h4,h5,h6];rfl
 simp [behind,a1,a2]
def litC (b:ByteArray):Bool:=(tkOf b).int == 0 && (tkOf b).bits == 0 && ((tkOf b).kind == 2 || (tkOf b).kind == 3)
theorem lits_c:lits.all litC=true:=by kernel_rfl
theorem lit_tk {b:ByteArray} (h:b ∈ lits):fixedT (tkOf b)=b∧(tkOf b).text=b∧(tkOf b).int=0∧(tkOf b).bits=0∧((tkOf b).kind=2∨(tkOf b).kind=3):=by
 have h1:=(lit_gt h).2
 have:=List.all_eq_true.1 lits_c b h
 unfold litC at this
 simp only [Bool.and_eq_true,Bool.or_eq_true,beq_iff_eq] at this
 refine ⟨h1,?_,this.1.1,this.1.2,this.2⟩
 unfold fixedT at h1
 rw [if_pos this.2] at h1
 exact h1
theorem op_lits {t:ByteArray} (h:comp t=true∨¬ tight t=0):t ∈ lits:=by
 rcases h with h | h
 ·unfold comp at h
  simp only [Bool.or_eq_true,decide_eq_true_eq] at h
  rcases h with ((((h | h) | h) | h) | h) | h <;> subst h <;> simp [lits]
 ·unfold tight at h
  split at h
  ·rename_i e;subst e;simp [lits]
  ·split at h
   ·rename_i e;subst e;simp [lits]
   ·split at h
    ·rename_i e;subst e;simp [lits]
    ·split at h
     ·rename_i e;rcases e with e | e <;> subst e <;> simp [lits]
     ·split at h
      ·rename_i e;rcases e with e | e <;> subst e <;> simp [lits]
      ·split at h
       ·rename_i e;rcases e with e | e | e | e <;> subst e <;> simp [lits]
       ·exact absurd rfl h
theorem tight_le (t:ByteArray):tight t≤6:=by
 unfold tight
 repeat' split
 all_goals omega
theorem ng_zero {n:Nd} (h:NG n) (h1:n.kind ≠ 26) (h2:n.kind ≠ 27):n.int=0∧n.bits=0:=by
 have:=h.2
 unfold numsP at this
 rw [if_neg h1,if_neg h2] at this
 exact of_decide_eq_true this
theorem ng_empty {n:Nd} (h:NG n) (h1:(ruleP n.kind).text=0):n.text=⟨#[]⟩:=by
 have:=h.1
 rw [h1] at this
 unfold textP at this
 simp only [Int.reduceEq,if_false] at this
 have e:=lst n.text []
 rw [this] at e
 exact of_decide_eq_true e
def Sxp (x:Fo):Prop:=∀ ys z L o Q,Lx (tx x) ys→z.c=0→fixedT z.t ≠ k_lpar→(∀ x',bareF x'=bareF x→Og (fun m=>P m (.poT x')) ⟨z :: L,o⟩ Q)→Og (fun m=>P m .po) ⟨ys ++ z :: L,o⟩ Q
def FO (s:ByteArray):Prop:=fixedT (tkOf s)=⟨#[]⟩∨fixedT (tkOf s)=k_lpar∨fixedT (tkOf s)=k_true∨fixedT (tkOf s)=k_false∨fixedT (tkOf s)=k_nil
def Ex (x:Fo):Prop:=Sxp x∧(∃ s ts,tx x=s :: ts∧FO s)∧(∀ s ∈ tx x,fixedT (tkOf s) ≠ k_col)∧x.len=1
def Re (x:Fo) (Z:List Yd) (o:Int):Fo→Cs→Prop:=fun x' s'=>bareF x'=bareF x∧s'=⟨Z,o⟩
theorem fo_ne {s:ByteArray} (h:FO s) {k:ByteArray} (h1:k ≠ ⟨#[]⟩) (h2:k ≠ k_lpar) (h3:k ≠ k_true) (h4:k ≠ k_false) (h5:k ≠ k_nil):fixedT (tkOf s) ≠ k:=by
 rcases h with h | h | h | h | h <;> rw [h]
 ·exact h1.symm
 ·exact h2.symm
 ·exact h3.symm
 ·exact h4.symm
 ·exact h5.symm
section
variable {x y:Fo} {ys:List Yd} {z:Yd} {L:List Yd} {o:Int}
theorem first (h:Ex x) (hl:Lx (tx x) ys):∃ y0 ys',ys=y0 :: ys'∧y0.c=0∧∃ s,y0.t=tkOf s∧FO s:=by
 obtain ⟨s,ts,e,hf⟩:=h.2.1
 rw [e] at hl
 obtain ⟨y0,ys',h1,h2,h3,_⟩:=hl.cons
 exact ⟨y0,ys',h1,h3,s,h2,hf⟩
theorem E_po (h:Ex x) (hl:Lx (tx x) ys) (hz:z.c=0) (n1:fixedT z.t ≠ k_lpar) (n2:fixedT z.t ≠ k_lbr):Og (fun m=>P m .po) ⟨ys ++ z :: L,o⟩ (Re x (z :: L) o):=by
 refine h.1 ys z L o _ hl hz n1 fun x' hx=>?_
 refine Og.P ?_
 simp only [P]
 refine Og.lookB (y:=z) (L:=L) rfl hz ?_
 exact Og.neg n2 (Og.pure ⟨hx,rfl⟩)
theorem E_un (h:Ex x) (hl:Lx (tx x) ys) (hz:z.c=0) (n1:fixedT z.t ≠ k_lpar) (n2:fixedT z.t ≠ k_lbr):Og (fun m=>P m .un) ⟨ys ++ z :: L,o⟩ (Re x (z :: L) o):=by
 have hp:=E_po (L:=L) (o:=o) h hl hz n1 n2
 obtain ⟨y0,ys',rfl,hc,s,ht,hf⟩:=first h hl
 refine Og.P ?_
 simp only [P]
 refine Og.lookB (y:=y0) (L:=ys' ++ z :: L) rfl hc ?_
 refine Og.neg ?_ hp
 rw [ht]
 rintro (e | e)
 ·exact fo_ne hf (by decide) (by decide) (by decide) (by decide) (by decide) e
 ·exact fo_ne hf (by decide) (by decide) (by decide) (by decide) (by decide) e
theorem E_bn (h:Ex x) (hl:Lx (tx x) ys) (hz:z.c=0) (n1:fixedT z.t ≠ k_lpar) (n2:fixedT z.t ≠ k_lbr):∀ j k:Nat,k + j=7→(∀ i,k≤i→i≤6→tight (fixedT z.t) ≠ i)→Og (fun m=>P m (.bn k)) ⟨ys ++ z :: L,o⟩ (Re x (z :: L) o)
 | 0,k,hk,_=>by
  refine Og.P ?_
  simp only [P]
  exact Og.pos (by omega) (E_un h hl hz n1 n2)
 | j + 1,k,hk,ht=>by
  refine Og.P ?_
  simp only [P]
  refine Og.neg (by omega) ?_
  refine Og.bind (E_bn h hl hz n1 n2 j (k + 1) (by omega) (fun i a b=>ht i (by omega) b)) ?_
  rintro x' s' ⟨hx,rfl⟩
  refine Og.P ?_
  simp only [P]
  refine Og.lookB (y:=z) (L:=L) rfl hz ?_
  exact Og.neg (ht k (Nat.le_refl _) (by omega)) (Og.pure ⟨hx,rfl⟩)
structure Stp (z:Yd):Prop where
 c:z.c=0
 n1:fixedT z.t ≠ k_lpar
 n2:fixedT z.t ≠ k_lbr
 tg:tight (fixedT z.t)=0
theorem E_b1 (h:Ex x) (hl:Lx (tx x) ys) (hz:Stp z):Og (fun m=>P m (.bn 1)) ⟨ys ++ z :: L,o⟩ (Re x (z :: L) o):=
 E_bn h hl hz.c hz.n1 hz.n2 6 1 rfl (fun i a _=>by rw [hz.tg];omega)
theorem E_cm (h:Ex x) (hl:Lx (tx x) ys) (hz:Stp z) (hc:comp (fixedT z.t)=false):Og (fun m=>P m .cm) ⟨ys ++ z :: L,o⟩ (Re x (z :: L) o):=by
 refine Og.P ?_
 simp only [P]
 refine Og.bind (E_b1 h hl hz) ?_
 rintro x' s' ⟨hx,rfl⟩
 refine Og.lookB (y:=z) (L:=L) rfl hz.c ?_
 exact Og.neg (by rw [hc];decide) (Og.pure ⟨hx,rfl⟩)
theorem E_ng (h:Ex x) (hl:Lx (tx x) ys) (hz:Stp z) (hc:comp (fixedT z.t)=false):Og (fun m=>P m .ng) ⟨ys ++ z :: L,o⟩ (Re x (z :: L) o):=by
 have hp:=E_cm (L:=L) (o:=o) h hl hz hc
 obtain ⟨y0,ys',rfl,hc0,s,ht,hf⟩:=first h hl
 refine Og.P ?_
 simp only [P]
 refine Og.lookB (y:=y0) (L:=ys' ++ z :: L) rfl hc0 ?_
 refine Og.neg ?_ hp
 rw [ht]
 exact fo_ne hf (by decide) (by decide) (by decide) (by decide) (by decide)
theorem E_cj (h:Ex x) (hl:Lx (tx x) ys) (hz:Stp z) (hc:comp (fixedT z.t)=false) (ha:fixedT z.t ≠ k_and):Og (fun m=>P m .cj) ⟨ys ++ z :: L,o⟩ (Re x (z :: L) o):=by
 refine Og.P ?_
 simp only [P]
 refine Og.bind (E_ng h hl hz hc) ?_
 rintro x' s' ⟨hx,rfl⟩
 refine Og.P ?_
 simp only [P]
 refine Og.lookB (y:=z) (L:=L) rfl hz.c ?_
 exact Og.neg ha (Og.pure ⟨hx,rfl⟩)
structure Stq (z:Yd):Prop where
 s:Stp z
 cp:comp (fixedT z.t)=false
 an:fixedT z.t ≠ k_and
 or:fixedT z.t ≠ k_or
theorem E_ex (h:Ex x) (hl:Lx (tx x) ys) (hz:Stq z):Og (fun m=>P m .ex) ⟨ys ++ z :: L,o⟩ (Re x (z :: L) o):=by
 refine Og.P ?_
 simp only [P]
 refine Og.bind (E_cj h hl hz.s hz.cp hz.an) ?_
 rintro x' s' ⟨hx,rfl⟩
 refine Og.P ?_
 simp only [P]
 refine Og.lookB (y:=z) (L:=L) rfl hz.s.c ?_
 exact Og.neg hz.or (Og.pure ⟨hx,rfl⟩)
theorem up_bn {s:Cs} {R:Fo→Prop} (hz:Stp z):∀ j k:Nat,k=j + 1→k≤7→Og (fun m=>P m (.bn k)) s (fun r s'=>R r∧s'=⟨z :: L,o⟩)→Og (fun m=>P m (.bn 1)) s (fun r s'=>R r∧s'=⟨z :: L,o⟩)
 | 0,k,hk,_,h=>by subst hk;exact h
 | j + 1,k,hk,h7,h=>by
  refine up_bn hz j (j + 1) rfl (by omega) ?_
  refine Og.P ?_
  simp only [P]
  refine Og.neg (by omega) ?_
  rw [hk] at h
  refine Og.bind h ?_
  rintro x' s' ⟨hx,rfl⟩
  refine Og.P ?_
  simp only [P]
  refine Og.lookB (y:=z) (L:=L) rfl hz.c ?_
  exact Og.neg (by rw [hz.tg];omega) (Og.pure ⟨hx,rfl⟩)
theorem up_cm {s:Cs} {R:Fo→Prop} (hz:Stq z) (h:Og (fun m=>P m (.bn 1)) s (fun r s'=>R r∧s'=⟨z :: L,o⟩)):Og (fun m=>P m .cm) s (fun r s'=>R r∧s'=⟨z :: L,o⟩):=by
 refine Og.P ?_
 simp only [P]
 refine Og.bind h ?_
 rintro x' s' ⟨hx,rfl⟩
 refine Og.lookB (y:=z) (L:=L) rfl hz.s.c ?_
 exact Og.neg (by rw [hz.cp];decide) (Og.pure ⟨hx,rfl⟩)
theorem up_ng {s:Cs} {R:Fo→Prop} {y0:Yd} {M:List Yd} (hr:s.r=y0 :: M) (hc:y0.c=0) (hn:fixedT y0.t ≠ k_not) (h:Og (fun m=>P m .cm) s (fun r s'=>R r∧s'=⟨z :: L,o⟩)):Og (fun m=>P m .ng) s (fun r s'=>R r∧s'=⟨z :: L,o⟩):=by
 refine Og.P ?_
 simp only [P]
 refine Og.lookB hr hc ?_
 exact Og.neg hn h
theorem up_cj {s:Cs} {R:Fo→Prop} (hz:Stq z) (h:Og (fun m=>P m .ng) s (fun r s'=>R r∧s'=⟨z :: L,o⟩)):Og (fun m=>P m .cj) s (fun r s'=>R r∧s'=⟨z :: L,o⟩):=by
 refine Og.P ?_
 simp only [P]
 refine Og.bind h ?_
 rintro x' s' ⟨hx,rfl⟩
 refine Og.P ?_
 simp only [P]
 refine Og.lookB (y:=z) (L:=L) rfl hz.s.c ?_
 exact Og.neg hz.an (Og.pure ⟨hx,rfl⟩)
theorem up_ex {s:Cs} {R:Fo→Prop} (hz:Stq z) (h:Og (fun m=>P m .cj) s (fun r s'=>R r∧s'=⟨z :: L,o⟩)):Og (fun m=>P m .ex) s (fun r s'=>R r∧s'=⟨z :: L,o⟩):=by
 refine Og.P ?_
 simp only [P]
 refine Og.bind h ?_
 rintro x' s' ⟨hx,rfl⟩
 refine Og.P ?_
 simp only [P]
 refine Og.lookB (y:=z) (L:=L) rfl hz.s.c ?_
 exact Og.neg hz.or (Og.pure ⟨hx,rfl⟩)
end
theorem stq_lit {z:Yd} {b:ByteArray} (hz:z.c=0) (ht:z.t=tkOf b) (hb:b ∈ lits) (h1:b ≠ k_lpar) (h2:b ≠ k_lbr) (h3:tight b=0) (h4:comp b=false) (h5:b ≠ k_and) (h6:b ≠ k_or):Stq z:=by
 have e:fixedT z.t=b:=by rw [ht];exact (lit_tk hb).1
 exact ⟨⟨hz,by rw [e];exact h1,by rw [e];exact h2,by rw [e];exact h3⟩,by rw [e];exact h4,by rw [e];exact h5,by rw [e];exact h6⟩
theorem kind_lpar:(tkOf ⟨#[40]⟩).kind=3:=by kernel_rfl
theorem par_po {x:Fo} {I:List Yd} {y1 y2 z:Yd} {L:List Yd} {o:Int} {Q:Fo→Cs→Prop} (c1:y1.c=0) (t1:y1.t=tkOf ⟨#[40]⟩) (c2:y2.c=0) (t2:y2.t=tkOf ⟨#[41]⟩) (hp:Og (fun m=>P m .ex) ⟨I ++ y2 :: z :: L,o + 1⟩ (Re x (y2 :: z :: L) (o + 1))) (K:∀ x',bareF x'=bareF x→Og (fun m=>P m (.poT x')) ⟨z :: L,o⟩ Q):Og (fun m=>P m .po) ⟨y1 :: (I ++ y2 :: z :: L),o⟩ Q:=by
 have f1:fixedT y1.t=k_lpar:=by rw [t1];exact (lit_tk (by simp [lits])).1
 have f2:fixedT y2.t=k_rpar:=by rw [t2];exact (lit_tk (by simp [lits])).1
 have k3:y1.t.kind=3:=by rw [t1];exact kind_lpar
 refine Og.P ?_
 simp only [P]
 refine Og.bind (R:=Re x (z :: L) o) ?_ (fun a s' h=>by obtain ⟨h,rfl⟩:=h;exact K a h)
 refine Og.P ?_
 simp only [P]
 refine Og.lookB (y:=y1) rfl c1 ?_
 refine Og.neg (by omega) (Og.neg (by omega) (Og.neg (by omega) (Og.neg (by omega) (Og.neg (by omega) ?_))))
 refine Og.wantB (y:=y1) rfl c1 f1 ?_
 rw [be_open (.inl f1)]
 refine Og.bind hp ?_
 rintro a s' ⟨ha,rfl⟩
 refine Og.wantB (y:=y2) rfl c2 f2 ?_
 rw [be_shut (.inl f2),Int.add_sub_cancel]
 exact Og.pure ⟨ha,rfl⟩
theorem fill5 {s:ByteArray} {X Y:List ByteArray} (hs:isK s=false):fillT [⟨#[40]⟩,tK,s,tK,⟨#[41]⟩] [X,Y]=⟨#[40]⟩ :: (X ++ s :: (Y ++ [⟨#[41]⟩])):=by
 rw [fill_w (isK_lit _ _),fill_k isK_tK,fill_w hs,fill_k isK_tK,fill_w (isK_lit _ _)]
 rfl
theorem fill4 {s:ByteArray} {X:List ByteArray} (hs:isK s=false):fillT [⟨#[40]⟩,s,tK,⟨#[41]⟩] [X]=⟨#[40]⟩ :: s :: (X ++ [⟨#[41]⟩]):=by
 rw [fill_w (isK_lit _ _),fill_w hs,fill_k isK_tK,fill_w (isK_lit _ _)]
 rfl
theorem fo_lpar:FO ⟨#[40]⟩:=.inr (.inl (lit_tk (b:=⟨#[40]⟩) (by simp [lits])).1)
theorem col_lit {b:ByteArray} (h:b ∈ lits) (hb:b ≠ k_col):fixedT (tkOf b) ≠ k_col:=by rw [(lit_tk h).1];exact hb
theorem stp_lit {z:Yd} {b:ByteArray} (hz:z.c=0) (ht:z.t=tkOf b) (hb:b ∈ lits) (h1:b ≠ k_lpar) (h2:b ≠ k_lbr) (h3:tight b=0):Stp z:=by
 have e:fixedT z.t=b:=by rw [ht];exact (lit_tk hb).1
 exact ⟨hz,by rw [e];exact h1,by rw [e];exact h2,by rw [e];exact h3⟩
theorem fx {z:Yd} {b:ByteArray} (ht:z.t=tkOf b) (hb:b ∈ lits):fixedT z.t=b:=by rw [ht];exact (lit_tk hb).1
theorem stq_rpar {z:Yd} (hz:z.c=0) (ht:z.t=tkOf ⟨#[41]⟩):Stq z:=stq_lit hz ht (by simp [lits]) (by decide) (by decide) (by decide) (by decide) (by decide) (by decide)
section
variable {x y:Fo} {n:Nd}
theorem tx5 {s:ByteArray} (hx:x.len=1) (hy:y.len=1) (hs:isK s=false) (hn:tkN flP (n,2)=[⟨#[40]⟩,tK,s,tK,⟨#[41]⟩]):tx (.cons n (x.app y) .nil)=⟨#[40]⟩ :: (tx x ++ s :: (tx y ++ [⟨#[41]⟩])):=by
 have hl:(x.app y).len=2:=by rw [len_app,hx,hy]
 rw [tx_one,hl,hn,tkl_app,tkl_one hx,tkl_one hy]
 exact fill5 hs
theorem tx4 {s:ByteArray} (hx:x.len=1) (hs:isK s=false) (hn:tkN flP (n,1)=[⟨#[40]⟩,s,tK,⟨#[41]⟩]):tx (.cons n x .nil)=⟨#[40]⟩ :: s :: (tx x ++ [⟨#[41]⟩]):=by
 rw [tx_one,hx,hn,tkl_one hx]
 exact fill4 hs
theorem par_two {s:ByteArray} (htx:tx (.cons n (x.app y) .nil)=⟨#[40]⟩ :: (tx x ++ s :: (tx y ++ [⟨#[41]⟩]))) (hx:Ex x) (hy:Ex y) (hs:s ∈ lits) (hsc:s ≠ k_col)
  (core:∀ xs yo ys y2 L o,Lx (tx x) xs→yo.c=0→yo.t=tkOf s→Lx (tx y) ys→y2.c=0→y2.t=tkOf ⟨#[41]⟩→Og (fun m=>P m .ex) ⟨xs ++ yo :: (ys ++ y2 :: L),o⟩ (Re (.cons n (x.app y) .nil) (y2 :: L) o)):Ex (.cons n (x.app y) .nil):=by
 refine ⟨?_,⟨_,_,htx,fo_lpar⟩,?_,rfl⟩
 ·intro ys z L o Q hl hz hn K
  rw [htx] at hl
  obtain ⟨y1,r1,rfl,t1,c1,hl⟩:=hl.cons
  obtain ⟨xs,r2,rfl,hxs,hl⟩:=hl.app
  obtain ⟨yo,r3,rfl,tq,co,hl⟩:=hl.cons
  obtain ⟨ys',r4,rfl,hys,hl⟩:=hl.app
  obtain ⟨y2,r5,rfl,t2,c2,hl⟩:=hl.cons
  obtain rfl:=hl.nil
  have hc:=core xs yo ys' y2 (z :: L) (o + 1) hxs co tq hys c2 t2
  have e:xs ++ yo :: (ys' ++ y2 :: z :: L)=(xs ++ yo :: ys') ++ y2 :: z :: L:=by simp
  rw [e] at hc
  have h:=par_po (I:=xs ++ yo :: ys') (o:=o) c1 t1 c2 t2 hc K
  have e2:y1 :: (xs ++ yo :: (ys' ++ [y2])) ++ z :: L=y1 :: ((xs ++ yo :: ys') ++ y2 :: z :: L):=by simp
  rw [e2]
  exact h
 ·intro b hb
  rw [htx] at hb
  simp only [List.mem_cons,List.mem_append,List.not_mem_nil,or_false] at hb
  rcases hb with rfl | hb | rfl | hb | rfl
  ·exact col_lit (by simp [lits]) (by decide)
  ·exact hx.2.2.1 b hb
  ·exact col_lit hs hsc
  ·exact hy.2.2.1 b hb
  ·exact col_lit (by simp [lits]) (by decide)
theorem par_one {s:ByteArray} (htx:tx (.cons n x .nil)=⟨#[40]⟩ :: s :: (tx x ++ [⟨#[41]⟩])) (hx:Ex x) (hs:s ∈ lits) (hsc:s ≠ k_col)
  (core:∀ xs yo y2 L o,Lx (tx x) xs→yo.c=0→yo.t=tkOf s→y2.c=0→y2.t=tkOf ⟨#[41]⟩→Og (fun m=>P m .ex) ⟨yo :: (xs ++ y2 :: L),o⟩ (Re (.cons n x .nil) (y2 :: L) o)):Ex (.cons n x .nil):=by
 refine ⟨?_,⟨_,_,htx,fo_lpar⟩,?_,rfl⟩
 ·intro ys z L o Q hl hz hn K
  rw [htx] at hl
  obtain ⟨y1,r1,rfl,t1,c1,hl⟩:=hl.cons
  obtain ⟨yo,r3,rfl,tq,co,hl⟩:=hl.cons
  obtain ⟨xs,r2,rfl,hxs,hl⟩:=hl.app
  obtain ⟨y2,r5,rfl,t2,c2,hl⟩:=hl.cons
  obtain rfl:=hl.nil
  have hc:=core xs yo y2 (z :: L) (o + 1) hxs co tq c2 t2
  have e:yo :: (xs ++ y2 :: z :: L)=(yo :: xs) ++ y2 :: z :: L:=by simp
  rw [e] at hc
  have h:=par_po (I:=yo :: xs) (o:=o) c1 t1 c2 t2 hc K
  have e2:y1 :: yo :: (xs ++ [y2]) ++ z :: L=y1 :: ((yo :: xs) ++ y2 :: z :: L):=by simp
  rw [e2]
  exact h
 ·intro b hb
  rw [htx] at hb
  simp only [List.mem_cons,List.mem_append,List.not_mem_nil,or_false] at hb
  rcases hb with rfl | rfl | hb | rfl
  ·exact col_lit (by simp [lits]) (by decide)
  ·exact col_lit hs hsc
  ·exact hx.2.2.1 b hb
  ·exact col_lit (by simp [lits]) (by decide)
theorem bare_two {m:Nd} {x' y':Fo} (h:bareN m=bareN n) (hx:bareF x'=bareF x) (hy:bareF y'=bareF y):bareF (Fo.one m (x'.app y'))=bareF (.cons n (x.app y) .nil):=by
 simp only [Fo.one,bareF,bare_app,h,hx,hy]
theorem bare_one {m:Nd} {x':Fo} (h:bareN m=bareN n) (hx:bareF x'=bareF x):bareF (Fo.one m x')=bareF (.cons n x .nil):=by
 simp only [Fo.one,bareF,h,hx]
theorem bare_at {k:Int} {y:Yd} (hk:n.kind=k) (hn:NG n) (h0:(ruleP k).text=0) (h1:k ≠ 26) (h2:k ≠ 27):bareN (atN k y)=bareN n:=by
 subst hk
 have e1:=ng_zero hn h1 h2
 have e2:=ng_empty hn h0
 unfold bareN atN
 rw [e1.1,e1.2,e2]
theorem bare_of {k:Int} {y:Yd} (hk:n.kind=k) (hn:NG n) (ht:y.t.text=n.text) (hi:y.t.int=n.int) (hb:y.t.bits=n.bits):bareN (ofN k y)=bareN n:=by
 subst hk
 unfold bareN ofN
 rw [ht,hi,hb]
theorem ex_or (hk:n.kind=18) (hn:NG n) (hx:Ex x) (hy:Ex y):Ex (.cons n (x.app y) .nil):=by
 refine par_two (s:=k_or) (tx5 hx.2.2.2 hy.2.2.2 (isK_lit _ _) ?_) hx hy (by simp [lits]) (by decide) ?_
 ·obtain ⟨k,a,t,i,b⟩:=n
  simp only at hk
  subst hk
  rfl
 intro xs yo ys y2 L o hxs co tq hys c2 t2
 have so:=stp_lit co tq (by simp [lits]) (by decide) (by decide) (by decide)
 have fo:=fx tq (by simp [lits])
 have s2:=stq_rpar c2 t2
 refine Og.P ?_
 simp only [P]
 refine Og.bind (E_cj hx hxs so (by rw [fo];decide) (by rw [fo];decide)) ?_
 rintro x' s' ⟨hx',rfl⟩
 refine Og.P ?_
 simp only [P]
 refine Og.lookB (y:=yo) rfl co (Og.pos fo ?_)
 refine Og.takeB (y:=yo) rfl co ?_
 rw [be_no (by rw [fo];decide)]
 refine Og.bind (E_cj hy hys s2.s s2.cp s2.an) ?_
 rintro y' s' ⟨hy',rfl⟩
 refine Og.P ?_
 simp only [P]
 refine Og.lookB (y:=y2) rfl c2 (Og.neg s2.or (Og.pure ⟨?_,rfl⟩))
 exact bare_two (bare_at hk hn (by decide) (by decide) (by decide)) hx' hy'
theorem ex_and (hk:n.kind=19) (hn:NG n) (hx:Ex x) (hy:Ex y):Ex (.cons n (x.app y) .nil):=by
 refine par_two (s:=k_and) (tx5 hx.2.2.2 hy.2.2.2 (isK_lit _ _) ?_) hx hy (by simp [lits]) (by decide) ?_
 ·obtain ⟨k,a,t,i,b⟩:=n
  simp only at hk
  subst hk
  rfl
 intro xs yo ys y2 L o hxs co tq hys c2 t2
 have so:=stp_lit co tq (by simp [lits]) (by decide) (by decide) (by decide)
 have fo:=fx tq (by simp [lits])
 have s2:=stq_rpar c2 t2
 refine up_ex s2 ?_
 refine Og.P ?_
 simp only [P]
 refine Og.bind (E_ng hx hxs so (by rw [fo];decide)) ?_
 rintro x' s' ⟨hx',rfl⟩
 refine Og.P ?_
 simp only [P]
 refine Og.lookB (y:=yo) rfl co (Og.pos fo ?_)
 refine Og.takeB (y:=yo) rfl co ?_
 rw [be_no (by rw [fo];decide)]
 refine Og.bind (E_ng hy hys s2.s s2.cp) ?_
 rintro y' s' ⟨hy',rfl⟩
 refine Og.P ?_
 simp only [P]
 refine Og.lookB (y:=y2) rfl c2 (Og.neg s2.an (Og.pure ⟨?_,rfl⟩))
 exact bare_two (bare_at hk hn (by decide) (by decide) (by decide)) hx' hy'
theorem ex_not (hk:n.kind=20) (hn:NG n) (hx:Ex x):Ex (.cons n x .nil):=by
 refine par_one (s:=k_not) (tx4 hx.2.2.2 (isK_lit _ _) ?_) hx (by simp [lits]) (by decide) ?_
 ·obtain ⟨k,a,t,i,b⟩:=n
  simp only at hk
  subst hk
  rfl
 intro xs yo y2 L o hxs co tq c2 t2
 have fo:=fx tq (by simp [lits])
 have s2:=stq_rpar c2 t2
 refine up_ex s2 (up_cj s2 ?_)
 refine Og.P ?_
 simp only [P]
 refine Og.lookB (y:=yo) rfl co (Og.pos fo ?_)
 refine Og.takeB (y:=yo) rfl co ?_
 rw [be_no (by rw [fo];decide)]
 refine Og.bind (E_ng hx hxs s2.s s2.cp) ?_
 rintro x' s' ⟨hx',rfl⟩
 exact Og.pure ⟨bare_one (bare_at hk hn (by decide) (by decide) (by decide)) hx',rfl⟩
theorem ex_un (hk:n.kind=22) (hn:NG n) (hx:Ex x):Ex (.cons n x .nil):=by
 have ht:n.text=k_mns∨n.text=k_tld:=by
  have h:=hn.1
  rw [hk] at h
  have h:textP 4 n.text=true:=h
  unfold textP at h
  simp only [Int.reduceEq,if_false,if_true,Bool.or_eq_true] at h
  rcases h with h | h
  ·have e:=lst n.text [45]
   rw [h] at e
   exact .inl (of_decide_eq_true e)
  ·have e:=lst n.text [126]
   rw [h] at e
   exact .inr (of_decide_eq_true e)
 have hl:n.text ∈ lits:=by rcases ht with e | e <;> rw [e] <;> simp [lits]
 refine par_one (s:=n.text) (tx4 hx.2.2.2 (by rcases ht with e | e <;> rw [e] <;> exact isK_lit _ _) ?_) hx hl (by rcases ht with e | e <;> rw [e] <;> decide) ?_
 ·obtain ⟨k,a,t,i,b⟩:=n
  simp only at hk
  subst hk
  rfl
 intro xs yo y2 L o hxs co tq c2 t2
 have fo:=fx tq hl
 have s2:=stq_rpar c2 t2
 have tk:=lit_tk hl
 refine up_ex s2 (up_cj s2 (up_ng (y0:=yo) rfl co (by rw [fo];rcases ht with e | e <;> rw [e] <;> decide) (up_cm s2 (up_bn s2.s 6 7 rfl (by omega) ?_))))
 refine Og.P ?_
 simp only [P]
 refine Og.pos (by omega) ?_
 refine Og.P ?_
 simp only [P]
 refine Og.lookB (y:=yo) rfl co (Og.pos (by rw [fo];exact ht) ?_)
 refine Og.takeB (y:=yo) rfl co ?_
 rw [be_no (by rw [fo];rcases ht with e | e <;> rw [e] <;> decide)]
 refine Og.bind (E_un hx hxs s2.s.c s2.s.n1 s2.s.n2) ?_
 rintro x' s' ⟨hx',rfl⟩
 have hz:=ng_zero hn (by omega) (by omega)
 exact Og.pure ⟨bare_one (bare_of hk hn (by rw [tq];exact tk.2.1) (by rw [tq,hz.1];exact tk.2.2.1) (by rw [tq,hz.2];exact tk.2.2.2.1)) hx',rfl⟩
theorem comp_tight {t:ByteArray} (h:comp t=true):tight t=0:=by
 unfold comp at h
 simp only [Bool.or_eq_true,decide_eq_true_eq] at h
 rcases h with ((((h | h) | h) | h) | h) | h <;> subst h <;> decide
theorem op_no {t:ByteArray} (h:comp t=true∨¬ tight t=0):t ≠ k_lpar∧t ≠ k_lbr∧noBr t=true∧t ≠ k_col∧isK t=false:=by
 have hl:t ≠ k_lpar∧t ≠ k_lbr∧noBr t=true∧t ≠ k_col:=by
  have k:∀ u:ByteArray,comp u=false→tight u=0→t ≠ u:=by
   rintro u h1 h2 rfl
   rcases h with h | h
   ·rw [h1] at h;cases h
   ·exact h h2
  refine ⟨k _ (by decide) (by decide),k _ (by decide) (by decide),?_,k _ (by decide) (by decide)⟩
  have:=k k_lpar (by decide) (by decide)
  have:=k k_lbr (by decide) (by decide)
  have:=k k_lcu (by decide) (by decide)
  have:=k k_rpar (by decide) (by decide)
  have:=k k_rbr (by decide) (by decide)
  have:=k k_rcu (by decide) (by decide)
  unfold noBr
  simp [*]
 refine ⟨hl.1,hl.2.1,hl.2.2.1,hl.2.2.2,?_⟩
 cases e:isK t
 ·rfl
 ·exfalso
  have e':=lst t []
  rw [show (t.toList == [])=true from e] at e'
  have:t=⟨#[]⟩:=of_decide_eq_true e'
  subst this
  revert h
  decide
theorem ex_bin (hk:n.kind=21) (hn:NG n) (hx:Ex x) (hy:Ex y):Ex (.cons n (x.app y) .nil):=by
 have ht:comp n.text=true∨¬ tight n.text=0:=by
  have h:=hn.1
  rw [hk] at h
  have h:textP 3 n.text=true:=h
  unfold textP at h
  simp only [Int.reduceEq,if_false,if_true,Bool.or_eq_true,decide_eq_true_eq] at h
  exact h
 obtain ⟨o1,o2,o3,o4,o5⟩:=op_no ht
 have hl:=op_lits ht
 have tk:=lit_tk hl
 have hz:=ng_zero hn (by omega) (by omega)
 refine par_two (s:=n.text) (tx5 hx.2.2.2 hy.2.2.2 o5 ?_) hx hy hl o4 ?_
 ·obtain ⟨k,a,t,i,b⟩:=n
  simp only at hk
  subst hk
  rfl
 intro xs yo ys y2 L o hxs co tq hys c2 t2
 have fo:=fx tq hl
 have s2:=stq_rpar c2 t2
 obtain ⟨y0,xs',e0,c0,s0,t0,f0⟩:=first hx hxs
 have hb:∀ {x' y':Fo},bareF x'=bareF x→bareF y'=bareF y→bareF (Fo.one (ofN 21 yo) (x'.app y'))=bareF (.cons n (x.app y) .nil):=fun h1 h2=>bare_two (bare_of hk hn (by rw [tq];exact tk.2.1) (by rw [tq,hz.1];exact tk.2.2.1) (by rw [tq,hz.2];exact tk.2.2.2.1)) h1 h2
 refine up_ex s2 (up_cj s2 (up_ng (y0:=y0) (M:=xs' ++ yo :: (ys ++ y2 :: L)) (by rw [e0];rfl) c0 (by rw [t0];exact fo_ne f0 (by decide) (by decide) (by decide) (by decide) (by decide)) ?_))
 by_cases hc:comp n.text=true
 ·have so:Stp yo:=⟨co,by rw [fo];exact o1,by rw [fo];exact o2,by rw [fo];exact comp_tight hc⟩
  refine Og.P ?_
  simp only [P]
  refine Og.bind (E_b1 hx hxs so) ?_
  rintro x' s' ⟨hx',rfl⟩
  refine Og.lookB (y:=yo) rfl co (Og.pos (by rw [fo];exact hc) ?_)
  refine Og.takeB (y:=yo) rfl co ?_
  rw [be_no (by rw [fo];exact o3)]
  refine Og.bind (E_b1 hy hys s2.s) ?_
  rintro y' s' ⟨hy',rfl⟩
  exact Og.pure ⟨hb hx' hy',rfl⟩
 ·have hg:¬ tight n.text=0:=by rcases ht with h | h;exact absurd h hc;exact h
  have hle:=tight_le n.text
  obtain ⟨j,hj⟩:∃ j,tight n.text=j + 1:=⟨tight n.text - 1,by omega⟩
  refine up_cm s2 (up_bn s2.s j (j + 1) rfl (by omega) ?_)
  refine Og.P ?_
  simp only [P]
  refine Og.neg (by omega) ?_
  refine Og.bind (E_bn hx hxs co (by rw [fo];exact o1) (by rw [fo];exact o2) (5 - j) (j + 1 + 1) (by omega) (fun i a _=>by rw [fo];omega)) ?_
  rintro x' s' ⟨hx',rfl⟩
  refine Og.P ?_
  simp only [P]
  refine Og.lookB (y:=yo) rfl co (Og.pos (by rw [fo];exact hj) ?_)
  refine Og.takeB (y:=yo) rfl co ?_
  rw [be_no (by rw [fo];exact o3)]
  refine Og.bind (E_bn hy hys c2 s2.s.n1 s2.s.n2 (5 - j) (j + 1 + 1) (by omega) (fun i a _=>by rw [s2.s.tg];omega)) ?_
  rintro y' s' ⟨hy',rfl⟩
  refine Og.P ?_
  simp only [P]
  refine Og.lookB (y:=y2) rfl c2 (Og.neg (by rw [s2.s.tg];omega) (Og.pure ⟨hb hx' hy',rfl⟩))
theorem ex_index (hk:n.kind=24) (hn:NG n) (hx:Ex x) (hy:Ex y):Ex (.cons n (x.app y) .nil)∧tx (.cons n (x.app y) .nil)=tx x ++ ⟨#[91]⟩ :: (tx y ++ [⟨#[93]⟩]):=by
 have htx:tx (.cons n (x.app y) .nil)=tx x ++ ⟨#[91]⟩ :: (tx y ++ [⟨#[93]⟩]):=by
  have hl:(x.app y).len=2:=by rw [len_app,hx.2.2.2,hy.2.2.2]
  have hk2:tkN flP (n,2)=[tK,⟨#[91]⟩,tK,⟨#[93]⟩]:=by
   obtain ⟨k,a,t,i,b⟩:=n
   simp only at hk
   subst hk
   rfl
  rw [tx_one,hl,hk2,tkl_app,tkl_one hx.2.2.2,tkl_one hy.2.2.2]
  show fillT _ [tx x,tx y]=_
  rw [fill_k isK_tK,fill_w (isK_lit _ _),fill_k isK_tK,fill_w (isK_lit _ _)]
  rfl
 refine ⟨⟨?_,?_,?_,rfl⟩,htx⟩
 ·intro ys z L o Q hl hz hnp K
  rw [htx] at hl
  obtain ⟨xs,r2,rfl,hxs,hl⟩:=hl.app
  obtain ⟨yo,r3,rfl,tq,co,hl⟩:=hl.cons
  obtain ⟨ys',r4,rfl,hys,hl⟩:=hl.app
  obtain ⟨y2,r5,rfl,t2,c2,hl⟩:=hl.cons
  obtain rfl:=hl.nil
  have fo:=fx tq (by simp [lits])
  have f2:=fx t2 (by simp [lits])
  have e:xs ++ yo :: (ys' ++ [y2]) ++ z :: L=xs ++ yo :: (ys' ++ y2 :: z :: L):=by simp
  rw [e]
  refine hx.1 xs yo _ o Q hxs co (by rw [fo];decide) fun x' hx'=>?_
  refine Og.P ?_
  simp only [P]
  refine Og.lookB (y:=yo) rfl co (Og.pos fo ?_)
  refine Og.takeB (y:=yo) rfl co ?_
  rw [be_open (.inr (.inl fo))]
  refine Og.bind (E_ex hy hys (stq_lit c2 t2 (by simp [lits]) (by decide) (by decide) (by decide) (by decide) (by decide) (by decide))) ?_
  rintro y' s' ⟨hy',rfl⟩
  refine Og.wantB (y:=y2) rfl c2 f2 ?_
  rw [be_shut (.inr (.inl f2)),Int.add_sub_cancel]
  exact K _ (bare_two (bare_at hk hn (by decide) (by decide) (by decide)) hx' hy')
 ·obtain ⟨s,ts,e,hf⟩:=hx.2.1
  exact ⟨s,ts ++ ⟨#[91]⟩ :: (tx y ++ [⟨#[93]⟩]),by rw [htx,e];rfl,hf⟩
 ·intro b hb
  rw [htx] at hb
  simp only [List.mem_cons,List.mem_append,List.not_mem_nil,or_false] at hb
  rcases hb with hb | rfl | hb | rfl
  ·exact hx.2.2.1 b hb
  ·exact col_lit (by simp [lits]) (by decide)
  ·exact hy.2.2.1 b hb
  ·exact col_lit (by simp [lits]) (by decide)
end
theorem hex_back:∀ m:Fin 256,W.hexB (hexB (m.val / 16))=true∧W.hexB (hexB (m.val % 16))=true∧(16 * hexV (hexB (m.val / 16)) + hexV (hexB (m.val % 16))).toNat=m.val:=by decide +kernel
theorem esc_spelt (c:UInt8) (R:List UInt8):speltP (escB c ++ R)=(c.toNat,(escB c).length)∧(escB c).length ≠ 0∧∃ d q,escB c=d :: q∧d ≠ 34:=by
 unfold escB
 by_cases h1:c=34∨c=92
 ·rw [if_pos h1]
  rcases h1 with rfl | rfl
  ·exact ⟨rfl,by decide,_,_,rfl,by decide⟩
  ·exact ⟨rfl,by decide,_,_,rfl,by decide⟩
 ·rw [if_neg h1]
  by_cases h2:c=10
  ·subst h2
   exact ⟨rfl,by decide,_,_,rfl,by decide⟩
  ·rw [if_neg h2]
   by_cases h3:c < 32∨126 < c
   ·rw [if_pos h3]
    obtain ⟨a1,a2,a3⟩:=hex_back ⟨c.toNat,c.toNat_lt⟩
    refine ⟨?_,by simp,_,_,rfl,by decide⟩
    show (if W.hexB (hexB (c.toNat / 16))=true∧W.hexB (hexB (c.toNat % 16))=true then ((16 * hexV (hexB (c.toNat / 16)) + hexV (hexB (c.toNat % 16))).toNat,4) else ((0,0):Nat × Nat))=_
    rw [if_pos ⟨a1,a2⟩,a3]
    rfl
   ·rw [if_neg h3]
    have g:¬ (c.toNat < 32∨126 < c.toNat):=by
     rintro (e | e)
     ·exact h3 (.inl (UInt8.lt_iff_toNat_lt.2 (by simpa using e)))
     ·exact h3 (.inr (UInt8.lt_iff_toNat_lt.2 (by simpa using e)))
    exact ⟨(spelt_head c R).2 g (fun e=>h1 (.inr e)),by simp,_,_,rfl,fun e=>h1 (.inl e)⟩
theorem quote_esc:∀ (l:List UInt8) (f k:Nat) (acc:List UInt8),(l.flatMap escB).length + 1≤f→quoteGo f (l.flatMap escB ++ [34]) k acc=okPc ⟨6,bytesOf (acc ++ l),0,0⟩ (k + (l.flatMap escB).length + 1)
 | [],f,k,acc,hf=>by
  show quoteGo f [34] k acc=_
  rw [quote_stop f k 34 [] acc (by simp at hf;omega) rfl]
  simp
 | c :: l,f,k,acc,hf=>by
  have e:(c :: l).flatMap escB ++ [34]=escB c ++ (l.flatMap escB ++ [34]):=by simp
  rw [List.flatMap_cons,List.length_append] at hf
  obtain ⟨h1,h2,d,q,h3,h4⟩:=esc_spelt c (l.flatMap escB ++ [34])
  obtain ⟨f',rfl⟩:∃ f',f=f' + 1:=⟨f - 1,by omega⟩
  rw [e]
  have e2:escB c ++ (l.flatMap escB ++ [34])=d :: (q ++ (l.flatMap escB ++ [34])):=by rw [h3];rfl
  rw [e2] at h1
  rw [e2,quote_on f' k d _ acc h4 (by rw [h1];exact h2),h1,← e2]
  have e3:(escB c ++ (l.flatMap escB ++ [34])).drop (escB c).length=l.flatMap escB ++ [34]:=by simp
  rw [e3,quote_esc l f' (k + (escB c).length) (acc ++ [c.toNat.toUInt8]) (by omega)]
  have e4:c.toNat.toUInt8=c:=by simp
  rw [e4,List.flatMap_cons,List.length_append,List.append_assoc]
  congr 1
  omega
theorem piece_quote (r:List UInt8):pieceP (34 :: r)=quotedP (34 :: r):=by
 have g:=gap_none 34 r (by decide) (by decide)
 have h1:(W.nameP (34 :: r)).size=0:=by
  have:W.nameP (34 :: r)=noPc:=by unfold W.nameP;exact if_pos (.inl (runN_cons_f (by decide)))
  rw [this];rfl
 have h2:(doubleP (34 :: r)).size=0:=by
  have:doubleP (34 :: r)=noPc:=by
   unfold doubleP
   refine if_neg ?_
   intro e
   cases r with
   | nil=>exact absurd e (by decide)
   | cons a r=>
    have:(34:UInt8) :: [a]=hexT:=e
    injection this with e1
    exact absurd e1 (by decide)
  rw [this];rfl
 have h3:(wholeP (34 :: r)).size=0:=by
  have:wholeP (34 :: r)=noPc:=by unfold wholeP;exact if_pos (runN_cons_f (by decide))
  rw [this];rfl
 unfold pieceP
 rw [orPc_none g,orPc_none h1,orPc_none h2,orPc_none h3]
 have h4:¬ (quotedP (34 :: r)).size=0:=by
  unfold quotedP
  rw [if_pos (show (34 :: r).head? = some 34 from rfl)]
  have:=quote_ge (34 :: r).length ((34 :: r).drop 1) 1 []
  rcases qd_cases (quoteGo (34 :: r).length ((34 :: r).drop 1) 1 []) with e | ⟨_,e⟩
  ·rw [e];omega
  ·rw [e];decide
 rw [orPc_some h4]
theorem str_gt (t:ByteArray):GT (quoP t)∧tkOf (quoP t)=⟨6,t,0,0⟩:=by
 have hd:(quoP t).data.toList=34 :: (t.data.toList.flatMap escB ++ [34]):=by simp [quoP]
 have hq:pieceP (quoP t).data.toList=okPc ⟨6,t,0,0⟩ (quoP t).data.toList.length:=by
  rw [hd,piece_quote]
  unfold quotedP
  rw [if_pos (show (34 :: (t.data.toList.flatMap escB ++ [34])).head? = some 34 from rfl)]
  have:=quote_esc t.data.toList (34 :: (t.data.toList.flatMap escB ++ [34])).length 1 [] (by simp)
  rw [List.drop_succ_cons,List.drop_zero,this,qd_ok rfl]
  have e:bytesOf ([] ++ t.data.toList)=t:=rfl
  rw [e]
  congr 1
  simp
  omega
 exact gt_mk hq (show (6:Int) ≠ 0 by decide) (by rw [hd];simp)
theorem fx_none {t:Tk} (h:t.kind ≠ 2) (h3:t.kind ≠ 3):fixedT t=⟨#[]⟩:=by unfold fixedT;rw [if_neg (by omega)]
section
variable {n:Nd}
theorem leaf_ex {s:ByteArray} (htx:tx (.cons n .nil .nil)=[s]) (hf:FO s) (hcol:fixedT (tkOf s) ≠ k_col) (hpr:∀ y0 z L o,y0.c=0→y0.t=tkOf s→z.c=0→fixedT z.t ≠ k_lpar→Og (fun m=>P m .pr) ⟨y0 :: z :: L,o⟩ (Re (.cons n .nil .nil) (z :: L) o)):Ex (.cons n .nil .nil):=by
 refine ⟨?_,⟨s,[],htx,hf⟩,?_,rfl⟩
 ·intro ys z L o Q hl hz hnp K
  rw [htx] at hl
  obtain ⟨y0,r1,rfl,t1,c1,hl⟩:=hl.cons
  obtain rfl:=hl.nil
  refine Og.P ?_
  simp only [P]
  refine Og.bind (hpr y0 z L o c1 t1 hz hnp) ?_
  rintro a s' ⟨ha,rfl⟩
  exact K a ha
 ·intro b hb
  rw [htx,List.mem_singleton] at hb
  rw [hb]
  exact hcol
theorem leaf_tx {s:ByteArray} (hs:isK s=false) (h:tkN flP (n,0)=[s]):tx (.cons n .nil .nil)=[s]:=by
 rw [tx_one]
 show fillT (tkN flP (n,0)) []=_
 rw [h,fill_w hs]
 rfl
theorem ex_name (hk:n.kind=25) (hn:NG n) (hN:NdK n):Ex (.cons n .nil .nil):=by
 have hz:=ng_zero hn (by omega) (by omega)
 have ht:nameP n.text=true:=by
  have h:=hn.1
  rw [hk] at h
  exact h
 obtain ⟨g1,g2⟩:=name_gt ht hN.2.1
 have f0:fixedT (tkOf n.text)=⟨#[]⟩:=by rw [g2];exact fx_none (by show (1:Int) ≠ 2;decide) (by show (1:Int) ≠ 3;decide)
 refine leaf_ex (s:=n.text) (leaf_tx (k_name ht) ?_) (.inl f0) (by rw [f0];decide) ?_
 ·obtain ⟨k,a,t,i,b⟩:=n
  simp only at hk
  subst hk
  rfl
 intro y0 z L o c0 t0 cz hnp
 have k1:y0.t.kind=1:=by rw [t0,g2]
 refine Og.P ?_
 simp only [P]
 refine Og.lookB (y:=y0) rfl c0 ?_
 refine Og.neg (by omega) (Og.neg (by omega) (Og.neg (by omega) (Og.pos k1 ?_)))
 refine Og.P ?_
 simp only [P]
 refine Og.nameB (y:=y0) rfl c0 k1 ?_
 rw [be_no (by rw [t0,f0];decide)]
 refine Og.lookB (y:=z) rfl cz (Og.neg hnp (Og.pure ⟨?_,rfl⟩))
 exact bare_one (bare_of hk hn (by rw [t0,g2]) (by rw [t0,g2,hz.1]) (by rw [t0,g2,hz.2])) rfl
theorem ex_num {s:ByteArray} {k:Int} {d:Int} (hd:k=26∧d=4∨k=27∧d=5∨k=28∧d=6) (hk:n.kind=k) (hn:NG n) (hs:isK s=false) (ht:tkN flP (n,0)=[s]) (hT:tkOf s=⟨d,n.text,n.int,n.bits⟩):Ex (.cons n .nil .nil):=by
 have kd:(tkOf s).kind=d:=by rw [hT]
 have f0:fixedT (tkOf s)=⟨#[]⟩:=fx_none (by omega) (by omega)
 refine leaf_ex (s:=s) (leaf_tx hs ht) (.inl f0) (by rw [f0];decide) ?_
 intro y0 z L o c0 t0 cz hnp
 have k1:y0.t.kind=d:=by rw [t0,kd]
 have hb:∀ k',k=k'→bareF (Fo.one (ofN k' y0) .nil)=bareF (.cons n .nil .nil):=fun k' e=>bare_one (bare_of (by rw [hk,e]) hn (by rw [t0,hT]) (by rw [t0,hT]) (by rw [t0,hT])) rfl
 refine Og.P ?_
 simp only [P]
 refine Og.lookB (y:=y0) rfl c0 ?_
 rcases hd with ⟨rfl,rfl⟩ | ⟨rfl,rfl⟩ | ⟨rfl,rfl⟩
 ·refine Og.pos k1 (Og.takeB (y:=y0) rfl c0 ?_)
  rw [be_no (by rw [t0,f0];decide)]
  exact Og.pure ⟨hb _ rfl,rfl⟩
 ·refine Og.neg (by omega) (Og.pos k1 (Og.takeB (y:=y0) rfl c0 ?_))
  rw [be_no (by rw [t0,f0];decide)]
  exact Og.pure ⟨hb _ rfl,rfl⟩
 ·refine Og.neg (by omega) (Og.neg (by omega) (Og.pos k1 (Og.takeB (y:=y0) rfl c0 ?_)))
  rw [be_no (by rw [t0,f0];decide)]
  exact Og.pure ⟨hb _ rfl,rfl⟩
theorem kind_words:(tkOf k_true).kind=2∧(tkOf k_false).kind=2∧(tkOf k_nil).kind=2:=⟨by kernel_rfl,by kernel_rfl,by kernel_rfl⟩
theorem ex_word (hk:n.kind=29∨n.kind=30∨n.kind=31) (hn:NG n):Ex (.cons n .nil .nil):=by
 obtain ⟨w1,w2,w3⟩:=kind_words
 rcases hk with hk | hk | hk
 ·have tk:=lit_tk (b:=k_true) (by simp [lits])
  refine leaf_ex (s:=k_true) (leaf_tx (isK_lit _ _) (by obtain ⟨k,a,t,i,b⟩:=n;simp only at hk;subst hk;rfl)) (.inr (.inr (.inl tk.1))) (by rw [tk.1];decide) ?_
  intro y0 z L o c0 t0 cz hnp
  have k1:y0.t.kind=2:=by rw [t0,w1]
  have f1:fixedT y0.t=k_true:=by rw [t0];exact tk.1
  refine Og.P ?_
  simp only [P]
  refine Og.lookB (y:=y0) rfl c0 ?_
  refine Og.neg (by omega) (Og.neg (by omega) (Og.neg (by omega) (Og.neg (by omega) (Og.pos k1 ?_))))
  refine Og.P ?_
  simp only [P]
  refine Og.lookB (y:=y0) rfl c0 (Og.pos f1 (Og.takeB (y:=y0) rfl c0 ?_))
  rw [be_no (by rw [f1];decide)]
  exact Og.pure ⟨bare_one (bare_at hk hn (by decide) (by decide) (by decide)) rfl,rfl⟩
 ·have tk:=lit_tk (b:=k_false) (by simp [lits])
  refine leaf_ex (s:=k_false) (leaf_tx (isK_lit _ _) (by obtain ⟨k,a,t,i,b⟩:=n;simp only at hk;subst hk;rfl)) (.inr (.inr (.inr (.inl tk.1)))) (by rw [tk.1];decide) ?_
  intro y0 z L o c0 t0 cz hnp
  have k1:y0.t.kind=2:=by rw [t0,w2]
  have f1:fixedT y0.t=k_false:=by rw [t0];exact tk.1
  refine Og.P ?_
  simp only [P]
  refine Og.lookB (y:=y0) rfl c0 ?_
  refine Og.neg (by omega) (Og.neg (by omega) (Og.neg (by omega) (Og.neg (by omega) (Og.pos k1 ?_))))
  refine Og.P ?_
  simp only [P]
  refine Og.lookB (y:=y0) rfl c0 (Og.neg (by rw [f1];decide) (Og.pos f1 (Og.takeB (y:=y0) rfl c0 ?_)))
  rw [be_no (by rw [f1];decide)]
  exact Og.pure ⟨bare_one (bare_at hk hn (by decide) (by decide) (by decide)) rfl,rfl⟩
 ·have tk:=lit_tk (b:=k_nil) (by simp [lits])
  refine leaf_ex (s:=k_nil) (leaf_tx (isK_lit _ _) (by obtain ⟨k,a,t,i,b⟩:=n;simp only at hk;subst hk;rfl)) (.inr (.inr (.inr (.inr tk.1)))) (by rw [tk.1];decide) ?_
  intro y0 z L o c0 t0 cz hnp
  have k1:y0.t.kind=2:=by rw [t0,w3]
  have f1:fixedT y0.t=k_nil:=by rw [t0];exact tk.1
  refine Og.P ?_
  simp only [P]
  refine Og.lookB (y:=y0) rfl c0 ?_
  refine Og.neg (by omega) (Og.neg (by omega) (Og.neg (by omega) (Og.neg (by omega) (Og.pos k1 ?_))))
  refine Og.P ?_
  simp only [P]
  refine Og.lookB (y:=y0) rfl c0 (Og.neg (by rw [f1];decide) (Og.neg (by rw [f1];decide) (Og.wantB (y:=y0) rfl c0 f1 ?_)))
  rw [be_no (by rw [f1];decide)]
  exact Og.pure ⟨bare_one (bare_at hk hn (by decide) (by decide) (by decide)) rfl,rfl⟩
theorem ex_leaf (hk:n.kind=25∨n.kind=26∨n.kind=27∨n.kind=28∨n.kind=29∨n.kind=30∨n.kind=31) (hn:NG n) (hN:NdK n):Ex (.cons n .nil .nil):=by
 obtain ⟨_,hs,hi,hb⟩:=hN
 rcases hk with hk | hk | hk | hk | hk
 ·exact ex_name hk hn ⟨by omega,hs,hi,hb⟩
 ·have he:=ng_empty hn (by rw [hk];rfl)
  have hz:0≤n.int∧n.bits=0:=by
   have:=hn.2
   unfold numsP at this
   rw [if_pos hk] at this
   exact of_decide_eq_true this
  obtain ⟨g1,g2⟩:=int_gt n.int hz.1 hi.2
  have q:=num_size true n.int n.bits hi hb
  refine ex_num (s:=⟨(intT n.int).toArray⟩) (.inl ⟨rfl,rfl⟩) hk hn q.2 ?_ (by rw [g2,he,hz.2])
  obtain ⟨k,a,t,i,b⟩:=n
  simp only at hk
  subst hk
  rfl
 ·have he:=ng_empty hn (by rw [hk];rfl)
  have hz:n.int=0∧(n.bits≤9218868437227405312∨n.bits=9221120237041090560):=by
   have:=hn.2
   unfold numsP at this
   rw [if_neg (by omega),if_pos hk] at this
   exact of_decide_eq_true this
  obtain ⟨g1,g2⟩:=flt_gt n.bits hb.1 hz.2
  have q:=num_size false n.int n.bits hi hb
  refine ex_num (s:=flP n.bits) (.inr (.inl ⟨rfl,rfl⟩)) hk hn q.2 ?_ (by rw [g2,he,hz.1])
  obtain ⟨k,a,t,i,b⟩:=n
  simp only at hk
  subst hk
  rfl
 ·have hz:=ng_zero hn (by omega) (by omega)
  obtain ⟨g1,g2⟩:=str_gt n.text
  refine ex_num (s:=quoP n.text) (.inr (.inr ⟨rfl,rfl⟩)) hk hn (quo_size n.text).2 ?_ (by rw [g2,hz.1,hz.2])
  obtain ⟨k,a,t,i,b⟩:=n
  simp only at hk
  subst hk
  rfl
 ·exact ex_word hk hn
end
end Go.Proofs.YtkjaoandifednaaGreatDoor.W.Tr
