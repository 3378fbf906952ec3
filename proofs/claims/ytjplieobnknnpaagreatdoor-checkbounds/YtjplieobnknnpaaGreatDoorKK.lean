import Derived.Test.YtjplieobnknnpaaGreatDoorKJ
import Derived.Test.YtjplieobnknnpaaGreatDoorJA
import Derived.Test.YtjplieobnknnpaaGreatDoorJG
import Derived.Laws.EntriesVeiled
import Derived.Deep.Cut
import Derived.LoopTactic
import Derived.Laws.Rows
import Derived.Test.YtjplieobnknnpaaGreatDoorShelfT
import Derived.Laws.OwnMore
import Derived.Sort.Grow
import Derived.Deep.QuietTactic
import Derived.BigQuiet
open List renaming getElem?_eq_getElem → z6z, getElem?_eq_some_iff → z8z
open Array renaming getElem?_eq_some_iff → z5z, getElem?_toList → z9z
open Nat renaming le_refl → z1z, lt_of_lt_of_le → z7z
open Go.World renaming alloc_heap_new → z2z
open Go.RowKit.Below renaming refl → z0z
open Go.IntKind renaming i64 → z3z, wrap_i64 → z4z
open Go.Proofs.Tryz
set_option maxRecDepth 1000000
set_option maxHeartbeats 8000000
namespace Go.Proofs.YtjplieobnknnpaaGreatDoor.W.Tr
open Go.ChangeShapes Go.WideShapes Go.RowKit Go.Shelf Go.ChangeMaps
set_option linter.unusedVariables false
set_option linter.unusedSimpArgs false
theorem AU{w:World}{b:Nat}{l:Array Value}{t:TypeId}(h:w.heap[b]? = some (.cells l t (0,0)))(j:Nat):w.cell? ⟨b,j,none⟩=l[j]?:=cell_of_row _ b j _ _ _ h
theorem J5:prog.underlying 83=some (.map 9 3):=by kernel_rfl
theorem mQ:prog.underlying 82=some (.map 9 3):=by kernel_rfl
theorem OE(w:World):(zeroValue 3).run prog w=.ok (.int .i64 0) w:=by kernel_rfl
theorem TI(w:World)(b:Nat)(l:List (ByteArray × Nat))(s:ByteArray)(h:Bz w b l):Calls prog 109 #[.map (some b),.string s] w λe w'=>e=.returned (.bool (DN l s))/\w'=w:=by
 have hr:=VG J5 II (OE w) h s
 clear h
 generalize DN l s=r at *
 go_enter func109,ntmps109
 go_wp2
 go_ret
 exact⟨rfl,rfl⟩
theorem AB0(w:World)(g n cap b:Nat)(hn:n<=1000000)(hc:w.cell? ⟨g,n,none⟩=some (.map (some b))):Calls prog 75 #[.slice (some ⟨g,0,none⟩) (n+1) cap] w λe w'=>e=.returned (.map (some b))/\w'=w:=by
 have o1:z3z.wrap (((n+1:Nat):Int)-1)=n:=by rw[z4z];omega
 have o2:(0:Int)<=n:=by omega
 have o3:(n:Int)<((n+1:Nat):Int):=by omega
 go_enter func75,ntmps75
 go_wp2
 go_ret
 exact⟨rfl,rfl⟩
theorem oW(w:World)(b sb:Nat)(l:List (ByteArray × Nat))(s:ByteArray)(h:Bz w b l)(hs:w.cell? ⟨sb,0,none⟩=some (.string s)):Calls prog 158 #[.map (some b),.pointer (some ⟨sb,0,none⟩)] w λe w'=>e=.returned (.bool (DN l s))/\w'=w:=by
 have ch:=TI w b l s h
 clear h
 generalize DN l s=r at *
 go_enter func158,ntmps158
 go_wp2_with (go_at_call 109;(with_reducible refine ch.mono ?_);rintro e w2 ⟨rfl,hw⟩;(have hw':=hw.symm);subst hw';clear hw)
 go_ret
 exact⟨rfl,rfl⟩
structure Maps (w:World) (g:Nat) (bs:List Nat) (ls:List (List (ByteArray × Nat))):Prop where
 len:bs.length=ls.length
 cell:∀ (i b:Nat),bs[i]? = some b->w.cell? ⟨g,i,none⟩=some (.map (some b))
 map:∀ (i b:Nat) (l:List (ByteArray × Nat)),bs[i]? = some b->ls[i]? = some l->Bz w b l
theorem ACs(w:World)(g cap sb:Nat)(bs:List Nat)(ls:List (List (ByteArray × Nat)))(s:ByteArray)(h:Maps w g bs ls)(hl:bs.length<=1000000)(hs:w.cell? ⟨sb,0,none⟩=some (.string s)):Calls prog 193 #[.slice (some ⟨g,0,none⟩) bs.length cap,.func (.func 158) #[] #[.pointer (some ⟨sb,0,none⟩)]] w λe w'=>∃r:Int,e=.returned (.int .i64 r)/\w'=w/\decide (r≥0)=ls.any λl=>DN l s:=by
 have H:=hid h
 have eg:∀args w,(callFunc 158 args).run prog w=.ok (.enter 158 args) w:=enters_of func158 (by kernel_rfl) rfl
 go_enter func193,ntmps193
 go_upto_region 2 with fail
 go_loopw [8] (λi wr=>∃j:Nat,j<=bs.length/\i=.int .i64 (j:Nat)/\wr=w/\(ls.take j).any (λl=>DN l s)=false) (λi _=>bs.length-(intOf i).toNat)
 case atStart=>exact⟨0,Nat.zero_le _,rfl,rfl,by simp⟩
 case round=>
  obtain⟨j,hj,rfl,rfl,ha⟩:=hrel
  have HA:=hid ha
  clear ha h
  by_cases hlt:j<bs.length
  case neg=>
   have b0:¬ ((j:Nat):Int)<bs.length:=by omega
   go_wp2
   go_ret
   refine⟨-1,rfl,rfl,?_⟩
   have e:ls.take j=ls:=List.take_of_length_le (by have:=H.out.len;omega)
   have:=HA.out
   rw[e] at this
   rw[this]
   rfl
  case pos=>
   have b0:((j:Nat):Int)<bs.length:=by omega
   have b1:(0:Int)<=j:=by omega
   have e1:z3z.wrap ((j:Int)+1)=((j+1:Nat):Int):=by rw[z4z];omega
   have hj2:j<ls.length:=by have:=H.out.len;omega
   have hb:bs[j]? = some bs[j]:=z6z hlt
   have hll:ls[j]? = some ls[j]:=z6z hj2
   have hc:=H.out.cell j _ hb
   have ck:=oW wr bs[j] sb ls[j] s (H.out.map j _ _ hb hll) hs
   have ht:(ls.take (j+1)).any (λl=>DN l s)=DN ls[j] s:=by
    rw[List.take_succ_eq_append_getElem hj2,List.any_append,HA.out]
    simp
   have hA:DN ls[j] s=true->(ls.any λl=>DN l s)=true:=λh=>by
    rw[List.any_eq_true]
    exact⟨_,List.getElem_mem hj2,h⟩
   have HT:=hid ht
   have HN:=hid hA
   clear HA ht hA hb hll
   generalize DN ls[j] s=r at *
   generalize bs[j]=b at *
   cases r
   ·go_wp2_with (go_at_fn 158;(with_reducible refine ck.mono ?_);rintro e w2 ⟨rfl,hw⟩;(have hw':=hw.symm);subst hw';clear hw ck)
    go_roundw
    case rel=>exact⟨j+1,by omega,by first|rfl|go_num,by first|rfl|trivial,HT.out⟩
    case measure=>show bs.length-((j+1:Nat):Int).toNat<bs.length-(j:Int).toNat;omega
   ·go_wp2_with (go_at_fn 158;(with_reducible refine ck.mono ?_);rintro e w2 ⟨rfl,hw⟩;(have hw':=hw.symm);subst hw';clear hw ck)
    go_ret
    refine⟨j,rfl,rfl,?_⟩
    rw[HN.out (by first|rfl|trivial)]
    exact decide_eq_true b1
theorem AAq(w:World)(g cap:Nat)(bs:List Nat)(ls:List (List (ByteArray × Nat)))(s:ByteArray)(h:Maps w g bs ls)(hg:g<w.heap.size)(hl:bs.length<=1000000):Calls prog 111 #[.slice (some ⟨g,0,none⟩) bs.length cap,.string s] w λe w'=>e=.returned (.bool (ls.any λl=>DN l s))/\Below w.heap.size w w':=by
 have hB:Below w.heap.size w (w.alloc (.cells #[.string s] 9)):=(z0z _ w).alloc (z1z _) _
 have hs:=World.cell?_alloc_new w #[.string s] 9 0
 have h2:Maps (w.alloc (.cells #[.string s] 9)) g bs ls:=⟨h.len,λi b hb=>(hB.cell (p:=⟨g,i,none⟩) hg).trans (h.cell i b hb),λi b l hb hl=>(h.map i b l hb hl).below hB⟩
 have ci:=ACs _ g cap w.heap.size bs ls s h2 hl hs
 have cf:Calls prog 157 #[.slice (some ⟨g,0,none⟩) bs.length cap,.func (.func 158) #[] #[.pointer (some ⟨w.heap.size,0,none⟩)]] (w.alloc (.cells #[.string s] 9)) λe w'=>e=.returned (.bool (ls.any λl=>DN l s))/\w'=w.alloc (.cells #[.string s] 9):=by
  clear h2 h hs hB hg
  generalize (ls.any λl=>DN l s)=r at *
  generalize w.alloc _=W at *
  go_enter func157,ntmps157
  go_wp2_with (go_at_call 193;(with_reducible refine ci.mono ?_);rintro e w2 ⟨x,rfl,hw,hx⟩;(have hw':=hw.symm);subst hw';clear hw ci)
  go_ret
  exact⟨by rw[<- hx];rfl,rfl⟩
 clear ci h2 h hs hg
 generalize (ls.any λl=>DN l s)=r at *
 go_enter func111,ntmps111
 go_wp2_with (go_at_call 157;(with_reducible refine cf.mono ?_);rintro e w2 ⟨rfl,hw⟩;(have hw':=hw.symm);subst hw';clear hw cf)
 go_ret
 exact⟨rfl,hB⟩
inductive Kk:List (ByteArray × Value)->List (ByteArray × Nat)->Prop
 | nil:Kk [] []
 | cons (s:ByteArray) (n k:Nat) (cp:Array Value) {l:List (ByteArray × Value)} {m:List (ByteArray × Nat)} (h:Kk l m):Kk ((s,.agg #[.int .i64 (n:Nat),.func (.func k) #[] cp])::l) ((s,n)::m)
theorem Kk.find{l:List (ByteArray × Value)}{m:List (ByteArray × Nat)}(h:Kk l m)(s:ByteArray):(IJ m s=none->FC l s=none)/\∀n,IJ m s=some n->∃k cp,FC l s=some (.agg #[.int .i64 (n:Nat),.func (.func k) #[] cp]):=by
 induction h with
 | nil=>exact⟨λ_=>rfl,λn h=>by cases h⟩
 | cons s' n k cp h ih=>
  unfold IJ FC
  by_cases c:(s==s')=true
  ·rw[if_pos c,if_pos c]
   refine⟨λh=>(by cases h),λn' h=>⟨k,cp,?_⟩⟩
   cases h
   rfl
  ·rw[if_neg c,if_neg c]
   exact ih
def Sk:List (ByteArray × Nat):=[(⟨#[105,110,116]⟩,1),(⟨#[102,108,111,97,116]⟩,1),(⟨#[116,101,120,116]⟩,1),(⟨#[110,117,109]⟩,1),(⟨#[108,101,110]⟩,1),(⟨#[115,117,98]⟩,3),(⟨#[98,121,116,101]⟩,2),(⟨#[99,104,114]⟩,1),(⟨#[98,105,116,115]⟩,1),(⟨#[102,114,111,109,98,105,116,115]⟩,1),(⟨#[102,54,52]⟩,1),(⟨#[102,51,50]⟩,1),(⟨#[105,49,54]⟩,1),(⟨#[117,56]⟩,1),(⟨#[114,111,119]⟩,1),(⟨#[118,105,101,119]⟩,4),(⟨#[108,111,97,100]⟩,2),(⟨#[115,116,111,114,101]⟩,3),(⟨#[107,105,110,100]⟩,1)]
def Am(s:ByteArray):Option Nat:=IJ Sk s
theorem ars(x5 x6 x7 x8 x9:Nat):Kk (opsL x5 x6 x7 x8 x9) Sk:=by
 unfold opsL Sk
 repeat (first|exact Kk.nil|refine Kk.cons _ _ _ _ ?_)
theorem uM(w:World):(zeroValue 184).run prog w=.ok (.agg #[.int .i64 0,.nilFunc]) w:=by kernel_rfl
theorem Yb(w:World)(s:ByteArray):Calls prog 108 #[.string s] w λe w'=>e=.returned (.tuple #[.int .i64 (((Am s).getD 0:Nat):Int),.bool (Am s).isSome])/\Below w.heap.size w w':=by
 have cb:=ACA w
 cases hA:Am s with
 | none=>
  go_enter func108,ntmps108
  go_wp2_with (go_at_call 156;(with_reducible refine cb.mono ?_);rintro e w1 ⟨b,x5,x6,x7,x8,x9,rfl,hM,hB⟩;(have hr:=XO Uy II hM s _ (uM w1) (((ars x5 x6 x7 x8 x9).find s).1 hA));(have HB:=hid hB);clear hB hM cb)
  go_ret2
  exact⟨rfl,HB.out.alloc HB.out.size _⟩
 | some n=>
  go_enter func108,ntmps108
  go_wp2_with (go_at_call 156;(with_reducible refine cb.mono ?_);rintro e w1 ⟨b,x5,x6,x7,x8,x9,rfl,hM,hB⟩;(obtain⟨k,cp,hf⟩:=((ars x5 x6 x7 x8 x9).find s).2 n hA);(have hr:=aC Uy II hM s _ hf);(have HB:=hid hB);clear hB hM cb hf)
  go_ret2
  exact⟨rfl,HB.out.alloc HB.out.size _⟩
def Ey(lv ev:Value)(mr:Int)(mp mt:Nat)(ov sv pv:Value)(mc:Nat):Array Value:=#[lv,ev,.int .i64 mr,.map (some mp),.map (some mt),ov,sv,pv,.map (some mc)]
theorem yE(w:World)(pb:Nat)(lv ev:Value)(mr:Int)(mp mt:Nat)(ov sv pv:Value)(mc:Nat)(hp:w.heap[pb]? = some (.cells (Ey lv ev mr mp mt ov sv pv mc) 91 (0,0)))(pm:List (ByteArray × Nat))(hm:Bz w mp pm)(s:ByteArray) :
  Calls prog 112 #[.pointer (some ⟨pb,0,none⟩),.string s] w λe w'=>e=.returned (.tuple #[.int .i64 (((Gp Am pm s).getD 0:Nat):Int),.bool (Gp Am pm s).isSome])/\Below w.heap.size w w':=by
 have c3:w.cell? ⟨pb,3,none⟩=some (.map (some mp)):=AU hp 3
 have hr:=VG mQ II (OE w) hm s
 have ca:=Yb w s
 unfold Gp
 rw[Ub] at hr
 clear hp hm
 cases hg:IJ pm s with
 | none=>
  rw[hg] at hr
  simp only[Option.getD_none,Option.isSome_none] at hr
  go_enter func112,ntmps112
  go_wp2_with (go_at_call 108;(with_reducible refine ca.mono ?_);rintro e w1 ⟨rfl,hB⟩;(have HB:=hid hB);clear hB ca)
  go_ret2
  exact⟨rfl,HB.out⟩
 | some n=>
  rw[hg] at hr
  simp only[Option.getD_some,Option.isSome_some] at hr ⊢
  go_enter func112,ntmps112
  go_wp2
  go_ret2
  exact⟨rfl,z0z _ _⟩
theorem qY(k:Int)(h:Nat)(hh:h<=1000000)(w:World):Calls prog 44 #[.int .i64 k,.int .i64 (h:Nat)] w λe w'=>e=.returned (.int .i64 ((Ee k h:Nat):Int))/\w'=w:=by
 have e1:z3z.wrap ((h:Int)+1)=((h+1:Nat):Int):=by rw[z4z];omega
 have e3:z3z.wrap ((h:Int)+3)=((h+3:Nat):Int):=by rw[z4z];omega
 by_cases h11:k=11
 ·subst h11
  rw[show Ee 11 h=h+3 from rfl]
  clear hh
  go_enter func44,ntmps44
  go_wp2
  go_ret
  exact⟨rfl,rfl⟩
 by_cases hx:k=18\/k=19\/k=20\/k=21\/k=22\/k=23\/k=24\/k=25\/k=26\/k=27\/k=28\/k=29\/k=30\/k=31
 ·have e:Ee k h=h+1:=by unfold Ee;rw[if_neg h11,if_pos hx]
  rw[e]
  clear e hh h11
  rcases hx with rfl|rfl|rfl|rfl|rfl|rfl|rfl|rfl|rfl|rfl|rfl|rfl|rfl|rfl
  all_goals
   go_enter func44,ntmps44
   go_wp2
   go_ret
   exact⟨rfl,rfl⟩
 ·have e:Ee k h=0:=by unfold Ee;rw[if_neg h11,if_neg hx]
  rw[e]
  have b0:(k==11)=false:=by simpa using h11
  simp only[not_or] at hx
  obtain⟨h1,h2,h3,h4,h5,h6,h7,h8,h9,h10,h11',h12,h13,h14⟩:=hx
  have b1:(k==18)=false:=by simpa using h1
  have b2:(k==19)=false:=by simpa using h2
  have b3:(k==20)=false:=by simpa using h3
  have b4:(k==21)=false:=by simpa using h4
  have b5:(k==22)=false:=by simpa using h5
  have b6:(k==23)=false:=by simpa using h6
  have b7:(k==24)=false:=by simpa using h7
  have b8:(k==25)=false:=by simpa using h8
  have b9:(k==26)=false:=by simpa using h9
  have b10:(k==27)=false:=by simpa using h10
  have b11:(k==28)=false:=by simpa using h11'
  have b12:(k==29)=false:=by simpa using h12
  have b13:(k==30)=false:=by simpa using h13
  have b14:(k==31)=false:=by simpa using h14
  clear h1 h2 h3 h4 h5 h6 h7 h8 h9 h10 h11' h12 h13 h14 h11 hh e e1 e3
  go_enter func44,ntmps44
  go_wp2
  go_ret
  exact⟨rfl,rfl⟩
abbrev Ai(n:Nd)(kids:Nat):Value:=.agg #[.int .i64 n.kind,.int .i64 n.a,.int .i64 (kids:Nat),.string n.text,.int .i64 n.int,.int .u64 n.bits]
abbrev Ab(n:Nd)(kids:Nat):Obj:=.cells #[.int .i64 n.kind,.int .i64 n.a,.int .i64 (kids:Nat),.string n.text,.int .i64 n.int,.int .u64 n.bits] 48
theorem zJ(n:Nd)(kids nth:Nat)(hk:kids<=1000000)(hn:nth<=1000000)(w:World):Calls prog 45 #[Ai n kids,.int .i64 (nth:Nat)] w λe w'=>e=.returned (.int .i64 ((Dv n.kind kids nth:Nat):Int))/\Below w.heap.size w w':=by
 have bw:Below w.heap.size w (w.alloc (Ab n kids)):=(z0z _ w).alloc (z1z _) _
 obtain⟨k,a,t,i,b⟩:=n
 simp only[Ai] at *
 by_cases hx:k=21\/k=24\/k=8\/k=23
 ·have e:Dv k kids nth=nth:=by unfold Dv;rw[if_pos hx]
  rw[e]
  clear e hk hn
  rcases hx with rfl|rfl|rfl|rfl
  all_goals
   go_enter func45,ntmps45
   go_wp2
   go_ret
   exact⟨rfl,bw⟩
 by_cases h11:k=11
 ·subst h11
  have o1:wrap64 ((kids:Int)-nth)=(kids:Int)-nth:=by unfold wrap64;omega
  by_cases k1:kids=nth+1
  ·have e:Dv 11 kids nth=3:=by unfold Dv;rw[if_neg (by decide),if_pos rfl,if_pos k1]
   have b1:(wrap64 ((kids:Int)-nth)==1)=true:=by rw[o1];simp;omega
   rw[e]
   clear e o1 k1 hk hn hx
   go_enter func45,ntmps45
   go_wp2
   go_ret
   exact⟨rfl,bw⟩
  ·have b1:(wrap64 ((kids:Int)-nth)==1)=false:=by rw[o1];simp;omega
   by_cases k2:kids=nth+2
   ·have e:Dv 11 kids nth=1:=by unfold Dv;rw[if_neg (by decide),if_pos rfl,if_neg k1,if_pos k2]
    have b2:(wrap64 ((kids:Int)-nth)==2)=true:=by rw[o1];simp;omega
    rw[e]
    clear e o1 k1 k2 hk hn hx
    go_enter func45,ntmps45
    go_wp2
    go_ret
    exact⟨rfl,bw⟩
   ·have e:Dv 11 kids nth=0:=by unfold Dv;rw[if_neg (by decide),if_pos rfl,if_neg k1,if_neg k2]
    have b2:(wrap64 ((kids:Int)-nth)==2)=false:=by rw[o1];simp;omega
    rw[e]
    clear e o1 k1 k2 hk hn hx
    go_enter func45,ntmps45
    go_wp2
    go_ret
    exact⟨rfl,bw⟩
 ·have e:Dv k kids nth=0:=by unfold Dv;rw[if_neg hx,if_neg h11]
  rw[e]
  simp only[not_or] at hx
  obtain⟨h1,h2,h3,h4⟩:=hx
  have b0:(k==11)=false:=by simpa using h11
  have b1:(k==21)=false:=by simpa using h1
  have b2:(k==24)=false:=by simpa using h2
  have b3:(k==8)=false:=by simpa using h3
  have b4:(k==23)=false:=by simpa using h4
  clear h1 h2 h3 h4 h11 e hk hn
  go_enter func45,ntmps45
  go_wp2
  go_ret
  exact⟨rfl,bw⟩
def Jo(w:World)(ev:Value)(E:List Nat):Prop:=∃g cap,ev=.slice (some ⟨g,0,none⟩) E.length cap/\g<w.heap.size/\∀ (i x:Nat),E[i]? = some x->w.cell? ⟨g,i,none⟩=some (.int .i64 (x:Nat))
theorem Jo.below{w w':World}{ev:Value}{E:List Nat}(h:Jo w ev E)(hB:Below w.heap.size w w'):Jo w' ev E:=by
 obtain⟨g,cap,rfl,hg,hc⟩:=h
 exact⟨g,cap,rfl,z7z hg hB.size,λi x hx=>(hB.cell (p:=⟨g,i,none⟩) hg).trans (hc i x hx)⟩
theorem AB5(w:World)(lv ev:Value)(E:List Nat)(hE:Jo w ev E)(at' x:Nat)(hx:E[at']? = some x)(hl:E.length<=1000000)(h1:at'<x)(h2:x<=1000000)(hlv:∃o n c,lv=.slice o n c):Calls prog 113 #[.agg #[lv,ev],.int .i64 (at':Nat)] w λe w'=>e=.returned (.int .i64 ((x-at':Nat):Int))/\Below w.heap.size w w':=by
 obtain⟨g,cap,rfl,hg,hc⟩:=hE
 obtain⟨o,n,c,rfl⟩:=hlv
 have bw:Below w.heap.size w (w.alloc (.cells #[.slice o n c,.slice (some ⟨g,0,none⟩) E.length cap] 41)):=(z0z _ w).alloc (z1z _) _
 have hlt:=(z8z.1 hx).1
 have c1:(w.alloc (.cells #[.slice o n c,.slice (some ⟨g,0,none⟩) E.length cap] 41)).cell? ⟨g,at',none⟩=some (.int .i64 (x:Nat)):=(bw.cell (p:=⟨g,at',none⟩) hg).trans (hc _ _ hx)
 have o1:(0:Int)<=at':=by omega
 have o2:(at':Int)<E.length:=by omega
 have o3:z3z.wrap ((x:Int)-at')=((x-at':Nat):Int):=by rw[z4z];omega
 clear hc hx hl h1 h2 hlt
 go_enter func113,ntmps113
 go_wp2
 go_ret
 exact⟨rfl,bw⟩
theorem gX(x:ByteArray)(w:World):Calls prog 94 #[.slice none 0 0,.string x] w λe w'=>e=.returned (.int .i64 (-1))/\w'=w:=by
 go_enter func94,ntmps94
 go_upto_region 2 with fail
 go_loopw [8] (λi wr=>i=.int .i64 0/\wr=w) (λ_ _=>0)
 case atStart=>exact⟨rfl,rfl⟩
 case round=>
  obtain⟨rfl,rfl⟩:=hrel
  go_wp2
  go_ret
  exact⟨rfl,rfl⟩
theorem contains_nil(x:ByteArray)(w:World):Calls prog 52 #[.slice none 0 0,.string x] w λe w'=>e=.returned (.bool false)/\w'=w:=by
 go_enter func52,ntmps52
 go_wp2_with (go_at_call 94;(with_reducible refine(gX _ _).mono ?_);rintro e w2 ⟨rfl,hw⟩;(have hw':=hw.symm);subst hw';clear hw)
 go_ret
 exact⟨rfl,rfl⟩
theorem sJ(ts:List ByteArray)(x:ByteArray):Lib.containsS ts x=ts.any λt=>x==t:=by
 rw[Bool.eq_iff_iff,Lib.containsS_iff,List.any_eq_true]
 refine⟨λh=>⟨x,h,(MapKept.bytes_beq x x).2 rfl⟩,?_⟩
 rintro⟨t,h1,h2⟩
 rwa [(MapKept.bytes_beq x t).1 h2]
abbrev GZ(w:World)(B:Nat)(v:Value)(ts:List ByteArray):Prop:=w.ownsRow B 9 1 v ts.length (ts.map Value.string)
theorem Xo{w:World}{B:Nat}{v:Value}{ts:List ByteArray}(h:GZ w B v ts){i:Nat}(hi:i<ts.length):∃g c,v=.slice (some ⟨g,0,none⟩) ts.length c/\ts.length<=c/\w.cell? ⟨g,i,none⟩=some (Value.string (ts.getD i ⟨#[]⟩)):=by
 rcases h.2 with⟨_,e0⟩|⟨g,c,cur,rfl,h2,h3,h4,h5,h6,h7⟩
 ·omega
 ·refine⟨g,c,rfl,h4,?_⟩
  have e1:(ts.map Value.string)[i]? = some (Value.string (ts.getD i ⟨#[]⟩)):=by
   rw[List.getElem?_map,List.getD_eq_getElem?_getD,z6z hi];rfl
  rw[cell_of_row _ g _ _ _ _ h3,<- e1,<- h7,List.getElem?_take,if_pos (by omega),z9z]
theorem xK(w:World)(B:Nat)(v:Value)(ts:List ByteArray)(x:ByteArray)(h:GZ w B v ts)(hl:ts.length<=1000000):Calls prog 52 #[v,.string x] w λe w'=>e=.returned (.bool (ts.any λt=>x==t))/\w'=w:=by
 by_cases h0:ts.length=0
 case neg=>
  obtain⟨g,c,rfl,hc,_⟩:=Xo h (i:=0) (by omega)
  have:=Tryz.slices_Contains_string g 0 ts.length c ts x w (z1z _) (by omega) (λj hj=>by
   obtain⟨g',c',e,_,h2⟩:=Xo h hj
   simp only[Value.slice.injEq,Option.some.injEq,Addr.mk.injEq,true_and,and_true] at e
   obtain⟨rfl,rfl⟩:=e
   rw[Nat.zero_add]
   exact h2)
  rwa [List.take_length,sJ] at this
 case pos=>
  have e:ts=[]:=List.length_eq_zero_iff.1 h0
  subst e
  rcases h.2 with⟨rfl,_⟩|⟨g,c,cur,rfl,h2,h3,h4,h5,h6,h7⟩
  ·exact contains_nil x w
  ·have:=Tryz.slices_Contains_string g 0 0 c [] x w (z1z _) (by omega) (λj hj=>by simp at hj)
   simpa [Lib.containsS,Lib.idxOfS,Lib.idxFromS] using this
theorem tN(l:List ByteArray)(x:ByteArray):(l.reverse.any λt=>x==t)=l.any λt=>x==t:=by
 rw[List.any_reverse]
theorem iG(w:World)(pb:Nat)(lv ev:Value)(mr:Int)(mp mt:Nat)(ov sv pv:Value)(mc:Nat)(hp:w.heap[pb]? = some (.cells (Ey lv ev mr mp mt ov sv pv mc) 91 (0,0)))(B:Nat)(c:Sc)(hl:GZ w B pv c.lps.reverse)(hn:c.lps.length<=1000000)(s:ByteArray) :
  Calls prog 110 #[.pointer (some ⟨pb,0,none⟩),.string s] w λe w'=>e=.returned (.bool (Ku c s))/\w'=w:=by
 have c7:w.cell? ⟨pb,7,none⟩=some pv:=AU hp 7
 have cc:=xK w B pv c.lps.reverse s hl (by simpa using hn)
 rw[tN] at cc
 unfold Ku
 obtain⟨o,n,cp,rfl⟩:∃o n cp,pv=.slice o n cp:=by
  rcases hl.2 with⟨rfl,_⟩|⟨g,c,cur,rfl,_⟩
  ·exact⟨_,_,_,rfl⟩
  ·exact⟨_,_,_,rfl⟩
 generalize (c.lps.any λt=>s==t)=r at *
 clear hp hl hn
 go_enter func110,ntmps110
 go_wp2_with (go_at_call 52;(with_reducible refine cc.mono ?_);rintro e w2 ⟨rfl,hw⟩;(have hw':=hw.symm);subst hw';clear hw cc)
 go_ret
 exact⟨rfl,rfl⟩
end Go.Proofs.YtjplieobnknnpaaGreatDoor.W.Tr
namespace Go.Proofs.YtjplieobnknnpaaGreatDoor.W.Ck
open Go.ChangeShapes Go.WideShapes Go.RowKit Go.Shelf
set_option linter.unusedVariables false
structure BW (w:World) where
 w':World
 h:Below w.heap.size w w'
theorem Ji{id:Nat}{Q:Exit->Act->World->Prop}{a:Act}{w:World}{l:List Oper}(hm:prog.follows .mixedOrders=true)(hB:Region.lexB .any l.toArray=true)
  (h:wpQuiet prog l.toArray (λw'=>∃p:BW w,w'=p.w') (λa'=>∀w',(∃p:BW w,w'=p.w')->Q .normal a' w') l a):(Code.region id l.toArray true).wp prog Q a w:=
 wp_region_quiet (C:=λw'=>∃p:BW w,w'=p.w') hm hB ⟨⟨w.drew,(z0z _ w).drew⟩,rfl⟩ (by simpa using h)
theorem BW.calls{P:Program}{f:FuncId}{args:Array Value}{w:World}{p:BW w}{v:Value}(h:Calls P f args p.w' λe w'=>e=.returned v/\Below p.w'.heap.size p.w' w'):Calls P f args p.w' λe w''=>e=.returned v/\∃p':BW w,w''=p'.w':=
 h.mono λ_ w'' ⟨he,hB⟩=>⟨he,⟨w'',p.h.trans (hB.mono p.h.size)⟩,rfl⟩
theorem BW.same{P:Program}{f:FuncId}{args:Array Value}{w:World}{p:BW w}{v:Value}(h:Calls P f args p.w' λe w'=>e=.returned v/\w'=p.w'):Calls P f args p.w' λe w''=>e=.returned v/\∃p':BW w,w''=p'.w':=
 h.mono λ_ w'' ⟨he,hB⟩=>⟨he,p,hB⟩
theorem BW.cell{w:World}{a:Addr}{v:Value}(h:w.cell? a=some v)(p:BW w):p.w'.cell? a=some v:=It.GX p.h h
end Go.Proofs.YtjplieobnknnpaaGreatDoor.W.Ck
namespace Go.Proofs.YtjplieobnknnpaaGreatDoor.W.Tr
open Go.ChangeShapes Go.WideShapes Go.RowKit Go.Shelf Go.ChangeMaps Ck
set_option linter.unusedVariables false
set_option linter.unusedSimpArgs false
def DZ(l:List (Nat × Nat × Nat)):List Value:=l.flatMap λo=>[.int .i64 (o.1:Nat),.int .i64 (o.2.1:Nat),.int .i64 (o.2.2:Nat)]
def Ej(w:World)(b:Nat)(l:List ((Nd × Nat) × Nat)):Prop:=∃es clock,w.heap[b]? = some (.map es clock)/\es.toList.map (λe=>(e.key,e.val))=l.map (λp=>(Ai p.1.1 p.1.2,Value.int .i64 (p.2:Nat)))/\(es.toList.map (·.born)).Nodup/\∀e ∈ es.toList,e.born<clock
theorem Ej.on{w w':World}{b:Nat}{l:List ((Nd × Nat) × Nat)}(h:Ej w b l)(hb:w'.heap[b]? = w.heap[b]?):Ej w' b l:=by
 obtain⟨es,clock,h1,h2⟩:=h
 exact⟨es,clock,hb.trans h1,h2⟩
theorem Ej.lt{w:World}{b:Nat}{l:List ((Nd × Nat) × Nat)}(h:Ej w b l):b<w.heap.size:=by
 obtain⟨es,clock,h1,h2⟩:=h
 exact(z5z.1 h1).1
def Cw(w:World)(lv:Value)(L:List (Nd × Nat)):Prop:=∃g cap,lv=.slice (some ⟨g,0,none⟩) L.length cap/\g<w.heap.size/\L.length<=1000000/\∀ (i:Nat) (p:Nd × Nat),L[i]? = some p->∀j:Nat,j<6->w.cell? ⟨g,i*6+j,none⟩=(#[Value.int .i64 p.1.kind,.int .i64 p.1.a,.int .i64 (p.2:Nat),.string p.1.text,.int .i64 p.1.int,.int .u64 p.1.bits]:Array Value)[j]?
theorem Cw.below{w w':World}{lv:Value}{L:List (Nd × Nat)}(h:Cw w lv L)(hB:Below w.heap.size w w'):Cw w' lv L:=by
 obtain⟨g,cap,rfl,hg,hl,hc⟩:=h
 exact⟨g,cap,rfl,z7z hg hB.size,hl,λi p hp j hj=>(hB.cell (p:=⟨g,_,none⟩) hg).trans (hc i p hp j hj)⟩
structure Pr (w:World) (pb:Nat) (L:List (Nd × Nat)) (E:List Nat) (mr:Int) (pm:List (ByteArray × Nat)) (lv ev:Value) (mp mt mc:Nat) (ov sv pv:Value) (bs:List Nat) (c:Sc) (B:Nat):Prop where
 blk:w.heap[pb]? = some (.cells (Ey lv ev mr mp mt ov sv pv mc) 91 (0,0))
 row:Cw w lv L
 ends:Jo w ev E
 ok:Gy L E
 opn:w.ownsRow B 134 3 ov c.opn.length (DZ c.opn.reverse)
 scs:w.ownsRow B 83 1 sv c.scs.length (bs.reverse.map λb=>Value.map (some b))
 lps:GZ w B pv c.lps.reverse
 blen:bs.length=c.scs.length
 map:∀ (i b:Nat) (l:List (ByteArray × Nat)),bs[i]? = some b->c.scs[i]? = some l->Bz w b l
 par:Bz w mp pm
 tak:Bz w mt c.taken
 cst:Ej w mc c.cst
 few:c.opn.length<=100000/\c.scs.length<=200000/\c.lps.length<=100000
 some1:0<c.scs.length
section
variable {w w':World} {pb:Nat} {L:List (Nd × Nat)} {E:List Nat} {mr:Int} {pm:List (ByteArray × Nat)} {lv ev:Value} {mp mt mc:Nat} {ov sv pv:Value} {bs:List Nat} {c:Sc} {B:Nat}
theorem own_below{w w':World}{B:Nat}{t:TypeId}{k n:Nat}{v:Value}{xs:List Value}(h:w.ownsRow B t k v n xs)(hB:Below w.heap.size w w'):w'.ownsRow B t k v n xs:=by
 refine⟨h.1,?_⟩
 rcases h.2 with⟨h0,h1⟩|⟨g,cap,cur,rfl,h2,h3,h4,h5,h6,h7⟩
 ·exact .inl ⟨h0,h1⟩
 ·exact .inr ⟨g,cap,cur,rfl,h2,(hB.block g (z5z.1 h3).1).trans h3,h4,h5,h6,h7⟩
theorem Pr.below(h:Pr w pb L E mr pm lv ev mp mt mc ov sv pv bs c B)(hB:Below w.heap.size w w'):Pr w' pb L E mr pm lv ev mp mt mc ov sv pv bs c B:=
 ⟨(hB.block _ (z5z.1 h.blk).1).trans h.blk,h.row.below hB,h.ends.below hB,h.ok,own_below h.opn hB,own_below h.scs hB,own_below h.lps hB,h.blen,λi b l hb hl=>(h.map i b l hb hl).below hB,h.par.below hB,h.tak.below hB,h.cst.on (hB.block _ h.cst.lt),h.few,h.some1⟩
theorem Pr.maps(h:Pr w pb L E mr pm lv ev mp mt mc ov sv pv bs c B):∃g cap,sv=.slice (some ⟨g,0,none⟩) bs.reverse.length cap/\g<w.heap.size/\Maps w g bs.reverse c.scs.reverse:=by
 have hl:=h.blen
 have h1:=h.some1
 rcases h.scs.2 with⟨_,e0⟩|⟨g,cap,cur,rfl,h2,h3,h4,h5,h6,h7⟩
 ·omega
 ·refine⟨g,cap,by rw[List.length_reverse,hl],(z5z.1 h3).1,by simp[hl],λi b hb=>?_,λi b l hb hl2=>?_⟩
  ·have hi:=(z8z.1 hb).1
   have e1:(bs.reverse.map λb=>Value.map (some b))[i]? = some (.map (some b)):=by rw[List.getElem?_map,hb];rfl
   rw[cell_of_row _ g _ _ _ _ h3,<- e1,<- h7,List.getElem?_take,if_pos (by simp at hi;omega),z9z]
  ·have hi:=(z8z.1 hb).1
   simp only[List.length_reverse] at hi
   rw[List.getElem?_reverse hi] at hb
   rw[List.getElem?_reverse (by omega)] at hl2
   rw[<- hl] at hl2
   exact h.map _ b l hb hl2
theorem Pr.inn(h:Pr w pb L E mr pm lv ev mp mt mc ov sv pv bs c B):∃b br l lr,bs=b::br/\c.scs=l::lr/\Bz w b l/\Calls prog 75 #[sv] w λe w'=>e=.returned (.map (some b))/\w'=w:=by
 obtain⟨g,cap,rfl,hg,hm⟩:=h.maps
 have hl:=h.blen
 have h1:=h.some1
 have hf:=h.few
 cases hb:bs with
 | nil=>rw[hb] at hl;simp at hl;omega
 | cons b br=>
  cases hc:c.scs with
  | nil=>rw[hc] at h1;simp at h1
  | cons l lr=>
   refine⟨b,br,l,lr,rfl,rfl,h.map 0 b l (by rw[hb];rfl) (by rw[hc];rfl),?_⟩
   have hcell:=hm.cell br.length b (by rw[hb];simp)
   have hlen:bs.reverse.length=br.length+1:=by rw[hb];simp
   rw[hb] at hl
   simp at hl
   have:=AB0 w g br.length cap b (by omega) hcell
   rw[hb] at hlen
   rw[hlen]
   exact this
end
section
variable {w:World} {pb:Nat} {L:List (Nd × Nat)} {E:List Nat} {mr:Int} {pm:List (ByteArray × Nat)} {lv ev:Value} {mp mt mc:Nat} {ov sv pv:Value} {bs:List Nat} {c:Sc} {B:Nat}
theorem Et{w:World}{B:Nat}{t:TypeId}{k n:Nat}{v:Value}{xs:List Value}(h:w.ownsRow B t k v n xs):∃o cp,v=.slice o n cp:=by
 rcases h.2 with⟨rfl,e⟩|⟨g,cap,cur,rfl,_⟩
 ·exact⟨none,0,by rw[e]⟩
 ·exact⟨_,_,rfl⟩
theorem Pr.inn2(h:Pr w pb L E mr pm lv ev mp mt mc ov sv pv bs c B){mb:Nat}{br:List Nat}{l:List (ByteArray × Nat)}{lr:List (List (ByteArray × Nat))}(hbs:bs=mb::br)(hcs:c.scs=l::lr):Calls prog 75 #[sv] w λe w'=>e=.returned (.map (some mb))/\w'=w:=by
 obtain⟨mb',br',l',lr',e1,e2,e3,e4⟩:=h.inn
 rw[hbs] at e1
 injection e1 with e1 _
 subst e1
 exact e4
theorem ACt(h:Pr w pb L E mr pm lv ev mp mt mc ov sv pv bs c B)(n:Nd)(kids:Nat)(hk:n.kind=2\/n.kind=3) :
  Calls prog 70 #[.pointer (some ⟨pb,0,none⟩),Ai n kids] w λe w'=>e=.returned (.bool (Gh Am c n))/\Below w.heap.size w w':=by
 have bw:Below w.heap.size w (w.alloc (Ab n kids)):=(z0z _ w).alloc (z1z _) _
 have hn:=z2z w (Ab n kids)
 have hp:=h.below bw
 obtain⟨q,hq⟩:∃q,Gh Am c n=q:=⟨_,rfl⟩
 rw[hq]
 unfold Gh at hq
 rw[if_pos hk] at hq
 obtain⟨k,a,t,i,b⟩:=n
 simp only[Ai,Ab] at *
 have ca:=Yb (w.alloc (.cells #[.int .i64 k,.int .i64 a,.int .i64 (kids:Nat),.string t,.int .i64 i,.int .u64 b] 48)) t
 generalize hA:(Am t).isSome=ar at *
 generalize (Am t).getD 0=ad at *
 have HP:=hid hp
 have HN:=hid hn
 clear hn hp h hA
 rcases hk with rfl|rfl
 all_goals
  go_enter func70,ntmps70
  go_upto_region 5 with(go_at_call 108;(with_reducible refine ca.mono ?_);rintro e w1 ⟨rfl,hB1⟩;clear ca)
  have h1:=HP.out.below hB1
  have c4:=BW.cell (show w1.cell? ⟨pb,4,none⟩=some (.map (some mt)) from AU h1.blk 4)
  have cn:=BW.cell (show w1.cell? ⟨w.heap.size,3,none⟩=some (.string t) from(hB1.cell (p:=⟨w.heap.size,3,none⟩) (by simp)).trans (AU HN.out 3))
  have ch:=λ(p:BW w1)=>BW.same (p:=p) (TI p.w' mt c.taken t (h1.tak.below p.h))
  generalize DN c.taken t=hs at *
  have HB:=hid (bw.trans (hB1.mono bw.size))
  have inst:Nonempty (BW w1):=⟨⟨_,z0z _ _⟩⟩
  clear HP HN h1 hB1 bw
  subst hq
  cases ar
  all_goals
   refine Ji (by kernel_rfl) (by kernel_rfl) ?_
   repeat (go_big_quiet_step (first|(go_at_call 109;exact ch _)))
   (refine wpQuiet_nil ?_);intro _ hw';(obtain⟨pw,hw''⟩:=hw');subst hw''
   go_wp2
   go_ret
   exact⟨by first|rfl|simp,HB.out.trans (pw.h.mono HB.out.size)⟩
theorem nN(h:Pr w pb L E mr pm lv ev mp mt mc ov sv pv bs c B)(n:Nd)(kids:Nat)(hk:n.kind=4\/n.kind=6) :
  Calls prog 70 #[.pointer (some ⟨pb,0,none⟩),Ai n kids] w λe w'=>e=.returned (.bool (Gh Am c n))/\Below w.heap.size w w':=by
 have bw:Below w.heap.size w (w.alloc (Ab n kids)):=(z0z _ w).alloc (z1z _) _
 have hn:=z2z w (Ab n kids)
 have hp:=h.below bw
 obtain⟨q,hq⟩:∃q,Gh Am c n=q:=⟨_,rfl⟩
 rw[hq]
 unfold Gh at hq
 rw[if_neg (by omega),if_pos hk] at hq
 obtain⟨mb,br,l,lr,hbs,hcs,_,_⟩:=hp.inn
 obtain⟨k,a,t,i,b⟩:=n
 simp only[Ai,Ab] at *
 rw[hcs] at hq
 simp only[List.headD_cons] at hq
 have HP:=hid hp
 have HN:=hid hn
 clear hn hp h
 rcases hk with rfl|rfl
 all_goals
  go_enter func70,ntmps70
  go_upto_region 8 with fail
  generalize hW:World.alloc w _=W at *
  have h1:=HP.out
  obtain⟨so,sc,rfl⟩:=Et h1.scs
  have c6:=BW.cell (show W.cell? ⟨pb,6,none⟩=some (.slice so c.scs.length sc) from AU h1.blk 6)
  have cn:=BW.cell (show W.cell? ⟨w.heap.size,3,none⟩=some (.string t) from AU HN.out 3)
  have ci:=λ(p:BW W)=>BW.same (p:=p) ((h1.below p.h).inn2 hbs hcs)
  have ch:=λ(p:BW W)=>BW.same (p:=p) (TI p.w' mb l t ((h1.map 0 mb l (by rw[hbs];rfl) (by rw[hcs];rfl)).below p.h))
  generalize DN l t=hs at *
  have HB:=hid bw
  have inst:Nonempty (BW W):=⟨⟨_,z0z _ _⟩⟩
  generalize c.scs.length=ln at *
  clear HP HN h1 bw hbs hcs hW
  subst hq
  refine Ji (by kernel_rfl) (by kernel_rfl) ?_
  repeat (go_big_quiet_step (first|(go_at_call 109;exact ch _)|(go_at_call 75;exact ci _)))
  (refine wpQuiet_nil ?_);intro _ hw';(obtain⟨pw,hw''⟩:=hw');subst hw''
  go_wp2
  go_ret
  exact⟨rfl,HB.out.trans (pw.h.mono HB.out.size)⟩
end
section
variable {w:World} {pb:Nat} {L:List (Nd × Nat)} {E:List Nat} {mr:Int} {pm:List (ByteArray × Nat)} {lv ev:Value} {mp mt mc:Nat} {ov sv pv:Value} {bs:List Nat} {c:Sc} {B:Nat}
theorem Pr.around(h:Pr w pb L E mr pm lv ev mp mt mc ov sv pv bs c B)(s:ByteArray):Calls prog 110 #[.pointer (some ⟨pb,0,none⟩),.string s] w λe w'=>e=.returned (.bool (Ku c s))/\w'=w:=
 iG w pb lv ev mr mp mt ov sv pv mc h.blk B c h.lps (by have:=h.few;omega) s
theorem Pr.args(h:Pr w pb L E mr pm lv ev mp mt mc ov sv pv bs c B)(s:ByteArray):Calls prog 112 #[.pointer (some ⟨pb,0,none⟩),.string s] w λe w'=>e=.returned (.tuple #[.int .i64 (((Gp Am pm s).getD 0:Nat):Int),.bool (Gp Am pm s).isSome])/\Below w.heap.size w w':=
 yE w pb lv ev mr mp mt ov sv pv mc h.blk pm h.par s
theorem wU(h:Pr w pb L E mr pm lv ev mp mt mc ov sv pv bs c B)(n:Nd)(kids:Nat)(hk:n.kind=10\/n.kind=12) :
  Calls prog 70 #[.pointer (some ⟨pb,0,none⟩),Ai n kids] w λe w'=>e=.returned (.bool (Gh Am c n))/\Below w.heap.size w w':=by
 obtain⟨q,hq⟩:∃q,Gh Am c n=q:=⟨_,rfl⟩
 rw[hq]
 unfold Gh at hq
 rw[if_neg (by omega),if_neg (by omega),if_pos hk] at hq
 (have bw:Below w.heap.size w (w.alloc (Ab n kids)):=(z0z _ w).alloc (z1z _) _);(have hn:=z2z w (Ab n kids));(have hp:=h.below bw);(obtain⟨k,a,t,i,b⟩:=n);simp only[Ai,Ab] at *
 have ca:=hp.around t
 generalize Ku c t=ar at *
 clear hp h hn
 rcases hk with rfl|rfl
 all_goals
  cases ht:(t.toList==[])
  all_goals
   rw[ht] at hq
   subst hq
   go_enter func70,ntmps70
   go_wp2_with (go_at_call 110;(with_reducible refine ca.mono ?_);rintro e w1 ⟨rfl,hw⟩;(have hw':=hw.symm);subst hw';clear hw ca)
   go_ret
   exact⟨by first|rfl|simp,bw⟩
theorem AB3(h:Pr w pb L E mr pm lv ev mp mt mc ov sv pv bs c B)(n:Nd)(kids:Nat)(h2:n.kind≠2)(h3:n.kind≠3)(h4:n.kind≠4)(h6:n.kind≠6)(h10:n.kind≠10)(h12:n.kind≠12) :
  Calls prog 70 #[.pointer (some ⟨pb,0,none⟩),Ai n kids] w λe w'=>e=.returned (.bool (Gh Am c n))/\Below w.heap.size w w':=by
 have hq:Gh Am c n=false:=by unfold Gh;rw[if_neg (by omega),if_neg (by omega),if_neg (by omega)]
 rw[hq]
 (have bw:Below w.heap.size w (w.alloc (Ab n kids)):=(z0z _ w).alloc (z1z _) _);(have hn:=z2z w (Ab n kids));(have hp:=h.below bw);(obtain⟨k,a,t,i,b⟩:=n);simp only[Ai,Ab] at *
 have b2:(k==2)=false:=by simpa using h2
 have b3:(k==3)=false:=by simpa using h3
 have b4:(k==4)=false:=by simpa using h4
 have b6:(k==6)=false:=by simpa using h6
 have b10:(k==10)=false:=by simpa using h10
 have b12:(k==12)=false:=by simpa using h12
 clear hp h hn hq h2 h3 h4 h6 h10 h12
 go_enter func70,ntmps70
 go_wp2
 go_ret
 exact⟨rfl,bw⟩
theorem sM(h:Pr w pb L E mr pm lv ev mp mt mc ov sv pv bs c B)(n:Nd)(kids:Nat) :
  Calls prog 70 #[.pointer (some ⟨pb,0,none⟩),Ai n kids] w λe w'=>e=.returned (.bool (Gh Am c n))/\Below w.heap.size w w':=by
 by_cases h1:n.kind=2\/n.kind=3
 ·exact ACt h n kids h1
 by_cases h2:n.kind=4\/n.kind=6
 ·exact nN h n kids h2
 by_cases h3:n.kind=10\/n.kind=12
 ·exact wU h n kids h3
 exact AB3 h n kids (by omega) (by omega) (by omega) (by omega) (by omega) (by omega)
theorem oJ(h:Pr w pb L E mr pm lv ev mp mt mc ov sv pv bs c B)(n:Nd)(kids:Nat)(hk:n.kind=25\/n.kind=7) :
  Calls prog 71 #[.pointer (some ⟨pb,0,none⟩),Ai n kids] w λe w'=>e=.returned (.bool (Ir Am pm c n))/\Below w.heap.size w w':=by
 obtain⟨q,hq⟩:∃q,Ir Am pm c n=q:=⟨_,rfl⟩
 rw[hq]
 unfold Ir at hq
 rw[if_pos hk] at hq
 (have bw:Below w.heap.size w (w.alloc (Ab n kids)):=(z0z _ w).alloc (z1z _) _);(have hn:=z2z w (Ab n kids));(have hp:=h.below bw);(obtain⟨k,a,t,i,b⟩:=n);simp only[Ai,Ab] at *
 have HP:=hid hp
 have HN:=hid hn
 clear hn hp h
 rcases hk with rfl|rfl
 all_goals
  go_enter func71,ntmps71
  go_upto_region 4 with fail
  generalize hW:World.alloc w _=W at *
  have h1:=HP.out
  obtain⟨g,cap,rfl,hg,hm⟩:=h1.maps
  have c6:=BW.cell (show W.cell? ⟨pb,6,none⟩=some (.slice (some ⟨g,0,none⟩) bs.reverse.length cap) from AU h1.blk 6)
  have cn:=BW.cell (show W.cell? ⟨w.heap.size,3,none⟩=some (.string t) from AU HN.out 3)
  have hl:bs.reverse.length<=1000000:=by have:=h1.few;have:=h1.blen;simp;omega
  have ck:=λ(p:BW W)=>BW.calls (p:=p) (AAq p.w' g cap bs.reverse c.scs.reverse t ⟨hm.len,λi b hb=>(p.h.cell (p:=⟨g,i,none⟩) hg).trans (hm.cell i b hb),λi b l hb hl=>(hm.map i b l hb hl).below p.h⟩ (z7z hg p.h.size) hl)
  rw[List.any_reverse] at ck
  generalize (c.scs.any λl=>DN l t)=hs at *
  generalize bs.reverse.length=ln at *
  have HB:=hid bw
  have inst:Nonempty (BW W):=⟨⟨_,z0z _ _⟩⟩
  clear HP HN h1 bw hW hm hl hg
  subst hq
  cases hs
  all_goals
   refine Ji (by kernel_rfl) (by kernel_rfl) ?_
   repeat (go_big_quiet_step (first|(go_at_call 111;exact ck _)))
   (refine wpQuiet_nil ?_);intro _ hw';(obtain⟨pw,hw''⟩:=hw');subst hw''
   go_wp2
   go_ret
   exact⟨by first|rfl|simp,HB.out.trans (pw.h.mono HB.out.size)⟩
theorem ABO(h:Pr w pb L E mr pm lv ev mp mt mc ov sv pv bs c B)(n:Nd)(kids:Nat)(hk:n.kind=23) :
  Calls prog 71 #[.pointer (some ⟨pb,0,none⟩),Ai n kids] w λe w'=>e=.returned (.bool (Ir Am pm c n))/\Below w.heap.size w w':=by
 obtain⟨q,hq⟩:∃q,Ir Am pm c n=q:=⟨_,rfl⟩
 rw[hq]
 unfold Ir at hq
 rw[if_neg (by omega),if_pos hk] at hq
 (have bw:Below w.heap.size w (w.alloc (Ab n kids)):=(z0z _ w).alloc (z1z _) _);(have hn:=z2z w (Ab n kids));(have hp:=h.below bw);(obtain⟨k,a,t,i,b⟩:=n);simp only[Ai,Ab] at *
 have ca:=hp.args t
 have e:(Gp Am pm t).isNone = !(Gp Am pm t).isSome:=by cases Gp Am pm t <;> rfl
 rw[e] at hq
 generalize (Gp Am pm t).isSome=r at *
 generalize (Gp Am pm t).getD 0=d at *
 subst hk
 clear hp h hn e
 subst hq
 go_enter func71,ntmps71
 go_wp2_with (go_at_call 112;(with_reducible refine ca.mono ?_);rintro e w1 ⟨rfl,hB1⟩;(have HB:=hid (bw.trans (hB1.mono bw.size)));clear hB1 ca bw)
 go_ret
 exact⟨rfl,HB.out⟩
theorem AAG(h:Pr w pb L E mr pm lv ev mp mt mc ov sv pv bs c B)(n:Nd)(kids:Nat) :
  Calls prog 71 #[.pointer (some ⟨pb,0,none⟩),Ai n kids] w λe w'=>e=.returned (.bool (Ir Am pm c n))/\Below w.heap.size w w':=by
 by_cases h1:n.kind=25\/n.kind=7
 ·exact oJ h n kids h1
 by_cases h2:n.kind=23
 ·exact ABO h n kids h2
 have hq:Ir Am pm c n=false:=by unfold Ir;rw[if_neg h1,if_neg h2]
 rw[hq]
 (have bw:Below w.heap.size w (w.alloc (Ab n kids)):=(z0z _ w).alloc (z1z _) _);(have hn:=z2z w (Ab n kids));(have hp:=h.below bw);(obtain⟨k,a,t,i,b⟩:=n);simp only[Ai,Ab] at *
 have b2:(k==25)=false:=by simp;omega
 have b3:(k==7)=false:=by simp;omega
 have b4:(k==23)=false:=by simp;omega
 clear hp h hn hq h1 h2
 go_enter func71,ntmps71
 go_wp2
 go_ret
 exact⟨rfl,bw⟩
end
end Go.Proofs.YtjplieobnknnpaaGreatDoor.W.Tr
