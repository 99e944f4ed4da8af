/- Part of the proof. -/
import Derived.Test.YtmggaclaoefdaabGreatGBA
namespace Go.Proofs.YtmggaclaoefdaabGreat
open Go.RowKit Go.Proofs.Tryz
set_option linter.unusedVariables false
set_option linter.unusedSimpArgs false
set_option maxRecDepth 100000
set_option maxHeartbeats 8000000
section
open Go.Shelf
attribute [local go_sem] Oper.semAt_some
def Kd (B b:Nat) (W W':World):Prop:=W.heap.size<=W'.heap.size/\W'.heap[B]?=W.heap[B]?/\W'.heap[b]?=W.heap[b]?
theorem Kd.t {B b:Nat} {A C D:World} (h:Kd B b A C) (k:Kd B b C D):Kd B b A D:=⟨lT h.1 k.1,k.2.1.trans h.2.1,k.2.2.trans h.2.2⟩
theorem Kd.b {B b:Nat} {w:World} (hB:B<w.heap.size) (hb:b<w.heap.size) (W:World) (l:Nat) (o o':Obj) (hl:w.heap.size<=l) (_:W.heap[l]?=some o) (_:o.isCells=false) (_:o.isWalk=false):Kd B b W (W.putObj l o'):=
 ⟨by simp[World.putObj],World.putObj_heap_other (by omega),World.putObj_heap_other (by omega)⟩
def ke (n:Nat):List Nat:=(List.range n).reverse
theorem te (n:Nat):(ke n).length=n:=by simp[ke]
theorem Pl {n k:Nat} (h:k<(ke n).length):(ke n)[k]=n-1-k:=by simp[ke]
def Jv (f:Nat->Tm) (i:Nat):Array Value:= #[iV (i:Int),.agg #[iV (f i).v,.string (f i).nm,.slice (f i).a (f i).len (f i).cap]]
theorem Re {len:Nat} {f:Nat->Tm} (n:Nat) (l B b:Nat) (sa:Option Addr) (cp:Nat) (J Jx:List (Cx len)->World->Prop) (xs:List (Cx len)) (hxs:bh xs=ke len)
 (W:World) (hlb:len<=1000000)
 (hY: ∀ci x W,J ci W->ci.length<len->YieldAt Fence.wide (n-1) prog l (Jv f x.1) W fun e W'=>
   (e=.returned (.bool true)/\J (ci++ [x]) W'/\Kd B b W W')\/(e=.returned (.bool false)/\Jx (ci++ [x]) W'))
 (hB:W.heap[B]?=some (.cells #[.slice sa len cp] 24)) (hs: ∀k,k<len->fe W sa k (f k)) (hb: ∀bb o,sa=some ⟨bb,o,none⟩->0<len->bb=b) (hJ0:J [] W):
 CallsIn Fence.wide n prog 128 #[.func (.yield l) #[] #[],.pointer (some ⟨B,0,none⟩)] W fun e W'=>(∃v,e=.returned v)/\
  ((∃ys,bh ys=ke len/\J ys W')\/(∃ci,bh ci <+:ke len/\Jx ci W')):=by
 have hb0:=fv hB
 have HY:Hid (∀ci x W,J ci W->ci.length<len->YieldAt Fence.wide (n-1) prog l (Jv f x.1) W fun e W'=>
  (e=.returned (.bool true)/\J (ci++ [x]) W'/\Kd B b W W')\/(e=.returned (.bool false)/\Jx (ci++ [x]) W')):=hY
 have HS:=hid hs;have HBb:=hid hb;have HJ0:=hid hJ0;have HBx:=hid hB;have HXs:=hid hxs
 have hxl:xs.length=len:=by
  have h1:=congrArg List.length hxs;rw[te]at h1;have h2:(bh xs).length=xs.length:=by simp[bh]
  omega
 have hw1:IntKind.i64.wrap ((len:Int)-1)=(len:Int)-1:=by simp[IntKind.wrap,IntKind.bits,IntKind.signed];omega
 clear hY hs hJ0 hB hb hxs;refine callsIn_of_wp Tryz.func128 rfl trivial ?_ rfl;simp only[Tryz.ntmps128,List.size_toArray,List.length_cons,List.length_nil,Nat.reduceAdd,Nat.reduceSub,Array.replicate_succ,Array.replicate_zero,List.push_toArray,List.append_toArray,List.nil_append,List.cons_append]
 gi_wp2
 gi_loopw [3] (fun p wr=>∃(k:Nat) (jj:Int),k<=len/\jj=(len:Int)-1-(k:Int)/\p=iV jj/\J (xs.take k) wr/\wr.heap[B]?=W.heap[B]?/\wr.heap[b]?=W.heap[b]?) (fun p _=>(intOf p+1).toNat)
 case atStart=>exact ⟨0,(len:Int)-1,oZ,by simp,rfl,HJ0.o,rfl,rfl⟩
 case round=>
  obtain ⟨k,jj,hkm,hjj,rfl,hJk,hBk,hbk⟩:=hrel;clear hb0 hw1;have HJk:=hid hJk;have HBk:=hid hBk;have Hbk:=hid hbk;have HJJ:=hid hjj;clear hJk hBk hbk
  by_cases hlt:k<len
  case neg=>
   have hke: ¬(0:Int)<=jj:=by omega
   clear hjj
   gi_wp2
   go_end0
   exact ⟨⟨_,rfl⟩,.inl ⟨xs,HXs.o,by have:=HJk.o;rw[List.take_of_length_le (by omega)]at this;exact this⟩⟩
  .obtain ⟨i,rfl⟩: ∃i:Nat,jj=i:=⟨jj.toNat,by omega⟩
   have hil:i<len:=by omega
   have HI:Hid (i=len-1-k):=by rw[Hid];omega
   clear hjj;obtain ⟨b',o,rfl,c0,c1,c2⟩:=HS.o i hil;obtain rfl:b'=b:=HBb.o b' o rfl (by omega)
   have d0:=(cB (w:=W) (w':=wr) (a:=(dZ b' (o+i*3))) Hbk.o).trans c0;have d1:=(cB (w:=W) (w':=wr) (a:=(dZ b' (o+i*3+1))) Hbk.o).trans c1;have d2:=(cB (w:=W) (w':=wr) (a:=(dZ b' (o+i*3+2))) Hbk.o).trans c2;have e0:=fv (HBk.o.trans HBx.o);have hkx:k<xs.length:=by omega
   obtain ⟨fn,tmps,assign,body,hy,hR⟩:=HY.o (xs.take k) xs[k] wr HJk.o (by rw[List.length_take];omega)
   have hxv:xs[k].1=i:=by
    have h1:(bh xs)[k]'(by rw[HXs.o,te];exact hlt)=i:=by
     simp only[HXs.o];rw[Pl,HI.o]
    simpa[bh]using h1
   rw[hxv,Jv]at hy;have Hxk:=hid (List.take_succ_eq_append_getElem hkx);generalize xs[k]=x at*;have hI0:(0:Int)<=(i:Int):=by omega
   have hiI:(i:Int)<(len:Int):=by omega
   have hw1:IntKind.i64.wrap ((i:Int)-1)=(i:Int)-1:=by simp[IntKind.wrap,IntKind.bits,IntKind.signed];omega
   clear c0 c1 c2 hxv
   gi_wp2
   refine ⟨fun h=>(by cases h),?_⟩
   refine hR.mono ?_;rintro e W3 (⟨rfl,hJ3,hk3⟩| ⟨rfl,hJx3⟩)
   .have HJ3:=hid hJ3
    have HK3:=hid hk3;clear hJ3 hk3 d0 d1 d2 e0
    gi_wp2
    go_roundw
    case rel=>exact ⟨k+1,_,by omega,by have:=HJJ.o;omega,rfl,by rw[Hxk.o];exact HJ3.o,HK3.o.2.1.trans HBk.o,HK3.o.2.2.trans Hbk.o⟩
    case measure=>simp[intOf]
   .gi_wp2
    refine bodyPost_ret (results_none rfl _ _ _) rfl ?_;refine ⟨⟨_,rfl⟩,.inr ⟨xs.take k++ [x],?_,hJx3⟩⟩;rw[<-Hxk.o,<-HXs.o];unfold bh;rw[List.map_take];exact List.take_prefix _ _
def R1 (lb:Array Value) (f:Nat->Tm) (len B b:Nat) (w:World):Prop:=∀n,SeqStopsK Fence.wide n prog 128 lb (fun x:Cx len=>Jv f x.1) (Kd B b) (fun ys=>bh ys=ke len) (fun ci=>bh ci <+:ke len) len w
theorem Rc {len:Nat} {f:Nat->Tm} (B b:Nat) (sa:Option Addr) (cp:Nat) (hlb:len<=1000000) (w:World) (hB:w.heap[B]?=some (.cells #[.slice sa len cp] 24)) (hs: ∀k,k<len->fe w sa k (f k)) (hb: ∀bb o,sa=some ⟨bb,o,none⟩->0<len->bb=b):R1 #[.pointer (some ⟨B,0,none⟩)] f len B b w:=fun n l J Jx W hW hJ hJx hY h0=>by
 obtain ⟨xs,hxs⟩:=sn (p:=fun x=>x<len) (ke len) (fun x hx=>by simpa[ke]using hx)
 exact Re n l B b sa cp J Jx xs hxs W hlb (fun ci x W hj hl=>hY ci x W hj hl) ((hW.block _ (aZ hB)).trans hB) (fun k hk=>(hs k hk).below hW) hb h0
theorem Rd (sa:Option Addr) (n cp:Nat) (w:World):
 Calls prog 95 #[.slice sa n cp] w fun e w'=>e=.returned (.func (.func 128) #[] #[.pointer (some ⟨w.heap.size,0,none⟩)])/\w'=w.alloc (.cells #[.slice sa n cp] 24):=by
 go_enter Tryz.func95,Tryz.ntmps95
 go_wp2_with fail;go_ret;exact ⟨rfl,rfl⟩
end
theorem Mz {v:Int} {nm:ByteArray} {a:Option Addr} {len cap:Nat} {f:Nat->Tm} (h:iz (.mk v nm a len cap f)=0):e9 v nm len=0/\∀i,i<len->iz (f i)=0:=by
 have hp:e9 v nm len=0:=by
  by_cases hp:e9 v nm len=0
  .exact hp
  .rw[iz,if_neg hp]at h;exact h
 rw[iz,if_pos hp]at h;refine ⟨hp,fun i hi=>?_⟩
 have h0:=gm (fun i=>iz (f i)) (Nat.le_of_lt hi) h
 have h1:=gm (fun i=>iz (f i)) (show i+1<=len from hi) h
 rw[fst,if_pos h0]at h1;exact h1
theorem Ln {nm:ByteArray} {len:Nat} (h:e9 0 nm len=0):fw nm=true/\len<=4/\¬(nm.toList= [33]/\0<len):=by
 unfold e9 at h;rw[if_neg (by simp)]at h
 by_cases h1:fw nm=false
 .rw[if_pos h1]at h;omega
 .rw[if_neg h1]at h
  by_cases h2:4<len
  .rw[if_pos h2]at h;omega
  .rw[if_neg h2]at h
   by_cases h3:nm.toList= [33]/\0<len
   .rw[if_pos h3]at h;omega
   .exact ⟨by simpa using h1,by omega,h3⟩
theorem El {nm:ByteArray} (h:fw nm=true):nm.size<=8:=by
 unfold fw at h
 rcases Bool.or_eq_true _ _▸h with h|h
 .have h1:nm.toList= [33]:=by simpa using h
  have:nm.toList.length=nm.size:=by rw[ByteArray.toList_eq];rfl
  rw[h1]at this;simp at this;omega
 .unfold ju at h
  simp only[Bool.and_eq_true,decide_eq_true_eq]at h;exact h.1.1.2
theorem B1 {l:List Cl} {i:Nat} {c:Cl} (hi:i<l.length) (j:Nat):ah (l.set i c) j=if j=i then c else ah l j:=by
 unfold ah;rw[List.getD_eq_getElem?_getD,List.getD_eq_getElem?_getD,List.getElem?_set]
 by_cases h:i=j
 .subst h;simp[hi]
 .rw[if_neg h,if_neg (fun e=>h e.symm)]
theorem pt {l r:List Cl} (j:Nat):ah (l++r) j=if j<l.length then ah l j else ah r (j-l.length):=by
 unfold ah;rw[List.getD_eq_getElem?_getD,List.getD_eq_getElem?_getD,List.getD_eq_getElem?_getD,List.getElem?_append]
 by_cases h:j<l.length
 .rw[if_pos h,if_pos h]
 .rw[if_neg h,if_neg h]
theorem Mm {h:Nat->Cl} {len i:Nat} (hi:i<len):ah ((List.range len).map h) i=h i:=by
 unfold ah;simp[hi]
def Bd (h:Nat->Cl) (σ:Int->Option Int) (lo hi:Nat):Tm->Nat->Prop
 | .nil,_=>False
 | .mk v nm _ len _ f,c=>(v≠0->σ v=some (c:Int))/\(v=0->lo<=c/\c+1+len<=hi/\h c=⟨2,len,nm⟩/\∀j,j<len->∃d:Nat,h (c+1+j)=fa d/\d≠c+1+j/\Bd h σ lo hi (f j) d)
theorem Bd.mono {h h':Nat->Cl} {σ σ':Int->Option Int} {lo lo' hi hi':Nat} (hag: ∀i,lo<=i->i<hi->h' i=h i) (hσ: ∀v c,σ v=some c->σ' v=some c) (hlo:lo'<=lo) (hhi:hi<=hi') (T:Tm): ∀c,Bd h σ lo hi T c->Bd h' σ' lo' hi' T c:=by
 induction T with
 |nil=>intro c H;exact H
 |mk v nm a len cap f ih=>
  intro c H;refine ⟨fun hv=>hσ _ _ (H.1 hv),fun hv=>?_⟩
  obtain ⟨h1,h2,h3,h4⟩:=H.2 hv;refine ⟨by omega,by omega,(hag c h1 (by omega)).trans h3,fun j hj=>?_⟩
  obtain ⟨d,e1,e2,e3⟩:=h4 j hj;exact ⟨d,(hag _ (by omega) (by omega)).trans e1,e2,ih j d e3⟩
def CO (L0:Nat) (p:HSt) (x:Nat):Prop:=(∃y:Nat,ah p.1 x=fa y/\y<p.1.length/\(y=x\/y<L0\/x<y\/∃v,p.2 v=some (y:Int)))\/(∃(n:Nat) (nm:ByteArray),ah p.1 x=⟨2,n,nm⟩/\n<=4/\fw nm=true/\¬(nm.toList= [33]/\0<n)/\x+n<p.1.length/\∀j,j<n->(ah p.1 (x+1+j)).k=1)
structure li (L0:Nat) (p:HSt):Prop where
 var: ∀v c,p.2 v=some c->∃y:Nat,c=y/\y<p.1.length/\(L0<=y->ah p.1 y=fa y)
 cel: ∀x,L0<=x->x<p.1.length->CO L0 p x
 low:L0<=p.1.length
structure ws (L0:Nat) (p:HSt) (T:Tm) (q:HSt × Int):Prop where
 inv:li L0 q.1
 len:p.1.length<=q.1.1.length
 old: ∀i,i<p.1.length->ah q.1.1 i=ah p.1 i
 up: ∀v c,p.2 v=some c->q.1.2 v=some c
 new: ∀v c,q.1.2 v=some c->p.2 v=some c\/(p.1.length:Int)<=c
 at_: ∃t:Nat,q.2=t/\t<q.1.1.length/\Bd (ah q.1.1) q.1.2 p.1.length q.1.1.length T t
theorem Oo {L0:Nat} {v:Int} {nm:ByteArray} {a:Option Addr} {len cap:Nat} {f:Nat->Tm} (hv:v≠0) {p:HSt} (I:li L0 p):ws L0 p (.mk v nm a len cap f) (kt v p):=by
 unfold kt
 cases hσ:p.2 v with
 |some c=>
  obtain ⟨y,rfl,hy,_⟩:=I.var v c hσ;exact ⟨I,lZ,fun _ _=>rfl,fun _ _ h=>h,fun _ _ h=> .inl h,y,rfl,hy,fun _=>hσ,fun h=>absurd h hv⟩
 |none=>
  have hlow:=I.low;have hL:(p.1++ [fa p.1.length]).length=p.1.length+1:=by simp
  have hO: ∀i,i<p.1.length->ah (p.1++ [fa p.1.length]) i=ah p.1 i:=fun i hi=>by rw[pt,if_pos hi]
  have hN:ah (p.1++ [fa p.1.length]) p.1.length=fa p.1.length:=by rw[pt,if_neg (by omega),Nat.sub_self];rfl
  have hu: ∀u c,p.2 u=some c->lv p.2 v p.1.length u=some c:=fun u c h=>by
   unfold lv;rw[if_neg (fun e=>by rw[e,hσ]at h;cases h)]
   exact h
  have hn: ∀u c,lv p.2 v p.1.length u=some c->p.2 u=some c\/c=(p.1.length:Int):=fun u c h=>by
   unfold lv at h
   by_cases e:u=v
   .rw[if_pos e]at h;exact .inr (oj h).symm
   .rw[if_neg e]at h;exact .inl h
  refine ⟨⟨?_,?_,?_⟩,?_,hO,hu,?_,p.1.length,rfl,?_,fun _=>?_,fun h=>absurd h hv⟩
  .intro u c h
   rcases hn u c h with h|h
   .obtain ⟨y,e,hy,h9⟩:=I.var u c h
    exact ⟨y,e,by show y<(p.1++ [fa p.1.length]).length;omega,fun h8=>(hO y hy).trans (h9 h8)⟩
   .exact ⟨p.1.length,h,by show _<(p.1++ [fa p.1.length]).length;omega,fun _=>hN⟩
  .intro x hx hx'
   have hx2:x<p.1.length+1:=by rw[<-hL];exact hx'
   by_cases hxl:x<p.1.length
   .rcases I.cel x hx hxl with ⟨y,h1,h2,h3⟩| ⟨n,m,h1,h2,h3,h4,h5,h6⟩
    .refine .inl ⟨y,(hO x hxl).trans h1,by show y<(p.1++ [fa p.1.length]).length;omega,?_⟩
     rcases h3 with h3|h3|h3| ⟨u,h3⟩
     .exact .inl h3
     .exact .inr (.inl h3)
     .exact rZ (.inl h3)
     .exact rZ (.inr ⟨u,hu _ _ h3⟩)
    .exact .inr ⟨n,m,(hO x hxl).trans h1,h2,h3,h4,by show _<(p.1++ [fa p.1.length]).length;omega,fun j hj=>by show (ah (p.1++ [fa p.1.length]) _).k=1;rw[hO _ (by omega)];exact h6 j hj⟩
   .obtain rfl:x=p.1.length:=by omega
    exact .inl ⟨p.1.length,hN,by show _<(p.1++ [fa p.1.length]).length;omega,.inl rfl⟩
  .show L0<=(p.1++ [fa p.1.length]).length;omega
  .show p.1.length<=(p.1++ [fa p.1.length]).length;omega
  .intro u c h
   rcases hn u c h with h|h
   .exact .inl h
   .exact .inr (by omega)
  .show p.1.length<(p.1++ [fa p.1.length]).length;omega
  .show lv p.2 v p.1.length v=_
   unfold lv;rw[if_pos rfl]
structure Nx (L0:Nat) (p:HSt) (nm:ByteArray) (len:Nat) (f:Nat->Tm) (k:Nat) (s:HSt):Prop where
 inv:li L0 s
 big:p.1.length+1+len<=s.1.length
 old: ∀i,i<p.1.length->ah s.1 i=ah p.1 i
 fn:ah s.1 p.1.length=⟨2,len,nm⟩
 fr: ∀j,k<=j->j<len->ah s.1 (p.1.length+1+j)=fa (p.1.length+1+j:Nat)
 done: ∀j,j<k->∃d:Nat,ah s.1 (p.1.length+1+j)=fa d/\d≠p.1.length+1+j/\Bd (ah s.1) s.2 (p.1.length+1+len) s.1.length (f j) d
 up: ∀v c,p.2 v=some c->s.2 v=some c
 new: ∀v c,s.2 v=some c->p.2 v=some c\/((p.1.length+1+len:Nat):Int)<=c
theorem Pc {at' k j:Nat} (hj:j<k):ah (j4 at' k) j=fa (at'+1+j:Nat):=by
 unfold ah j4;simp[hj]
theorem Ll {L0:Nat} {p:HSt} {nm:ByteArray} {len:Nat} {f:Nat->Tm} (I:li L0 p) (hp:fw nm=true/\len<=4/\¬(nm.toList= [33]/\0<len)):Nx L0 p nm len f 0 (p.1++(⟨2,len,nm⟩::j4 p.1.length len),p.2):=by
 have hlow:=I.low;have hL:(p.1++((⟨2,len,nm⟩:Cl)::j4 p.1.length len)).length=p.1.length+1+len:=by simp[j4];omega
 have hO: ∀i,i<p.1.length->ah (p.1++((⟨2,len,nm⟩:Cl)::j4 p.1.length len)) i=ah p.1 i:=fun i hi=>by rw[pt,if_pos hi]
 have hF:ah (p.1++((⟨2,len,nm⟩:Cl)::j4 p.1.length len)) p.1.length=⟨2,len,nm⟩:=by rw[pt,if_neg (by omega),Nat.sub_self];rfl
 have hR: ∀j,j<len->ah (p.1++((⟨2,len,nm⟩:Cl)::j4 p.1.length len)) (p.1.length+1+j)=fa (p.1.length+1+j:Nat):=fun j hj=>by
  rw[pt,if_neg (by omega),show p.1.length+1+j-p.1.length=j+1 from by omega]
  exact Pc hj
 refine ⟨⟨?_,?_,?_⟩,?_,hO,hF,fun j _ hj=>hR j hj,fun j hj=>absurd hj (nL j),fun _ _ h=>h,fun _ _ h=> .inl h⟩
 .intro v c h
  obtain ⟨y,e,hy,h9⟩:=I.var v c h;exact ⟨y,e,by show y<(p.1++((⟨2,len,nm⟩:Cl)::j4 p.1.length len)).length;omega,fun h8=>(hO y hy).trans (h9 h8)⟩
 .intro x hx hx'
  have hx2:x<p.1.length+1+len:=by rw[<-hL];exact hx'
  by_cases hxl:x<p.1.length
  .rcases I.cel x hx hxl with ⟨y,h1,h2,h3⟩| ⟨n,m,h1,h2,h3,h4,h5,h6⟩
   .exact .inl ⟨y,(hO x hxl).trans h1,by show y<(p.1++((⟨2,len,nm⟩:Cl)::j4 p.1.length len)).length;omega,h3⟩
   .exact .inr ⟨n,m,(hO x hxl).trans h1,h2,h3,h4,by show _<(p.1++((⟨2,len,nm⟩:Cl)::j4 p.1.length len)).length;omega,fun j hj=>by show (ah (p.1++((⟨2,len,nm⟩:Cl)::j4 p.1.length len)) _).k=1;rw[hO _ (by omega)];exact h6 j hj⟩
  .by_cases hxe:x=p.1.length
   .subst hxe
    exact .inr ⟨len,nm,hF,hp.2.1,hp.1,hp.2.2,by show _<(p.1++((⟨2,len,nm⟩:Cl)::j4 p.1.length len)).length;omega,fun j hj=>by show (ah (p.1++((⟨2,len,nm⟩:Cl)::j4 p.1.length len)) _).k=1;rw[hR j hj];rfl⟩
   .obtain ⟨j,rfl⟩: ∃j,x=p.1.length+1+j:=⟨x-p.1.length-1,by omega⟩
    exact .inl ⟨p.1.length+1+j,hR j (by omega),hx',.inl rfl⟩
 .show L0<=(p.1++((⟨2,len,nm⟩:Cl)::j4 p.1.length len)).length;omega
 .show _<=(p.1++((⟨2,len,nm⟩:Cl)::j4 p.1.length len)).length;omega
theorem Ot {L0:Nat} {p:HSt} {nm:ByteArray} {len:Nat} {f:Nat->Tm} {k:Nat} {s:HSt} (I:li L0 p) (H:Nx L0 p nm len f k s) (hk:k<len) {q:HSt × Int} (Q:ws L0 s (f k) q):
 Nx L0 p nm len f (k+1) (q.1.1.set (p.1.length+1+k) (setN (ah q.1.1 (p.1.length+1+k)) q.2),q.1.2):=by
 have hlow:=I.low;have hbig:=H.big;have hql:=Q.len;obtain ⟨t,ht,htl,hB⟩:=Q.at_;have hpos:p.1.length+1+k<q.1.1.length:=by omega
 have hcell:=(Q.old _ (by omega)).trans (H.fr k lZ hk)
 have hset:setN (ah q.1.1 (p.1.length+1+k)) q.2=fa t:=by rw[hcell,ht];rfl
 rw[hset];have hS: ∀j,ah (q.1.1.set (p.1.length+1+k) (fa t)) j=if j=p.1.length+1+k then fa t else ah q.1.1 j:=B1 hpos
 have hSn: ∀j,j≠p.1.length+1+k->ah (q.1.1.set (p.1.length+1+k) (fa t)) j=ah q.1.1 j:=fun j hj=>by rw[hS,if_neg hj]
 have hL:(q.1.1.set (p.1.length+1+k) (fa t)).length=q.1.1.length:=by simp
 have hvar: ∀v c,q.1.2 v=some c->∃y:Nat,c=y/\y<q.1.1.length/\(y<p.1.length\/p.1.length+1+len<=y):=fun v c h=>by
  obtain ⟨y,e,hy,_⟩:=Q.inv.var v c h;refine ⟨y,e,hy,?_⟩
  rcases Q.new v c h with h1|h1
  .rcases H.new v c h1 with h2|h2
   .obtain ⟨y',e',hy',_⟩:=I.var v c h2
    exact .inl (by omega)
   .exact .inr (by omega)
  .exact .inr (by omega)
 have hkind:(∃v,q.1.2 v=some (t:Int))\/s.1.length<=t:=by
  generalize f k=T at hB
  cases T with
  |nil=>exact hB.elim
  |mk v _ _ _ _ _=>
   by_cases hv:v=0
   .exact .inr (hB.2 hv).1
   .exact .inl ⟨v,hB.1 hv⟩
 have htne:t≠p.1.length+1+k:=by
  rcases hkind with ⟨v,h⟩|h
  .obtain ⟨y,e,_,h2⟩:=hvar v _ h
   omega
  .omega
 refine ⟨⟨?_,?_,?_⟩,?_,?_,?_,?_,?_,fun v c h=>Q.up _ _ (H.up _ _ h),?_⟩
 .intro v c h
  obtain ⟨y,e,hy,h2⟩:=hvar v c h;obtain ⟨y',e',_,h3⟩:=Q.inv.var v c h;obtain rfl:y=y':=by omega
  exact ⟨y,e,by show y<(q.1.1.set _ _).length;omega,fun h8=>(hSn y (by omega)).trans (h3 h8)⟩
 .intro x hx hx'
  have hx2:x<q.1.1.length:=by rw[<-hL];exact hx'
  by_cases hxe:x=p.1.length+1+k
  .refine .inl ⟨t,(hS x).trans (if_pos hxe),by show t<(q.1.1.set _ _).length;omega,?_⟩
   rcases hkind with h|h
   .exact rZ (.inr h)
   .exact rZ (.inl (by omega))
  .rcases Q.inv.cel x hx hx2 with ⟨y,h1,h2,h3⟩| ⟨n,m,h1,h2,h3,h4,h5,h6⟩
   .exact .inl ⟨y,(hSn x hxe).trans h1,by show y<(q.1.1.set _ _).length;omega,h3⟩
   .refine .inr ⟨n,m,(hSn x hxe).trans h1,h2,h3,h4,by show _<(q.1.1.set _ _).length;omega,fun j hj=>?_⟩
    show (ah (q.1.1.set _ _) _).k=1
    rw[hS]
    split
    .rfl
    .exact h6 j hj
 .show L0<=(q.1.1.set _ _).length
  have:=Q.inv.low;omega
 .show _<=(q.1.1.set _ _).length;omega
 .intro i hi
  exact (hSn i (by omega)).trans ((Q.old i (by omega)).trans (H.old i hi))
 .exact (hSn _ (by omega)).trans ((Q.old _ (by omega)).trans H.fn)
 .intro j h1 h2
  exact (hSn _ (by omega)).trans ((Q.old _ (by omega)).trans (H.fr j (by omega) h2))
 .intro j hj
  by_cases hjk:j=k
  .subst hjk
   refine ⟨t,(hS _).trans (if_pos rfl),htne,?_⟩;exact Bd.mono (fun i h1 _=>hSn i (by omega)) (fun _ _ h=>h) (by omega) (by show _<=(q.1.1.set _ _).length;omega) _ _ hB
  .obtain ⟨d,e1,e2,e3⟩:=H.done j (by omega)
   refine ⟨d,(hSn _ (by omega)).trans ((Q.old _ (by omega)).trans e1),e2,?_⟩
   exact Bd.mono (fun i h1 h2=>(hSn i (by omega)).trans (Q.old i h2)) Q.up lZ (by show _<=(q.1.1.set _ _).length;omega) _ _ e3
 .intro v c h
  rcases Q.new v c h with h1|h1
  .exact H.new v c h1
  .exact .inr (by omega)
theorem iw {L0:Nat} (T:Tm) (hT:iz T=0): ∀p:HSt,li L0 p->ws L0 p T (bp T p):=by
 induction T with
 |nil=>exact absurd hT (by decide+kernel)
 |mk v nm a len cap f ih=>
  intro p I;obtain ⟨hp,hk⟩:=Mz hT;unfold bp
  by_cases hv:v=0
  .subst hv
   rw[if_neg (by simp)]
   have hq:=Ln hp
   have hK: ∀k,k<=len->Nx L0 p nm len f k (i5 (fun i=>bp (f i)) p.1.length k (p.1++(⟨2,len,nm⟩::j4 p.1.length len),p.2)):=by
    intro k
    induction k with
    |zero=>intro _;exact Ll I hq
    |succ k ik=>
     intro hk';have h1:=ik (by omega)
     exact Ot I h1 (by omega) (ih k (hk k (by omega)) _ h1.inv)
   have H:=hK len lZ;generalize i5 (fun i=>bp (f i)) p.1.length len (p.1++(⟨2,len,nm⟩::j4 p.1.length len),p.2)=s at H
   have hbig:=H.big;refine ⟨H.inv,by show p.1.length<=s.1.length;omega,H.old,H.up,fun v c h=>?_,p.1.length,rfl,by show p.1.length<s.1.length;omega,fun h=>absurd rfl h,fun _=>⟨lZ,H.big,H.fn,fun j hj=>?_⟩⟩
   .rcases H.new v c h with h1|h1
    .exact .inl h1
    .exact .inr (by omega)
   .obtain ⟨d,e1,e2,e3⟩:=H.done j hj
    exact ⟨d,e1,e2,Bd.mono (fun i _ _=>rfl) (fun _ _ h=>h) (by omega) lZ _ _ e3⟩
  .rw[if_pos hv]
   exact Oo hv I
theorem G7 (g:Nat->Nat) {j k:Nat} (h:j<k):g j<=bj g k:=by
 have h1:bj g (j+1)=bj g j+g j:=rfl;have h2:=ml g (show j+1<=k from h)
 omega
theorem yd {h:Nat->Cl} {x y:Nat} (e:h x=fa y):leads h x=if y=x then []else [y]:=by
 unfold leads;rw[e]
 show (if (1:Int)=1 then (if ((y:Int))=x then []else [((y:Int)).toNat])else _)=_
 rw[if_pos rfl]
 by_cases hyx:y=x
 .rw[if_pos (by omega),if_pos hyx]
 .rw[if_neg (by omega),if_neg hyx]
  rfl
theorem ye {h:Nat->Cl} {x n:Nat} {nm:ByteArray} (e:h x=⟨2,n,nm⟩):leads h x=(List.range n).map fun j=>x+1+j:=by
 unfold leads;rw[e]
 show (if (2:Int)=1 then _ else _)=_
 rw[if_neg (by omega)]
 rfl
open Classical in
theorem li.acy {L0:Nat} {p:HSt} (I:li L0 p) {h:Nat->Cl} (H0:HG h L0) (hold: ∀i,i<L0->ah p.1 i=h i):Dl p.1.length (leads (ah p.1)):=by
 obtain ⟨r,hr⟩:=H0.acy;have hM: ∀x,x<L0->r x<=bj r L0:=fun x hx=>G7 r hx
 generalize bj r L0=M at hM;refine ⟨fun x=>if x<L0 then r x else if ah p.1 x=fa x then M+1 else M+2+(p.1.length-x),fun x hx y hy=>?_⟩
 by_cases hxl:x<L0
 .have e:leads (ah p.1) x=leads h x:=by unfold leads;rw[hold x hxl]
  rw[e]at hy;have hyl:=H0.ok.inn x hxl y hy;have:=hr x hxl y hy;simp only[if_pos hxl,if_pos hyl];exact this
 .have bound: ∀y,y<p.1.length->(y<L0\/x<y\/ah p.1 y=fa y)->(if y<L0 then r y else if ah p.1 y=fa y then M+1 else M+2+(p.1.length-y))<M+2+(p.1.length-x):=by
   intro y hyn h
   by_cases h1:y<L0
   .rw[if_pos h1]
    have:=hM y h1;omega
   .rw[if_neg h1]
    split
    .omega
    .rcases h with h|h|h
     .omega
     .omega
     .contradiction
  rcases I.cel x (by omega) hx with ⟨z,h1,h2,h3⟩| ⟨n,nm,h1,h2,h3,h4,h5,h6⟩
  .rw[yd h1]at hy
   by_cases hzx:z=x
   .rw[if_pos hzx]at hy;cases hy
   .rw[if_neg hzx]at hy
    obtain rfl:y=z:=by simpa using hy
    have hnx: ¬ah p.1 x=fa x:=fun e=>by
     rw[h1]at e;have:=congrArg Cl.n e;have:((y:Int))=(x:Int):=this;omega
    simp only[if_neg hxl,if_neg hnx];refine bound y h2 ?_
    rcases h3 with h3|h3|h3| ⟨v,h3⟩
    .exact absurd h3 hzx
    .exact .inl h3
    .exact .inr (.inl h3)
    .obtain ⟨y',e,hy',h9⟩:=I.var v _ h3
     obtain rfl:y=y':=by omega
     by_cases h8:y<L0
     .exact .inl h8
     .exact rZ (h9 (by omega))
  .rw[ye h1]at hy
   obtain ⟨j,hj,rfl⟩:=List.mem_map.1 hy;have hj':=List.mem_range.1 hj
   have hnx: ¬ah p.1 x=fa x:=fun e=>by
    rw[h1]at e;have:(2:Int)=1:=congrArg Cl.k e;omega
   simp only[if_neg hxl,if_neg hnx];exact bound (x+1+j) (by omega) (.inr (.inl (by omega)))
theorem li.hg {L0:Nat} {p:HSt} (I:li L0 p) {h:Nat->Cl} (H0:HG h L0) (hold: ∀i,i<L0->ah p.1 i=h i) (hl:p.1.length<=400000):HG (ah p.1) p.1.length:=by
 have hlow:=I.low;have one: ∀y:Nat,(fa (y:Int)).k=1/\(fa (y:Int)).n=y/\(fa (y:Int)).nm=⟨#[]⟩:=fun y=>⟨rfl,rfl,rfl⟩
 refine ⟨⟨?_,?_,?_,hl⟩,I.acy H0 hold,?_,?_,?_,?_⟩
 .intro i hi
  by_cases hil:i<L0
  .rw[hold i hil];exact H0.ok.n0 i hil
  .rcases I.cel i (by omega) hi with ⟨y,h1,_⟩| ⟨n,nm,h1,_⟩
   .rw[h1];show (0:Int)<=(y:Int);omega
   .rw[h1];show (0:Int)<=(n:Int);omega
 .intro i hi hk
  by_cases hil:i<L0
  .rw[hold i hil]at hk |-;exact H0.ok.n4 i hil hk
  .rcases I.cel i (by omega) hi with ⟨y,h1,_⟩| ⟨n,nm,h1,h2,_⟩
   .rw[h1]at hk;exact absurd rfl hk
   .rw[h1];show (n:Int)<=4;omega
 .intro i hi y hy
  by_cases hil:i<L0
  .have e:leads (ah p.1) i=leads h i:=by unfold leads;rw[hold i hil]
   rw[e]at hy;have:=H0.ok.inn i hil y hy;omega
  .rcases I.cel i (by omega) hi with ⟨z,h1,h2,_⟩| ⟨n,nm,h1,h2,_,_,h5,_⟩
   .rw[yd h1]at hy
    split at hy
    .cases hy
    .obtain rfl:y=z:=by simpa using hy
     exact h2
   .rw[ye h1]at hy
    obtain ⟨j,hj,rfl⟩:=List.mem_map.1 hy;have hj':=List.mem_range.1 hj;omega
 .intro i hi
  by_cases hil:i<L0
  .rw[hold i hil];exact H0.kind i hil
  .rcases I.cel i (by omega) hi with ⟨y,h1,_⟩| ⟨n,nm,h1,h2,_⟩
   .rw[h1];exact .inl rfl
   .rw[h1];exact .inr rfl
 .intro i hi hk j hj
  by_cases hil:i<L0
  .rw[hold i hil]at hk hj
   obtain ⟨h1,h2⟩:=H0.kids i hil hk j hj;exact ⟨by omega,by rw[hold _ h1];exact h2⟩
  .rcases I.cel i (by omega) hi with ⟨y,h1,_⟩| ⟨n,nm,h1,h2,_,_,h5,h6⟩
   .rw[h1]at hk
    have:(1:Int)=2:=hk;omega
   .rw[h1]at hj
    have hj':(j:Int)<(n:Int):=hj;exact ⟨by omega,h6 j (by omega)⟩
 .intro i hi hk
  by_cases hil:i<L0
  .rw[hold i hil]at hk |-;exact H0.nmr i hil hk
  .rcases I.cel i (by omega) hi with ⟨y,h1,_⟩| ⟨n,nm,h1,h2,_⟩
   .rw[h1];exact (show ByteArray.toList ⟨#[]⟩= []by decide+kernel)
   .rw[h1]at hk
    have:(2:Int)=1:=hk;omega
 .intro i hi hk
  by_cases hil:i<L0
  .rw[hold i hil]at hk |-;exact H0.nmf i hil hk
  .rcases I.cel i (by omega) hi with ⟨y,h1,_⟩| ⟨n,nm,h1,h2,h3,h4,_⟩
   .rw[h1]at hk
    have:(1:Int)=2:=hk;omega
   .rw[h1]
    exact ⟨h3,fun⟨e1,e2⟩=>h4 ⟨e1,by have:(0:Int)<(n:Int):=e2;omega⟩⟩
theorem HG.cell0 {h:Nat->Cl} {len i:Nat} (H:HG h len) (hi:i<len):fx h len i=0:=by
 unfold fx
 by_cases h1:(h i).k=1
 .rw[if_pos h1]
  have h0:=H.ok.n0 i hi
  have hb:nz (h i).n 0 ((len:Int)-1)=true:=th.2 ⟨h0,by
   by_cases hn:(h i).n=i
   .omega
   .obtain ⟨j,r,hj⟩:=H.ref hi h1 hn
    have:=r.2.1;omega⟩
  rw[if_pos hb,if_pos (H.nmr i hi h1)]
 .have h2:(h i).k=2:=(H.kind i hi).resolve_left h1
  rw[if_neg h1,if_pos h2,if_pos ⟨(H.nmf i hi h2).1,th.2 ⟨H.ok.n0 i hi,H.ok.n4 i hi h1⟩,(H.nmf i hi h2).2⟩];have h0:=H.ok.n0 i hi
  have hle: ¬((len:Int)-1<(i:Int)+(h i).n):=by
   by_cases hz:(h i).n=0
   .omega
   .obtain ⟨m,hm⟩: ∃m:Nat,(h i).n=(m:Int)+1:=⟨((h i).n-1).toNat,by omega⟩
    have:=(H.kids i hi h2 m (by omega)).1
    omega
  rw[if_neg hle,if_pos]
  exact dm.2 fun j hj=>by
   have:=(H.kids i hi h2 j (by omega)).2
   simpa using this
theorem HG.chk {h:Nat->Cl} {len:Nat} (H:HG h len):zj h len 0:=by
 refine rZ ⟨H.ok.few,?_,.inl ⟨H.acy,rfl⟩⟩
 have: ∀k,k<=len->ez h len k=0:=by
  intro k
  induction k with
  |zero=>intro _;rfl
  |succ k ih=>
   intro hk;rw[ez,if_neg (by simpa using ih (by omega))]
   exact H.cell0 (by omega)
 exact this len lZ
end Go.Proofs.YtmggaclaoefdaabGreat
