/- Part of the proof. -/
import Derived.Test.YtmggaclaoefdaabGreatGBL
namespace Go.Proofs.YtmggaclaoefdaabGreat
open Go.RowKit
set_option linter.unusedVariables false
set_option linter.unusedSimpArgs false
set_option maxRecDepth 100000
set_option maxHeartbeats 8000000
theorem vo {P:qh} {t u:Tm} (h1:t.nm=u.nm) (h2:t.len=u.len) (i:Nat):cj P t i=cj P u i:=by unfold cj;rw[h1,h2]
theorem Kw {P:Pg} {t:Tm} {was:jo} {at' nx:Nat}: ∀(f i:Nat) {X:PM},X.fin≠0->j5 P t was at' nx f i X=(X,false):=by
 intro f i X h
 cases f with
 |zero=>rfl
 |succ f=>
  unfold j5
  cases cj (bm P) t i with
  |none=>rfl
  |some j=>exact if_pos h
theorem Iy {H B:Tm} {at' nx:Nat} {X:PM} (h:(a7 H B at' nx X).2=true):(a7 H B at' nx X).1.fin=X.fin:=by
 unfold a7 at h |-
 by_cases h1:dp (dk H X).1.1 X.gs=true
 .rw[if_pos h1]at h;cases h
 rw[if_neg h1]at h |-
 by_cases h2:(dh H at' X).ok=false
 .rw[if_pos h2]at h;cases h
 rw[if_neg h2]at h |-
 by_cases h3:dp (gu H B at' nx X).1.1 (gu H B at' nx X).2.1=true
 .rw[if_pos h3]at h;cases h
 rw[if_neg h3]
 show (if (dh H at' X).left<0 then (3:Int)else X.fin)=X.fin
 have hok':(dh H at' X).ok=true:=by simpa using h2
 rw[if_neg]
 cases hr:dh H at' X with
 |yes s=>show¬((s.1:Int))<0;omega
 |no a b c=>rw[hr]at hok';cases hok'
structure Gt (n:Nat) (qs:List Nat) (X:PM) (Y:PS) (gl:List Gl) (q:PM × Bool) (p:PS × Bool):Prop where
 ok:q.2=p.2
 kp:p.1.ans=Y.ans/\p.1.st=Y.st/\Y.last<=p.1.last
 fin:q.1.fin=(p.1.fin:Int)
 no:p.2=false->p.1.ch=Y.ch/\∃lf fn:Int,q.1= { X with left:=lf,fin:=fn}
 yes:p.2=true->p.1.fin=0/\(∃κ D,wj n qs p.1.σ p.1.last p.1.gl q.1.h q.1.gs q.1.first κ D)/\rn X q.1/\q.1.h.length<=X.h.length+833/\q.1.gs.length<=X.gs.length+6/\((q.1.cs=X.cs/\p.1.ch=Y.ch)\/∃k,q.1.cs=X.cs++ [{ dn X with cl:=k}]/\p.1.ch=Y.ch++ [⟨gl,k,Y.σ⟩])
section
variable {n:Nat} {qs:List Nat} {σ:Sg} {last:Int} {S:Tm} {cc:Nat} {rest:List Gl} {X:PM} {κ:Int->Nat} {D:Int->Prop} {P:Pg}
theorem A5 (hC:i7 P) (hSt:wj n qs σ last ((S,cc)::rest) X.h X.gs X.first κ D) (hh:X.h.length+833<=400000) (hg:X.gs.length+6<=5000) (hgo: ∀(i:Nat) (g:Gq),X.gs[i]?=some g->g.at_<X.h.length/\g.nx<=i) {T:Tm} (hT:T.nm=(wha σ S).nm/\T.len=(wha σ S).len):
 ∀(f k L:Nat) (Y:PS),Y.σ=σ->last<=Y.last->Y.fin=0->Y.ch.length=X.cs.length->L<=4000->Gt n qs X Y ((S,cc)::rest) (j5 P T (dn X) (bf X) (ai X).nx f k { X with left:=(L:Int),fin:=0}) (fd (bm P) ((S,cc)::rest) (wha σ S) f k Y L):=by
 obtain ⟨i,hf,hi,hgi,hcut,hrep,hchn⟩:=hSt.goal;have hatl:bf X<X.h.length:=hSt.hr.hg.end_lt hrep.lt;intro f
 induction f with
 |zero=>
  intro k L Y hσ hl hfin hch hL;exact ⟨rfl,⟨rfl,rfl,Int.le_refl _⟩,by show (0:Int)=(Y.fin:Int);rw[hfin];rfl,fun _=>⟨rfl,_,_,rfl⟩,fun h=>by cases h⟩
 |succ f ih=>
  intro k L Y hσ hl hfin hch hL;subst hσ;rw[j5,fd,vo hT.1 hT.2]
  cases hfit:cj (bm P) (wha Y.σ S) k with
  |none=>exact ⟨rfl,⟨rfl,rfl,Int.le_refl _⟩,by show (0:Int)=(Y.fin:Int);rw[hfin];rfl,fun _=>⟨rfl,_,_,rfl⟩,fun h=>by cases h⟩
  |some j=>
   have hj:=(Dy hfit).2;rw[iy]at hj;have hhd:=hC.hd j hj;have hbd:=hC.bd j hj;have hbd': ∀i,i<(P.bd j).len->d9 12 ((P.bd j).f i)/\iz ((P.bd j).f i)=0/\cnt ((P.bd j).f i)<=1000:=fun i hi=>⟨(hbd.2 i hi).1,(hbd.2 i hi).2.1,by have:=(hbd.2 i hi).2.2;omega⟩
   have hG1:HG (ah { X with left:=(L:Int),fin:=0}.h) { X with left:=(L:Int),fin:=0}.h.length:=hSt.hr.hg
   have hSt':wj n qs Y.σ last ((S,cc)::rest) ({ X with left:=(L:Int),fin:=0}:PM).h ({ X with left:=(L:Int),fin:=0}:PM).gs ({ X with left:=(L:Int),fin:=0}:PM).first κ D:=hSt
   have hS:=Iz (X:= { X with left:=(L:Int),fin:=0}) (off:=Y.last) (L:=L) hSt' hl hhd hbd.1 hbd.2 rfl hh hg
   have hU:=ot (n:=L) (nx:=(ai X).nx) (X:= { X with left:=(L:Int),fin:=0}) hG1 hhd.2.1 hhd.1 hbd' hatl rfl
   have hGr:=oz (n:=L) (nx:=(ai X).nx) (X:= { X with left:=(L:Int),fin:=0}) hG1 hhd.2.1 hbd' hatl rfl hL rfl
   have hE:=(yp (H:=P.hd j) (B:=P.bd j) (at':=bf X) (nx:=(ai X).nx) (n:=L) (X:= { X with left:=(L:Int),fin:=0}) hG1 hhd.2.1 hhd.1 hbd.2 hatl rfl).1
   have hFi:=Iy (H:=P.hd j) (B:=P.bd j) (at':=bf X) (nx:=(ai X).nx) (X:= { X with left:=(L:Int),fin:=0})
   have e1:bf { X with left:=(L:Int),fin:=0} =bf X:=rfl
   have e2:ai { X with left:=(L:Int),fin:=0} =ai X:=rfl
   rw[e1,e2]at hS
   show Gt n qs X Y ((S,cc)::rest) (if (0:Int)≠0 then _ else _) _
   rw[if_neg (by simp)]
   show Gt n qs X Y ((S,cc)::rest) (match a7 (P.hd j) (P.bd j) (bf X) (ai X).nx { X with left:=(L:Int),fin:=0} with
    | (Y,true)=>(match cj (bm P) T (j+1)with
      |none=>Y
      |some k=> { Y with cs:=Y.cs++ [{ dn X with cl:=k}]},true)
    | (Y,false)=>j5 P T (dn X) (bf X) (ai X).nx f (j+1) (am (dn X) Y)) (match ao (L+1) Y.σ L [(ap (fh Y.last) ((bm P).getD j (.nil,[])).1,wha Y.σ S)]with
   | .over=>({ Y with last:=Y.last+12,fin:=3},false)
   | .no L'=>fd (bm P) ((S,cc)::rest) (wha Y.σ S) f (j+1) { Y with last:=Y.last+12} L'
   | .yes _ σ'=>({ Y with last:=Y.last+12,σ:=σ',gl:=((((bm P).getD j (.nil,[])).2).map fun b=>(ap (fh Y.last) b,Y.ch.length))++((S,cc)::rest).tail,ch:=match cj (bm P) (wha Y.σ S) (j+1)with
      |none=>Y.ch
      |some k=>Y.ch++ [⟨(S,cc)::rest,k,Y.σ⟩]},true))
   rw[pw P hj]
   show Gt n qs X Y ((S,cc)::rest) (match a7 (P.hd j) (P.bd j) (bf X) (ai X).nx { X with left:=(L:Int),fin:=0} with
    | (Y,true)=>(match cj (bm P) T (j+1)with
      |none=>Y
      |some k=> { Y with cs:=Y.cs++ [{ dn X with cl:=k}]},true)
    | (Y,false)=>j5 P T (dn X) (bf X) (ai X).nx f (j+1) (am (dn X) Y)) (match ao (L+1) Y.σ L [(ap (fh Y.last) (a9 (P.hd j)),wha Y.σ S)]with
   | .over=>({ Y with last:=Y.last+12,fin:=3},false)
   | .no L'=>fd (bm P) ((S,cc)::rest) (wha Y.σ S) f (j+1) { Y with last:=Y.last+12} L'
   | .yes _ σ'=>({ Y with last:=Y.last+12,σ:=σ',gl:=(((az (P.bd j)).map a9).map fun b=>(ap (fh Y.last) b,Y.ch.length))++((S,cc)::rest).tail,ch:=match cj (bm P) (wha Y.σ S) (j+1)with
      |none=>Y.ch
      |some k=>Y.ch++ [⟨(S,cc)::rest,k,Y.σ⟩]},true))
   rw[mj]
   generalize a7 (P.hd j) (P.bd j) (bf X) (ai X).nx { X with left:=(L:Int),fin:=0} =q at*
   obtain ⟨Z,ok⟩:=q
   have hU':am (dn X) Z= { X with left:=Z.left,fin:=Z.fin}:=hU
   cases hm:ao (L+1) Y.σ L [(ap (fh Y.last) (P.hd j),wha Y.σ S)]with
   |over=>
    rw[hm]at hS;obtain ⟨s1,s2⟩:=hS;have s1':ok=false:=s1;have s2':Z.fin=3:=s2;subst s1'
    show Gt n qs X Y ((S,cc)::rest) (j5 P T (dn X) (bf X) (ai X).nx f (j+1) (am (dn X) Z)) _
    rw[hU',Kw _ _ (by show Z.fin≠0;rw[s2'];decide)]
    exact ⟨rfl,⟨rfl,rfl,by show Y.last<=Y.last+12;omega⟩,by show Z.fin=((3:Nat):Int);rw[s2'];rfl,fun _=>⟨rfl,_,_,rfl⟩,fun h=>by cases h⟩
   |no L'=>
    rw[hm]at hS;obtain ⟨s1,s2,s3⟩:=hS;have s1':ok=false:=s1;have s2':Z.fin=0:=s2;have s3':Z.left=(L':Int):=s3;subst s1'
    show Gt n qs X Y ((S,cc)::rest) (j5 P T (dn X) (bf X) (ai X).nx f (j+1) (am (dn X) Z)) (fd (bm P) ((S,cc)::rest) (wha Y.σ S) f (j+1) { Y with last:=Y.last+12} L')
    rw[hU',s2',s3'];obtain ⟨n',en,hn'⟩:=hGr.2.2 s2';have en':Z.left=(n':Int):=en
    have h1:=ih (j+1) L' { Y with last:=Y.last+12} rfl (by show last<=Y.last+12;omega) hfin hch (by omega)
    exact ⟨h1.ok,⟨h1.kp.1,h1.kp.2.1,by have h2:Y.last+12<=_:=h1.kp.2.2;exact Int.le_trans (by omega) h2⟩,h1.fin,h1.no,fun h=>by have:=h1.yes h;rw[show ({ Y with last:=Y.last+12}:PS).σ=Y.σ from rfl]at this;exact this⟩
   |yes k' σ'=>
    rw[hm]at hS;obtain ⟨s1,⟨κ',D',s2⟩,s3,s4⟩:=hS;have s1':ok=true:=s1;subst s1';have hcs:Z.cs=X.cs:=hGr.2.1;have hfi:Z.fin=0:=hFi rfl
    have hgl:(((az (P.bd j)).map a9).map fun b=>(ap (fh Y.last) b,Y.ch.length))++((S,cc)::rest).tail=((List.range (P.bd j).len).map fun i=>(ap (fh Y.last) ((P.bd j).f i),X.cs.length))++rest:=by
     rw[hch];unfold az;rw[List.map_map,List.map_map]
     congr 1
     exact List.map_congr_left fun i _=>by show (ap _ (a9 _),_)=_;rw[mj]
    rw[hgl];have hX:rn X Z:=⟨hE.len,hE.tr,hE.gs⟩;rw[vo hT.1 hT.2]
    show Gt n qs X Y ((S,cc)::rest) (match cj (bm P) (wha Y.σ S) (j+1)with
     |none=>Z
     |some k=> { Z with cs:=Z.cs++ [{ dn X with cl:=k}]},true) ({ Y with last:=Y.last+12,σ:=σ',gl:=((List.range (P.bd j).len).map fun i=>(ap (fh Y.last) ((P.bd j).f i),X.cs.length))++rest,ch:=match cj (bm P) (wha Y.σ S) (j+1)with
     |none=>Y.ch
     |some k=>Y.ch++ [⟨(S,cc)::rest,k,Y.σ⟩]},true)
    cases cj (bm P) (wha Y.σ S) (j+1)with
    |none=>exact ⟨rfl,⟨rfl,rfl,by show Y.last<=Y.last+12;omega⟩,by show Z.fin=(Y.fin:Int);rw[hfi,hfin];rfl,fun h=>(by cases h),fun _=>⟨hfin,⟨κ',D',s2⟩,hX,s3,s4,.inl ⟨hcs,rfl⟩⟩⟩
    |some k2=>exact ⟨rfl,⟨rfl,rfl,by show Y.last<=Y.last+12;omega⟩,by show Z.fin=(Y.fin:Int);rw[hfi,hfin];rfl,fun h=>(by cases h),fun _=>⟨hfin,⟨κ',D',s2⟩,hX.same rfl rfl rfl,s3,s4,.inr ⟨k2,by show Z.cs++_=_;rw[hcs],rfl⟩⟩⟩
def Tc (n:Nat) (qs:List Nat) (h:List Cl) (gs:List Gq) (last:Int) (c:jo) (k:Fg):Prop:=c.cl=k.k/\∃S cc rest κ D,k.gl=(S,cc)::rest/\(wha k.σ S).v=0/\wj n qs k.σ last k.gl h gs c.goal κ D
structure ny (n:Nat) (qs:List Nat) (X:PM) (Y:PS):Prop where
 cl:X.cs.length=Y.ch.length
 chs: ∀(i:Nat) c k,X.cs[i]?=some c->Y.ch[i]?=some k->Tc n qs (am c X).h (am c X).gs Y.last c k
structure zh (n:Nat) (qs:List Nat) (X:PM) (Y:PS):Prop where
 fin:X.fin=(Y.fin:Int)
 c:Y.fin=0->ny n qs X Y
 on:Y.fin=0->∃κ D,wj n qs Y.σ Y.last Y.gl X.h X.gs X.first κ D
structure Dh (st:Nat) (X:PM):Prop where
 h:X.h.length<=726+833*st
 gs:X.gs.length<=6+6*st
 c: ∀c∈X.cs,c.hp+833<=726+833*st/\c.gs+6<=6+6*st
theorem Tc.mono {h:List Cl} {gs:List Gq} {l l':Int} {c:jo} {k:Fg} (H:Tc n qs h gs l c k) (hl:l<=l'):Tc n qs h gs l' c k:=by
 obtain ⟨h1,S,cc,rest,κ,D,h2,h3,h4⟩:=H;exact ⟨h1,S,cc,rest,κ,D,h2,h3,h4.mono hl⟩
theorem Bi {h:Nat->Cl} {len i:Nat} {U:Tm} (r:i3 σ h len κ D i U) (hv:(wha σ U).v=0):(h (aj h len i)).k=2/\(cd (h (aj h len i))).nm=(wha σ U).nm/\(cd (h (aj h len i))).len=(wha σ U).len:=by
 cases r with
 |var _ _ hv'=>exact absurd hv hv'
 |fn _ _ _ hk hnm hn _=>exact ⟨hk,hnm,by show (h (aj h len i)).n.toNat=_;rw[hn,Int.toNat_natCast]⟩
theorem ny.ext {Y Y':PS} {X':PM} (H:ny n qs X Y) {m:Nat} {P:Pg} (hO:jm m qs X) (E:rn X X') (hc:X'.cs=X.cs) (hY:Y'.ch=Y.ch) (hl:Y.last<=Y'.last):ny n qs X' Y':=by
 refine ⟨by rw[hc,hY];exact H.cl,fun i c k h1 h2=>?_⟩
 rw[hc]at h1;rw[hY]at h2;have hC:=hO.ch c (List.mem_of_getElem? h1);have hs:=E.undo hC.hp hC.tr hC.gs;rw[hs.h,hs.gs];exact (H.chs i c k h1 h2).mono hl
theorem Gt.sim {X:PM} {Y:PS} {m:Nat} {q:PM × Bool} {p:PS × Bool} (hO:jm m qs X) (hv:(wha Y.σ S).v=0) (hSt:wj n qs Y.σ Y.last ((S,cc)::rest) X.h X.gs X.first κ D) (hC:ny n qs X Y) (hT:Gt n qs X Y ((S,cc)::rest) q p) (hp:p.2=true):zh n qs q.1 p.1:=by
 obtain ⟨h1,h2,h3,h4,h5,h6⟩:=hT.yes hp;refine ⟨hT.fin,fun _=>?_,fun _=>h2⟩
 rcases h6 with ⟨e1,e2⟩| ⟨k2,e1,e2⟩
 .refine ⟨by rw[e1,e2];exact hC.cl,fun i c k g1 g2=>?_⟩
  rw[e1]at g1;rw[e2]at g2;have hc:=hO.ch c (List.mem_of_getElem? g1);have hs:=h3.undo hc.hp hc.tr hc.gs;rw[hs.h,hs.gs];exact (hC.chs i c k g1 g2).mono hT.kp.2.2
 .refine ⟨by rw[e1,e2,List.length_append,List.length_append,hC.cl];rfl,fun i c k g1 g2=>?_⟩
  rw[e1]at g1;rw[e2]at g2
  by_cases hi:i<X.cs.length
  .rw[List.getElem?_append_left hi]at g1
   rw[List.getElem?_append_left (by rw[<-hC.cl];exact hi)]at g2
   have hc:=hO.ch c (List.mem_of_getElem? g1);have hs:=h3.undo hc.hp hc.tr hc.gs;rw[hs.h,hs.gs];exact (hC.chs i c k g1 g2).mono hT.kp.2.2
  .have hcl:=hC.cl
   rw[List.getElem?_append_right (by omega)]at g1 g2
   have hi0:i=X.cs.length:=by
    have:=(List.getElem?_eq_some_iff.1 g1).1;simp at this;omega
   subst hi0;simp at g1;rw[hcl]at g2;simp at g2;subst g1 g2
   have hs:=h3.undo (c:= { dn X with cl:=k2}) lZ lZ lZ
   have hw:=A4 X
   have e3:(am { dn X with cl:=k2} X).h=X.h:=hw.1
   have e4:(am { dn X with cl:=k2} X).gs=X.gs:=hw.2.1
   rw[hs.h,hs.gs,e3,e4];exact ⟨rfl,S,cc,rest,κ,D,rfl,hv,hSt.mono hT.kp.2.2⟩
theorem Gt.sz {X:PM} {Y:PS} {gl:List Gl} {st:Nat} {q:PM × Bool} {p:PS × Bool} (hT:Gt n qs X Y gl q p) (hp:p.2=true) (h1:X.h.length+833<=726+833*st) (h2:X.gs.length+6<=6+6*st) (hc: ∀c∈X.cs,c.hp+833<=726+833*st/\c.gs+6<=6+6*st):Dh st q.1:=by
 obtain ⟨_,_,_,h4,h5,h6⟩:=hT.yes hp;refine ⟨by omega,by omega,fun c hm=>?_⟩
 rcases h6 with ⟨e1,_⟩| ⟨k2,e1,_⟩
 .rw[e1]at hm;exact hc c hm
 .rw[e1]at hm
  rcases List.mem_append.1 hm with h|h
  .exact hc c h
  .rw[List.mem_singleton]at h
   subst h;exact ⟨h1,h2⟩
theorem Jd (hC:i7 P) {st:Nat} (hst:st<=400): ∀(f:Nat) (X:PM) (Y:PS),jm P.len qs X->Dh st X->X.fin=(Y.fin:Int)->(Y.fin=0->ny n qs X Y)->X.cs.length<f->zh n qs (fz P f X) (gx (bm P) f Y)/\Dh st (fz P f X)/\(gx (bm P) f Y).ans=Y.ans/\(gx (bm P) f Y).st=Y.st:=by
 intro f
 induction f with
 |zero=>intro X Y _ _ _ _ h;exact absurd h (nL _)
 |succ f ih=>
  intro X Y hO hz hfin hS hlt;rw[fz,gx]
  by_cases hf:Y.fin≠0
  .rw[if_pos hf,if_pos (by rw[hfin];omega)]
   exact ⟨⟨hfin,fun h=>absurd h hf,fun h=>absurd h hf⟩,hz,rfl,rfl⟩
  have hf0:Y.fin=0:=Classical.not_not.1 hf;rw[if_neg hf,if_neg (by rw[hfin,hf0];simp)]
  have hSC:=hS hf0;have hcl:=hSC.cl
  cases hl:X.cs.getLast? with
  |none=>
   have hn:X.cs= []:=List.getLast?_eq_none_iff.1 hl;have hn':Y.ch= []:=List.length_eq_zero_iff.1 (by rw[<-hcl,hn];rfl)
   rw[hn'];exact ⟨⟨rfl,fun h=>absurd (show (1:Nat)=0 from h) (by decide),fun h=>absurd (show (1:Nat)=0 from h) (by decide)⟩,⟨hz.h,hz.gs,hz.c⟩,rfl,rfl⟩
  |some c=>
   have hm:=List.mem_of_getLast? hl;have hpos:0<X.cs.length:=List.length_pos_of_mem hm;have hg1:X.cs[X.cs.length-1]?=some c:=by rw[<-List.getLast?_eq_getElem?];exact hl
   obtain ⟨k,hl'⟩: ∃k,Y.ch.getLast?=some k:=by
    cases h:Y.ch.getLast? with
    |none=>exact absurd (show X.cs.length=0 by rw[hcl,List.getLast?_eq_none_iff.1 h];rfl) (by omega)
    |some k=>exact ⟨k,rfl⟩
   have hg2:Y.ch[X.cs.length-1]?=some k:=by rw[hcl,<-List.getLast?_eq_getElem?];exact hl'
   rw[hl'];obtain ⟨ek,S,cc,rest,κ,D,hgl,hv,hSt⟩:=hSC.chs _ c k hg1 hg2;have hc:=hO.ch c hm;have hO1:=hO.back hl;have hzc:=hz.c c hm;have hfx:X.fin=0:=by rw[hfin,hf0];rfl
   have eX:({ am c { X with cs:=X.cs.dropLast} with left:=4000}:PM)= { am c { X with cs:=X.cs.dropLast} with left:=((4000:Nat):Int),fin:=0}:=by
    show ({ am c { X with cs:=X.cs.dropLast} with left:=4000}:PM)= { am c { X with cs:=X.cs.dropLast} with left:=4000,fin:=0}
    have:(am c { X with cs:=X.cs.dropLast}).fin=0:=hfx
    rw[<-this]
   have hul:=fy hc.hp
   have hSt1:wj n qs k.σ Y.last ((S,cc)::rest) (am c { X with cs:=X.cs.dropLast}).h (am c { X with cs:=X.cs.dropLast}).gs (am c { X with cs:=X.cs.dropLast}).first κ D:=by rw[<-hgl];exact hSt
   have hh1:(am c { X with cs:=X.cs.dropLast}).h.length+833<=726+833*st:=by
    have:(am c { X with cs:=X.cs.dropLast}).h.length=c.hp:=hul
    omega
   have hg3:(am c { X with cs:=X.cs.dropLast}).gs.length+6<=6+6*st:=by
    show (X.gs.take c.gs).length+6<=_
    rw[List.length_take];omega
   have hSC1:ny n qs (am c { X with cs:=X.cs.dropLast}) { Y with ch:=Y.ch.dropLast,σ:=k.σ}:=by
    refine ⟨?_,fun i d k' g1 g2=>?_⟩
    .show X.cs.dropLast.length=Y.ch.dropLast.length
     rw[List.length_dropLast,List.length_dropLast,hcl]
    .have g1':X.cs.dropLast[i]?=some d:=g1
     have g2':Y.ch.dropLast[i]?=some k':=g2
     have hil:i<X.cs.length-1:=by
      have:=(List.getElem?_eq_some_iff.1 g1').1;rw[List.length_dropLast]at this;exact this
     rw[List.getElem?_dropLast,if_pos hil]at g1';rw[List.getElem?_dropLast,if_pos (by omega)]at g2'
     have hD:=hO.ch d (List.mem_of_getElem? g1')
     have hle:Tb d c:=by
      have:=List.pairwise_iff_getElem.1 hO.mono i (X.cs.length-1) (by omega) (by omega) hil
      rw[gE (by omega)]at g1' hg1
      rw[oj g1',oj hg1]at this;exact this
     have hu:=xk (X:=X) hle.1 hle.2.1 hle.2.2 hc.hp hc.tr
     have e1:(am d (am c { X with cs:=X.cs.dropLast})).h=(am d X).h:=hu.h
     have e2:(am d (am c { X with cs:=X.cs.dropLast})).gs=(am d X).gs:=hu.gs
     rw[e1,e2];exact hSC.chs i d k' g1' g2'
   obtain ⟨i0,hf1,hi1,hgi1,hcut1,hrep1,hchn1⟩:=hSt1.goal;have hnm:=Bi hrep1 hv
   have hT:=A5 (P:=P) hC hSt1 (by omega) (by omega) hO1.s.go (T:=cd (ah (am c { X with cs:=X.cs.dropLast}).h (bf (am c { X with cs:=X.cs.dropLast})))) ⟨hnm.2.1,hnm.2.2⟩ (P.len+1) c.cl 4000 { Y with ch:=Y.ch.dropLast,σ:=k.σ} rfl (Int.le_refl _) hf0 hSC1.cl.symm lZ
   have eT:i4 P c.cl ({ am c { X with cs:=X.cs.dropLast} with left:=4000}:PM)=j5 P (cd (ah (am c { X with cs:=X.cs.dropLast}).h (bf (am c { X with cs:=X.cs.dropLast})))) (dn (am c { X with cs:=X.cs.dropLast})) (bf (am c { X with cs:=X.cs.dropLast})) (ai (am c { X with cs:=X.cs.dropLast})).nx (P.len+1) c.cl { am c { X with cs:=X.cs.dropLast} with left:=((4000:Nat):Int),fin:=0}:=by
    rw[eX];rfl
   have eP:fd (bm P) k.gl (Av k.σ k.gl) ((bm P).length+1) k.k { Y with ch:=Y.ch.dropLast,σ:=k.σ} 4000=fd (bm P) ((S,cc)::rest) (wha k.σ S) (P.len+1) c.cl { Y with ch:=Y.ch.dropLast,σ:=k.σ} 4000:=by
    rw[iy,hgl,ek];rfl
   show zh n qs (match i4 P c.cl ({ am c { X with cs:=X.cs.dropLast} with left:=4000}:PM)with| (Z,true)=>Z| (Z,false)=>fz P f Z) (match fd (bm P) k.gl (Av k.σ k.gl) ((bm P).length+1) k.k { Y with ch:=Y.ch.dropLast,σ:=k.σ} 4000 with| (Z,true)=>Z| (Z,false)=>gx (bm P) f Z)/\Dh st (match i4 P c.cl ({ am c { X with cs:=X.cs.dropLast} with left:=4000}:PM)with| (Z,true)=>Z| (Z,false)=>fz P f Z)/\(match fd (bm P) k.gl (Av k.σ k.gl) ((bm P).length+1) k.k { Y with ch:=Y.ch.dropLast,σ:=k.σ} 4000 with| (Z,true)=>Z| (Z,false)=>gx (bm P) f Z).ans=Y.ans/\(match fd (bm P) k.gl (Av k.σ k.gl) ((bm P).length+1) k.k { Y with ch:=Y.ch.dropLast,σ:=k.σ} 4000 with| (Z,true)=>Z| (Z,false)=>gx (bm P) f Z).st=Y.st
   rw[eT,eP]
   have hzd: ∀d∈(am c { X with cs:=X.cs.dropLast}).cs,d.hp+833<=726+833*st/\d.gs+6<=6+6*st:=fun d hd=>hz.c d (List.dropLast_subset _ hd)
   have hcs1:(am c { X with cs:=X.cs.dropLast}).cs.length<f:=by
    show X.cs.dropLast.length<f
    rw[List.length_dropLast];omega
   generalize am c { X with cs:=X.cs.dropLast} =Z at*
   generalize j5 P (cd (ah Z.h (bf Z))) (dn Z) (bf Z) (ai Z).nx (P.len+1) c.cl { Z with left:=((4000:Nat):Int),fin:=0} =q at*
   generalize fd (bm P) ((S,cc)::rest) (wha k.σ S) (P.len+1) c.cl { Y with ch:=Y.ch.dropLast,σ:=k.σ} 4000=p at*
   have hTy:=fun hp:p.2=true=>hT.sim hO1 hv hSt1 hSC1 hp
   have hTz:=fun hp:p.2=true=>hT.sz hp hh1 hg3 hzd
   obtain ⟨q1,q2⟩:=q;obtain ⟨p1,p2⟩:=p;have hok:q2=p2:=hT.ok;subst hok
   cases q2 with
   |true=>exact ⟨hTy rfl,hTz rfl,hT.kp.1,hT.kp.2.1⟩
   |false=>
    obtain ⟨e1,lf,fn,e2⟩:=hT.no rfl;have e1':=e1;have e2':=e2;subst e2';have hlast:=hT.kp.2.2
    have:=ih { Z with left:=lf,fin:=fn} p1 (hO1.same rfl rfl rfl hO1.fst rfl) ⟨by show Z.h.length<=_;omega,by show Z.gs.length<=_;omega,hzd⟩ hT.fin (fun _=>hSC1.ext (P:=P) hO1 ((rn.refl Z).same rfl rfl rfl) rfl e1' hlast) hcs1
    exact ⟨this.1,this.2.1,this.2.2.1.trans hT.kp.1,this.2.2.2.trans hT.kp.2.1⟩
end
theorem Im {t u:Tm} (h1:t.nm=u.nm) (h2:t.len=u.len) (nm:ByteArray) (n:Nat):gn t nm n=gn u nm n:=by unfold gn;rw[h1,h2]
theorem Dh.mono {st st':Nat} {X:PM} (h:Dh st X) (hs:st<=st'):Dh st' X:=⟨by have:=h.h;omega,by have:=h.gs;omega,fun c hc=>⟨by have:=(h.c c hc).1;omega,by have:=(h.c c hc).2;omega⟩⟩
section
variable {n:Nat} {qs:List Nat} {P:Pg} {X:PM} {Y:PS} {st:Nat}
theorem zt (hC:i7 P) (hst:st<=400) (hO:jm P.len qs X) (hz:Dh st X) (hf:X.fin=(Y.fin:Int)) (hS:Y.fin=0->ny n qs X Y) (hcl:X.cs.length=Y.ch.length):zh n qs (dr P X) (bk (bm P) Y)/\Dh st (dr P X)/\(bk (bm P) Y).ans=Y.ans/\(bk (bm P) Y).st=Y.st:=by
 unfold dr bk;rw[<-hcl];exact Jd hC hst (X.cs.length+1) X Y hO hz hf hS (Nat.lt_succ_self _)
theorem ny.sub {X':PM} {Y':PS} (H:ny n qs X Y) (k:Nat) (h1:X'.h=X.h) (h2:X'.gs=X.gs) (h3:X'.tr=X.tr) (hc:X'.cs=X.cs.take k) (hY:Y'.ch=Y.ch.take k) (hl:Y.last<=Y'.last):ny n qs X' Y':=by
 refine ⟨by rw[hc,hY,List.length_take,List.length_take,H.cl],fun i c d g1 g2=>?_⟩
 rw[hc,List.getElem?_take]at g1;rw[hY,List.getElem?_take]at g2;have e1:(am c X').h=(am c X).h:=by show gw (X'.h.take c.hp) (X'.tr.drop c.tr)=_;rw[h1,h3];rfl
 have e2:(am c X').gs=(am c X).gs:=by show X'.gs.take c.gs=_;rw[h2];rfl
 rw[e1,e2]
 by_cases hi:i<k
 .rw[if_pos hi]at g1 g2
  exact (H.chs i c d g1 g2).mono hl
 .rw[if_neg hi]at g1;cases g1
theorem ny.same {X':PM} {Y':PS} (H:ny n qs X Y) (h1:X'.h=X.h) (h2:X'.gs=X.gs) (h3:X'.tr=X.tr) (hc:X'.cs=X.cs) (hY:Y'.ch=Y.ch) (hl:Y.last<=Y'.last):ny n qs X' Y':=
 H.sub (max X.cs.length Y.ch.length) h1 h2 h3 (by rw[hc,List.take_of_length_le (by omega)]) (by rw[hY,List.take_of_length_le (by omega)]) hl
theorem wj.next {σ:Sg} {last:Int} {gl gl':List Gl} {h:List Cl} {gs:List Gq} {first f':Nat} {κ:Int->Nat} {D:Int->Prop} (S:wj n qs σ last gl h gs first κ D) (hc:Dk (i3 σ (ah h) h.length κ D) gs f' gl'):wj n qs σ last gl' h gs f' κ D:=⟨S.hr,S.dl,S.sl,S.l0,hc,S.ql,S.qr⟩
theorem G6 {S:Tm} {cc:Nat} {rest:List Gl} (hC:i7 P) (hst:st+1<=400) (hO:jm P.len qs X) (hz:Dh st X) (hl:X.left=4000) (hM:zh n qs X Y) (hfy:Y.fin=0) (hgl:Y.gl=(S,cc)::rest):zh n qs (bn P X) (eh (bm P) Y)/\Dh (st+1) (bn P X)/\(eh (bm P) Y).ans=Y.ans/\(eh (bm P) Y).st=Y.st:=by
 obtain ⟨κ,D,hSt0⟩:=hM.on hfy;have hSt:wj n qs Y.σ Y.last ((S,cc)::rest) X.h X.gs X.first κ D:=by rw[<-hgl];exact hSt0
 have hSC:=hM.c hfy;have hfx:X.fin=0:=by rw[hM.fin,hfy];rfl
 have hzs:=hz.mono (Nat.le_succ st);obtain ⟨i,hf,hi,hgi,hcut,hrep,hchn⟩:=hSt.goal;have hh:=hz.h;have hg:=hz.gs;have Av:Av Y.σ Y.gl=wha Y.σ S:=by rw[hgl];rfl
 have htail:Y.gl.tail=rest:=by rw[hgl];rfl
 have hhead:(Y.gl.headD (.nil,0)).2=cc:=by rw[hgl];rfl
 have hSC1:ny n qs X { Y with gl:=rest}:=hSC.same rfl rfl rfl rfl rfl (Int.le_refl _)
 unfold bn eh;rw[Av,htail,hhead];simp only[]
 by_cases hv:(wha Y.σ S).v=0
 case neg=>
  have hk:(ah X.h (bf X)).k=1:=by
   cases hrep with
   |var _ h0 hv' hD hl' he=>
    have e:bf X=κ (wha Y.σ S).v:=he;rw[e];exact (hSt.hr.fr _ hD (iu hSt.hr.dec h0 hv')).2.1
   |fn _ _ hv'=>exact absurd hv' hv
  rw[if_pos hk,if_pos hv];exact ⟨⟨rfl,fun h=>absurd (show (4:Nat)=0 from h) (by decide),fun h=>absurd (show (4:Nat)=0 from h) (by decide)⟩,⟨hzs.h,hzs.gs,hzs.c⟩,rfl,rfl⟩
 have hnm:=Bi hrep hv;have hk2:(ah X.h (bf X)).k=2:=hnm.1;have hkn: ¬(ah X.h (bf X)).k=1:=by rw[hk2];decide
 have hT: ∀nm k,gn (cd (ah X.h (bf X))) nm k=gn (wha Y.σ S) nm k:=fun nm k=>Im hnm.2.1 hnm.2.2 nm k
 rw[if_neg hkn,if_neg (show¬(wha Y.σ S).v≠0 by simp[hv]),hT,hT,hT,hT]
 by_cases h1:gn (wha Y.σ S) oc 0=true
 .rw[if_pos h1,if_pos h1,hcut]
  refine ⟨⟨hM.fin,fun _=>hSC.sub cc rfl rfl rfl rfl rfl (Int.le_refl _),fun _=>⟨κ,D,hSt.next hchn⟩⟩,⟨hzs.h,hzs.gs,fun c hc=>hzs.c c (List.take_subset _ _ hc)⟩,rfl,rfl⟩
 rw[if_neg h1,if_neg h1]
 by_cases h2:gn (wha Y.σ S) ku 0=true
 .rw[if_pos h2,if_pos h2]
  exact ⟨⟨hM.fin,fun _=>hSC.same rfl rfl rfl rfl rfl (Int.le_refl _),fun _=>⟨κ,D,hSt.next hchn⟩⟩,⟨hzs.h,hzs.gs,hzs.c⟩,rfl,rfl⟩
 rw[if_neg h2,if_neg h2]
 by_cases h3:gn (wha Y.σ S) lj 0=true
 .rw[if_pos h3,if_pos h3]
  exact zt hC hst hO hzs hM.fin (fun _=>hSC1) hSC.cl
 rw[if_neg h3,if_neg h3]
 by_cases h4:gn (wha Y.σ S) Df 2=true
 .rw[if_pos h4,if_pos h4]
  have hlen:(wha Y.σ S).len=2:=by unfold gn at h4;simp at h4;exact h4.2
  have hkids: ∀j,j<(wha Y.σ S).len->i3 Y.σ (ah X.h) X.h.length κ D (bf X+1+j) ((wha Y.σ S).f j):=by
   cases hrep with
   |var _ _ hv'=>exact absurd hv hv'
   |fn _ _ _ _ _ _ hk=>exact hk
  have hSm:=Fu D 4001 (bf X+1) (bf X+2) 4000 X.h [] Y.σ κ ((wha Y.σ S).f 0) ((wha Y.σ S).f 1) (by omega) hSt.hr (hkids 0 (by omega)) (hkids 1 (by omega))
  have hER:lu X=jn 4001 (bf X+1) (bf X+2) (4000,X.h,[]):=by unfold lu;rw[hl];rfl
  rw[<-hER]at hSm;obtain ⟨e1,e2,e3⟩:=Dz hO hf hi hkn (by rw[hT];exact h4) ⟨4000,hl,lZ⟩
  have hlR:(pd X).h.length=X.h.length:=by
   obtain ⟨a1,a2,a3⟩:=Ab hO hf hi hkn (by rw[hT];exact h4)
   have:(lu X).Good (4000,X.h,[]):=by rw[hER];exact gj _ _ _ _ ⟨hO.s.hg,hO.s.hg.nmZ⟩ a2 a3
   exact this.len
  have hzE:Dh (st+1) (pd X):=⟨by rw[hlR];exact hzs.h,hzs.gs,hzs.c⟩
  have hCE: ∀Y':PS,Y'.ch=Y.ch->Y.last<=Y'.last->ny n qs (pd X) Y':=fun Y' hc hl=>hSC.ext (P:=P) hO e1 rfl hc hl
  cases hr:lu X with
  |no x l' bs'=>
   rw[hr]at hSm;rw[if_neg (show¬(MR.no x l' bs').ok=true by simp[MR.ok])]
   have hfin:(pd X).fin=if x<0 then 3 else X.fin:=by
    show (if (lu X).left<0 then (3:Int)else X.fin)=_
    rw[hr];rfl
   rcases hSm with ⟨hx,hm⟩| ⟨k,hx,hm⟩
   .have hme:=hm 4001 [] (by omega)
    rw[List.append_nil]at hme;rw[hme];subst hx;have hf3:(pd X).fin=3:=by rw[hfin,if_pos (by decide)]
    have hbk:dr P (pd X)=pd X:=by unfold dr;rw[fz,if_pos (by rw[hf3];decide)]
    rw[hbk];exact ⟨⟨hf3,fun h=>absurd (show (3:Nat)=0 from h) (by decide),fun h=>absurd (show (3:Nat)=0 from h) (by decide)⟩,hzE,rfl,rfl⟩
   .have hme:=hm 4001 [] (by omega)
    rw[List.append_nil]at hme;rw[hme];subst hx;have hf0:(pd X).fin=(Y.fin:Int):=by rw[hfin,if_neg (by omega)];exact hM.fin
    exact zt hC hst e2 hzE hf0 (fun _=>hCE { Y with gl:=rest} rfl (Int.le_refl _)) hSC.cl
  |yes s=>
   rw[hr]at hSm;rw[if_pos (show (MR.yes s).ok=true from rfl)]
   obtain ⟨σ',κ2,hHR2,hR2,_,hd2,hm⟩:=hSm;obtain ⟨F',hF',e⟩:=hm 4001 [] (by omega)
   rw[List.append_nil]at e;obtain ⟨F,rfl⟩: ∃F,F'=F+1:=⟨F'-1,by omega⟩
   have e':=e;rw[e'];have hEh:(pd X).h=s.2.1:=by show (lu X).l=_;rw[hr];rfl
   have hEf:(pd X).fin=X.fin:=by
    show (if (lu X).left<0 then (3:Int)else X.fin)=_
    rw[hr]
    show (if ((s.1:Nat):Int)<0 then (3:Int)else X.fin)=_
    rw[if_neg (by omega)]
   refine ⟨⟨by rw[hEf];exact hM.fin,fun _=>hCE _ rfl (Int.le_refl _),fun _=>⟨κ2,D,?_⟩⟩,hzE,rfl,rfl⟩
   rw[hEh];exact ⟨hHR2,hSt.dl,fun u hu=>(hd2 u (fun hd=>by have h1:=hSt.dl u hd;have h2:Y.last<u:=hu;omega)).trans (hSt.sl u hu),hSt.l0,hchn.imp fun a U r=>hR2 a U r,hSt.ql,fun j x hx=>hR2 _ _ (hSt.qr j x hx)⟩
 rw[if_neg h4,if_neg h4]
 have eX:X= { X with left:=((4000:Nat):Int),fin:=0}:=by
  show X= { X with left:=4000,fin:=0}
  rw[<-hl,<-hfx]
 have hTr:=A5 (P:=P) hC hSt (by omega) (by omega) hO.s.go (T:=cd (ah X.h (bf X))) ⟨hnm.2.1,hnm.2.2⟩ (P.len+1) 0 4000 { Y with gl:=rest} rfl (Int.le_refl _) hfy hSC.cl.symm lZ
 have eT:i4 P 0 X=j5 P (cd (ah X.h (bf X))) (dn X) (bf X) (ai X).nx (P.len+1) 0 { X with left:=((4000:Nat):Int),fin:=0}:=by
  rw[<-eX];rfl
 rw[eT,iy,hgl]
 generalize j5 P (cd (ah X.h (bf X))) (dn X) (bf X) (ai X).nx (P.len+1) 0 { X with left:=((4000:Nat):Int),fin:=0} =q at*
 have hTy:=fun(p:PS × Bool) (hT:Gt n qs X { Y with gl:=rest} ((S,cc)::rest) q p) (hp:p.2=true)=>hT.sim (Y:= { Y with gl:=rest}) hO hv hSt hSC1 hp
 have hTz:=fun(p:PS × Bool) (hT:Gt n qs X { Y with gl:=rest} ((S,cc)::rest) q p) (hp:p.2=true)=>hT.sz (st:=st+1) hp (by omega) (by omega) hzs.c
 generalize fd (bm P) ((S,cc)::rest) (wha Y.σ S) (P.len+1) 0 { Y with gl:=rest} 4000=p at*
 obtain ⟨q1,q2⟩:=q;obtain ⟨p1,p2⟩:=p;have hok:q2=p2:=hTr.ok;subst hok
 cases q2 with
 |true=>exact ⟨hTy _ hTr rfl,hTz _ hTr rfl,hTr.kp.1,hTr.kp.2.1⟩
 |false=>
  obtain ⟨a1,lf,fn,a2⟩:=hTr.no rfl;have a1':=a1;have a2':=a2;subst a2';have hlast:=hTr.kp.2.2
  have:=zt (X:= { X with left:=lf,fin:=fn}) (Y:=p1) hC hst (hO.same rfl rfl rfl hO.fst rfl) ⟨hzs.h,hzs.gs,hzs.c⟩ hTr.fin (fun _=>hSC.same rfl rfl rfl rfl a1' hlast) (by rw[a1'];exact hSC.cl)
  exact ⟨this.1,this.2.1,this.2.2.1.trans hTr.kp.1,this.2.2.2.trans hTr.kp.2.1⟩
end
end Go.Proofs.YtmggaclaoefdaabGreat
