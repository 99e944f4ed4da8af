/- Part of the proof. -/
import Derived.Test.YtmggaclaoefdaabGreatMzA
namespace Go.Proofs.YtmggaclaoefdaabGreat
open Go.RowKit Go.Proofs.Tryz
set_option linter.unusedVariables false
set_option linter.unusedSimpArgs false
set_option maxRecDepth 100000
set_option maxHeartbeats 8000000
section
open Go.Shelf
def am (c:jo) (X:PM):PM:= { X with h:=gw (X.h.take c.hp) (X.tr.drop c.tr),gs:=X.gs.take c.gs,tr:=X.tr.take c.tr,first:=c.goal}
def ai (X:PM):Gq:=X.gs.getD (X.first-1) ⟨0,0,0⟩
noncomputable def bf (X:PM):Nat:=aj (ah X.h) X.h.length (ai X).at_
def cd (c:Cl):Tm:=.mk 0 c.nm none c.n.toNat 0 fun _=> .nil
def dn (X:PM):jo:=⟨X.first,0,X.h.length,X.tr.length,X.gs.length⟩
noncomputable def j5 (P:Pg) (t:Tm) (was:jo) (at' nx:Nat):Nat->Nat->PM->PM × Bool
 |0,_,X=>(X,false)
 |f+1,i,X=>match cj (bm P) t i with
  |none=>(X,false)
  |some j=>if X.fin≠0 then (X,false)else
   match a7 (P.hd j) (P.bd j) at' nx X with
   | (Y,true)=>(match cj (bm P) t (j+1)with
     |none=>Y
     |some k=> { Y with cs:=Y.cs++ [{ was with cl:=k}]},true)
   | (Y,false)=>j5 P t was at' nx f (j+1) (am was Y)
noncomputable def i4 (P:Pg) (i:Nat) (X:PM):PM × Bool:=j5 P (cd (ah X.h (bf X))) (dn X) (bf X) (ai X).nx (P.len+1) i X
noncomputable def fz (P:Pg):Nat->PM->PM
 |0,X=>X
 |f+1,X=>if X.fin≠0 then X else match X.cs.getLast? with
  |none=> { X with fin:=1}
  |some c=>match i4 P c.cl { am c { X with cs:=X.cs.dropLast} with left:=4000} with
   | (Y,true)=>Y
   | (Y,false)=>fz P f Y
noncomputable def dr (P:Pg) (X:PM):PM:=fz P (X.cs.length+1) X
section
variable {lo:Nat} {w w':World} {s:Nat} {r:Rn} {X:PM} {qs:List Nat} {an:List Tm}
theorem Oh {hv' gv' tv':Value} {f:Int} (h1:hv'.ownBlock=r.hv.ownBlock) (h2:gv'.ownBlock=r.gv.ownBlock) (h3:tv'.ownBlock=r.tv.ownBlock):RK w s r { r with hv:=hv',gv:=gv',tv:=tv',first:=f}:=⟨rfl,rfl,rfl,rfl,fun k _ hm=>by
 rcases hm with e|e|e|e|e|e
 .exact .inl e
 .exact .inr (.inl (h1▸e))
 .exact rZ (.inl (h2▸e))
 .exact rZ (.inr (.inl e))
 .exact rZ (rZ (.inl (h3▸e)))
 .exact rZ (rZ (.inr e))⟩
theorem Kh {c:jo} (w:World) (M:MX lo w s r X qs an) (h1:c.hp<=X.h.length) (h2:c.tr<=X.tr.length) (h3:c.gs<=X.gs.length) (htr:X.tr.length<=10000000):
 Calls prog 136 #[.pointer (some ⟨s,0,none⟩),.agg #[iV (c.goal:Int),iV (c.cl:Int),iV (c.hp:Int),iV (c.tr:Int),iV (c.gs:Int)]] w fun e w'=>e=.returned (.tuple #[])/\∃r',MX lo w' s r' (am c X) qs an/\RK w s r r'/\r'.cv=r.cv/\Bw (cm s r) w.heap.size w w':=by
 refine (Ie w M.mn h1 h2 h3 htr).mono ?_;rintro e w' ⟨rfl,hv',gv',tv',hM,e1,e2,e3,hB⟩;exact ⟨rfl,_,⟨hM,rfl,M.left,M.fin⟩,Oh e1 e2 e3,rfl,hB⟩
theorem RK.trans {w1:World} {r1 r2:Rn} (h:RK w s r r1) (k:RK w1 s r1 r2) (hs:w.heap.size<=w1.heap.size):RK w s r r2:=⟨k.q.trans h.q,k.st.trans h.st,k.av.trans h.av,k.P.trans h.P,fun q hq hm=>h.own q hq (k.own q (lL hq hs) hm)⟩
theorem kz {w1 w2:World} {r1:Rn} (h:Bw (cm s r) w.heap.size w w1) (hk:RK w s r r1) (k:Bw (cm s r1) w1.heap.size w1 w2):Bw (cm s r) w.heap.size w w2:=h.trans ((k.mono h.size).wide fun q hq hm=>hk.own q hq hm)
end
end
theorem HG.free {l:List Cl} (G:HG (ah l) l.length) {v:Nat} (hv:v<l.length) (he:aj (ah l) l.length v=v) (hk:(ah l v).k=1):ah l v=fa v:=by
 have h1:=G.nmr v hv hk
 have h2:(ah l v).n=(v:Int):=by
  rcases G.end_or hv with c|c
  .have:=c.2;rw[he]at this;exact this
  .rw[he]at c;omega
 have h3:(ah l v).nm=⟨#[]⟩:=by
  have h4:(ah l v).nm.data.toList= []:=by rw[<-ByteArray.toList_eq];exact h1
  exact ByteArray.ext (Array.toList_inj.1 h4)
 unfold fa;generalize ah l v=c at*;obtain ⟨k,n,nm⟩:=c;simp only at hk h2 h3;rw[hk,h2,h3]
def MR.Und (r:MR) (s:MS):Prop:=∃new:List Nat,r.bs=s.2.2++new/\(∀i,i ∉ new->ah r.l i=ah s.2.1 i)/\∀i∈new,i<s.2.1.length/\ah s.2.1 i=fa i
theorem Und.self (s:MS):(MR.yes s).Und s:=⟨[],(List.append_nil _).symm,fun _ _=>rfl,fun _ h=>by cases h⟩
theorem Und.not (s:MS) (x:Int):(MR.no x s.2.1 s.2.2).Und s:=⟨[],(List.append_nil _).symm,fun _ _=>rfl,fun _ h=>by cases h⟩
theorem Und.trans {q:MR} {s s':MS} (hl:s'.2.1.length=s.2.1.length) (h:(MR.yes s').Und s) (k:q.Und s'):q.Und s:=by
 obtain ⟨n1,a1,a2,a3⟩:=h;obtain ⟨n2,b1,b2,b3⟩:=k;have a1':s'.2.2=s.2.2++n1:=a1;have a2': ∀i,i ∉ n1->ah s'.2.1 i=ah s.2.1 i:=a2;refine ⟨n1++n2,by rw[b1,a1',List.append_assoc],fun i hi=>?_,fun i hi=>?_⟩
 .rw[List.mem_append,not_or]at hi
  rw[b2 i hi.2,a2' i hi.1]
 .by_cases h1:i∈n1
  .exact a3 i h1
  .rcases List.mem_append.1 hi with h|h
   .exact absurd h h1
   .obtain ⟨c1,c2⟩:=b3 i h
    exact ⟨by omega,(a2' i h1).symm.trans c2⟩
theorem Gj {v t n:Nat} {l:List Cl} {bs:List Nat} (G:HG (ah l) l.length) (hv:v<l.length) (ht:t<l.length) (ev:aj (ah l) l.length v=v) (et:aj (ah l) l.length t=t) (hk:(ah l v).k=1):(r6 v t (n,l,bs)).Und (n,l,bs):=by
 unfold r6
 split
 .rename_i k _
  have hsw:((jy l v t).1=v\/(jy l v t).1=t)/\(ah l (jy l v t).1).k=1:=by
   unfold jy
   by_cases h:(ah l t).k=1/\v<t
   .rw[if_pos h];exact ⟨.inr rfl,h.1⟩
   .rw[if_neg h];exact ⟨.inl rfl,hk⟩
  have hx:(jy l v t).1<l.length:=by rcases hsw.1 with e|e <;> rw[e] <;> assumption
  have he:aj (ah l) l.length (jy l v t).1=(jy l v t).1:=by rcases hsw.1 with e|e <;> rw[e] <;> assumption
  refine ⟨[(jy l v t).1],rfl,fun i hi=>?_,fun i hi=>?_⟩
  .show ah (ig l (jy l v t).1 (jy l v t).2) i=ah l i
   rw[tz hx,dt (fun e=>hi (by rw[e];exact List.mem_singleton.2 rfl))]
  .have e:=List.mem_singleton.1 hi
   subst e;exact ⟨hx,G.free hx he hsw.2⟩
 .exact Und.not (n,l,bs) _
theorem N8 {F:Nat->Nat->MS->MR} {a b N:Nat} {s:MS} (G:MG s) (hF: ∀k,k<N->∀s',(MR.yes s').Good s->(F (a+1+k) (b+1+k) s').Good s'/\(F (a+1+k) (b+1+k) s').Und s'): ∀k,k<=N->(m8 F a b k s).Und s:=by
 intro k
 induction k with
 |zero=>intro _;exact Und.self s
 |succ k ih=>
  intro hk;have h1:=ih (by omega)
  have g1:=p7 G (fun k hk s' hs'=>(hF k hk s' hs').1) k (by omega)
  unfold m8
  cases hq:m8 F a b k s with
  |yes s'=>
   rw[hq]at h1 g1;exact Und.trans g1.len h1 (hF k (by omega) s' g1).2
  |no x l bs=>rw[hq]at h1;exact h1
theorem zx: ∀(f a b:Nat) (s:MS),MG s->a<s.2.1.length->b<s.2.1.length->(jn f a b s).Und s:=by
 intro f
 induction f with
 |zero=>intro a b s G _ _;exact Und.not s (-1)
 |succ f ih=>
  intro a b s G ha hb;obtain ⟨n,l,bs⟩:=s
  cases n with
  |zero=>exact Und.not (0,l,bs) (-1)
  |succ n=>
   have hG:=G.hg;have ha':=hG.end_lt ha;have hb':=hG.end_lt hb;have hea:=hG.end_end ha;have heb:=hG.end_end hb
   show (xc (jn f) (aj (ah l) l.length a) (aj (ah l) l.length b) (n,l,bs)).Und (n+1,l,bs)
   generalize aj (ah l) l.length a=x at*;generalize aj (ah l) l.length b=y at*;have G1:MG (n,l,bs):=⟨G.hg,G.nm⟩;have up: ∀r:MR,r.Und (n,l,bs)->r.Und (n+1,l,bs):=fun r h=>h
   refine up _ ?_;unfold xc
   show MR.Und (if (ah l x).k=1/\x=y then _ else if (ah l x).k=1 then r6 x y (n,l,bs)else if (ah l y).k=1 then r6 y x (n,l,bs)else if¬((ah l x).n=(ah l y).n/\(ah l x).nm.toList=(ah l y).nm.toList)then _ else m8 (jn f) x y (ah l x).n.toNat (n,l,bs)) (n,l,bs)
   by_cases h1:(ah l x).k=1/\x=y
   .rw[if_pos h1];exact Und.self _
   rw[if_neg h1]
   by_cases h2:(ah l x).k=1
   .rw[if_pos h2];exact Gj hG ha' hb' hea heb h2
   rw[if_neg h2]
   by_cases h3:(ah l y).k=1
   .rw[if_pos h3];exact Gj hG hb' ha' heb hea h3
   rw[if_neg h3]
   by_cases h4: ¬((ah l x).n=(ah l y).n/\(ah l x).nm.toList=(ah l y).nm.toList)
   .rw[if_pos h4];exact Und.not (n,l,bs) _
   rw[if_neg h4];have hxy:=(Classical.not_not.1 h4).1
   have ky:(ah l y).k=2:=by
    rcases hG.kind y hb' with h|h
    .exact absurd h h3
    .exact h
   refine N8 G1 (fun k hk s' hs'=>?_) _ lZ
   have kx:(ah l x).k=2:=by
    rcases hG.kind x ha' with h|h
    .exact absurd h h2
    .exact h
   have hn0:=hG.ok.n0 x ha';have hk':=hk;have hkI:(k:Int)<(ah l x).n:=by omega
   have e1:=(hG.kids x ha' kx k hkI).1;have e2:=(hG.kids y hb' ky k (by rw[<-hxy];exact hkI)).1
   have hl:s'.2.1.length=l.length:=hs'.len;exact ⟨gj f _ _ s' hs'.mg (by rw[hl];exact e1) (by rw[hl];exact e2),ih _ _ s' hs'.mg (by rw[hl];exact e1) (by rw[hl];exact e2)⟩
theorem Fy: ∀(ats:List Nat) (l:List Cl) (i:Nat),ah (gw l ats) i=if i∈ats/\i<l.length then fa i else ah l i:=by
 intro ats
 induction ats with
 |nil=>intro l i;simp[gw]
 |cons x ats ih=>
  intro l i
  show ah (gw (if x<l.length then l.set x (fa x)else l) ats) i=_
  rw[ih]
  by_cases hx:x<l.length
  .rw[if_pos hx,List.length_set,B1 hx]
   by_cases e:i=x
   .subst e
    simp[hx]
   .simp[e]
  .rw[if_neg hx]
   by_cases e:i=x
   .subst e
    simp[hx]
   .simp[e]
theorem zz {l k:List Cl} (hl:l.length=k.length) (h: ∀i,i<l.length->ah l i=ah k i):l=k:=by
 apply List.ext_getElem hl
 intro i h1 h2;have:=h i h1;rw[jg h1,jg h2]at this;exact this
theorem yk {l:List Cl} {n i:Nat} (hi:i<n):ah (l.take n) i=ah l i:=by
 unfold ah;rw[List.getD_eq_getElem?_getD,List.getD_eq_getElem?_getD,List.getElem?_take,if_pos hi]
theorem ud {h l:List Cl} {bs:List Nat} (hl:h.length<=l.length) (ho: ∀i,i<h.length->i ∉ bs->ah l i=ah h i) (hb: ∀i∈bs,i<h.length->ah h i=fa i):gw (l.take h.length) bs=h:=by
 have hlen:(l.take h.length).length=h.length:=by rw[List.length_take];omega
 refine zz (by rw[mq,hlen]) fun i hi=>?_
 rw[mq,hlen]at hi;rw[Fy,hlen]
 by_cases hm:i∈bs
 .rw[if_pos ⟨hm,hi⟩,hb i hm hi]
 .rw[if_neg (fun c=>hm c.1),yk hi,ho i hi hm]
theorem Ag {f:Nat->Tm} {c n:Nat} (hO: ∀i,i<n->d9 12 (f i)/\iz (f i)=0/\cnt (f i)<=1000) (q:Ax) (hv: ∀v c,q.1.2 v=some c->∃y:Nat,c=y/\y<q.1.1.length) (l:List Nat) (hl: ∀i∈l,i<n):q.1.1.length<=(ahP f c l q).1.1.length/\(∀i,i<q.1.1.length->ah (ahP f c l q).1.1 i=ah q.1.1 i)/\(ahP f c l q).2.1.take q.2.1.length=q.2.1:=by
 induction l generalizing q with
 |nil=>exact ⟨lZ,fun _ _=>rfl,List.take_length⟩
 |cons i l ih=>
  have hI:li q.1.1.length q.1:=⟨fun v c e=>by
   obtain ⟨y,e1,e2⟩:=hv v c e;exact ⟨y,e1,e2,fun h=>absurd h (by omega)⟩,fun x h1 h2=>absurd h2 (by omega),lZ⟩
  have hP:=iw (f i) (hO i (hl i List.mem_cons_self)).2.1 q.1 hI
  have h1:=ih (pe f c q i) (fun v c e=>by
   obtain ⟨y,e1,e2,_⟩:=hP.inv.var v c e;exact ⟨y,e1,e2⟩) (fun k hk=>hl k (List.mem_cons_of_mem _ hk))
  have e:ahP f c (i::l) q=ahP f c l (pe f c q i):=rfl;rw[e];have hlen:q.1.1.length<=(pe f c q i).1.1.length:=hP.len;have e2:(pe f c q i).2.1=q.2.1++ [⟨(bp (f i) q.1).2.toNat,c,q.2.2⟩]:=rfl;refine ⟨lT hlen h1.1,fun k hk=>(h1.2.1 k (by omega)).trans (hP.old k hk),?_⟩
  have h2:=congrArg (List.take q.2.1.length) h1.2.2;rw[e2,List.take_take,List.take_left,Nat.min_eq_left (by simp)]at h2
  exact h2
theorem ot {H B:Tm} {at' nx n:Nat} {X:PM} (hG:HG (ah X.h) X.h.length) (hH:iz H=0) (hOk:d9 12 H) (hB: ∀i,i<B.len->d9 12 (B.f i)/\iz (B.f i)=0/\cnt (B.f i)<=1000) (hat:at'<X.h.length) (hn:X.left=(n:Int)):am (dn X) (a7 H B at' nx X).1= { X with left:=(a7 H B at' nx X).1.left,fin:=(a7 H B at' nx X).1.fin}:=by
 have hPo:ws X.h.length (X.h,el) H (dk H X):=iw H hH (X.h,el) (jt X.h);have hl0:X.h.length<=(dk H X).1.1.length:=hPo.len;have hold: ∀i,i<X.h.length->ah (dk H X).1.1 i=ah X.h i:=hPo.old;unfold a7
 by_cases hf:dp (dk H X).1.1 X.gs=true
 .rw[if_pos hf]
  unfold am dn;simp only[List.take_length,List.drop_length];rw[ud (h:=X.h) hl0 (fun i hi _=>hold i hi) (fun i hi=>by cases hi)]
 rw[if_neg hf]
 have hl1:(dk H X).1.1.length<=400000:=by
  have hf':dp (dk H X).1.1 X.gs=false:=by simpa using hf
  unfold dp at hf';simp at hf';omega
 have hG3:HG (ah (dk H X).1.1) (dk H X).1.1.length:=hPo.inv.hg hG hold hl1;obtain ⟨t,ht,htl,_⟩:=hPo.at_
 have hER:dh H at' X=jn (n+1) t at' (n,(dk H X).1.1,[]):=by
  unfold dh;rw[ht,hn,Int.toNat_natCast,Int.toNat_natCast]
 have hGd:(dh H at' X).Good (n,(dk H X).1.1,[]):=by rw[hER];exact gj _ _ _ _ ⟨hG3,hG3.nmZ⟩ htl (by show at'<(dk H X).1.1.length;omega)
 have hUd:(dh H at' X).Und (n,(dk H X).1.1,[]):=by rw[hER];exact zx _ _ _ _ ⟨hG3,hG3.nmZ⟩ htl (by show at'<(dk H X).1.1.length;omega)
 obtain ⟨new,u1,u2,u3⟩:=hUd;have u1':(dh H at' X).bs=new:=u1;have hln:(dh H at' X).l.length=(dk H X).1.1.length:=hGd.len;have hb: ∀i∈new,i<X.h.length->ah X.h i=fa i:=fun i hi hl=>(hold i hl).symm.trans (u3 i hi).2
 have ho: ∀i,i<X.h.length->i ∉ new->ah (dh H at' X).l i=ah X.h i:=fun i hi hm=>(u2 i hm).trans (hold i hi)
 by_cases hok:(dh H at' X).ok=false
 .rw[if_pos hok]
  unfold am dn;simp only[List.take_length,List.take_left',List.drop_left',List.take_left,List.drop_left];rw[u1',ud (h:=X.h) (by omega) ho hb]
 rw[if_neg hok]
 have hA:=Ag (c:=X.cs.length) hB (((dh H at' X).l,(dk H X).1.2),X.gs,nx) (fun v c e=>by
  obtain ⟨y,e1,e2,_⟩:=hPo.inv.var v c e;exact ⟨y,e1,by show y<(dh H at' X).l.length;omega⟩) (ke B.len) (fun i hi=>by simpa[ke]using hi)
 have hA':X.h.length<=(gu H B at' nx X).1.1.length/\(∀i,i<(dh H at' X).l.length->ah (gu H B at' nx X).1.1 i=ah (dh H at' X).l i)/\(gu H B at' nx X).2.1.take X.gs.length=X.gs:=⟨by have h1:(dh H at' X).l.length<=(gu H B at' nx X).1.1.length:=hA.1;omega,hA.2.1,hA.2.2⟩
 have hre:gw ((gu H B at' nx X).1.1.take X.h.length) new=X.h:=ud hA'.1 (fun i hi hm=>(hA'.2.1 i (by omega)).trans (ho i hi hm)) hb
 by_cases hf2:dp (gu H B at' nx X).1.1 (gu H B at' nx X).2.1=true
 .rw[if_pos hf2]
  unfold am dn;simp only[List.take_left,List.drop_left];rw[u1',hre,hA'.2.2]
 .rw[if_neg hf2]
  unfold am dn;simp only[List.take_left,List.drop_left];rw[u1',hre,hA'.2.2]
theorem oz {H B:Tm} {at' nx n:Nat} {X:PM} (hG:HG (ah X.h) X.h.length) (hH:iz H=0) (hB: ∀i,i<B.len->d9 12 (B.f i)/\iz (B.f i)=0/\cnt (B.f i)<=1000) (hat:at'<X.h.length) (hn:X.left=(n:Int)) (hn4:n<=4000) (hf0:X.fin=0):
 (X.h.length<=(a7 H B at' nx X).1.h.length/\X.tr.length<=(a7 H B at' nx X).1.tr.length/\(a7 H B at' nx X).1.tr.length<=X.tr.length+4000/\X.gs.length<=(a7 H B at' nx X).1.gs.length)/\(a7 H B at' nx X).1.cs=X.cs/\((a7 H B at' nx X).1.fin=0->∃n':Nat,(a7 H B at' nx X).1.left=(n':Int)/\n'<=n):=by
 have hPo:ws X.h.length (X.h,el) H (dk H X):=iw H hH (X.h,el) (jt X.h);have hl0:X.h.length<=(dk H X).1.1.length:=hPo.len;have hold: ∀i,i<X.h.length->ah (dk H X).1.1 i=ah X.h i:=hPo.old;unfold a7
 by_cases hf:dp (dk H X).1.1 X.gs=true
 .rw[if_pos hf]
  exact ⟨⟨hl0,lZ,Nat.le_add_right _ _,lZ⟩,rfl,fun h=>absurd (show (3:Int)=0 from h) (by decide)⟩
 rw[if_neg hf]
 have hl1:(dk H X).1.1.length<=400000:=by
  have hf':dp (dk H X).1.1 X.gs=false:=by simpa using hf
  unfold dp at hf';simp at hf';omega
 have hG3:HG (ah (dk H X).1.1) (dk H X).1.1.length:=hPo.inv.hg hG hold hl1;obtain ⟨t,ht,htl,_⟩:=hPo.at_
 have hER:dh H at' X=jn (n+1) t at' (n,(dk H X).1.1,[]):=by
  unfold dh;rw[ht,hn,Int.toNat_natCast,Int.toNat_natCast]
 have hGd:(dh H at' X).Good (n,(dk H X).1.1,[]):=by rw[hER];exact gj _ _ _ _ ⟨hG3,hG3.nmZ⟩ htl (by show at'<(dk H X).1.1.length;omega)
 have hln:(dh H at' X).l.length=(dk H X).1.1.length:=hGd.len;have hle:(dh H at' X).left<=(n:Int):=hGd.le;have hbs:(dh H at' X).bs.length<=0+n:=hGd.bs';have htr:X.tr.length<=(X.tr++(dh H at' X).bs).length/\(X.tr++(dh H at' X).bs).length<=X.tr.length+4000:=by rw[List.length_append];omega
 have hfin:(if (dh H at' X).left<0 then (3:Int)else X.fin)=0->∃n':Nat,(dh H at' X).left=(n':Int)/\n'<=n:=fun h=>by
  by_cases hl:(dh H at' X).left<0
  .rw[if_pos hl]at h;exact absurd h (by decide)
  .exact ⟨(dh H at' X).left.toNat,by omega,by omega⟩
 by_cases hok:(dh H at' X).ok=false
 .rw[if_pos hok]
  exact ⟨⟨by show X.h.length<=(dh H at' X).l.length;omega,htr.1,htr.2,lZ⟩,rfl,hfin⟩
 rw[if_neg hok]
 have hA:=Ag (c:=X.cs.length) hB (((dh H at' X).l,(dk H X).1.2),X.gs,nx) (fun v c e=>by
  obtain ⟨y,e1,e2,_⟩:=hPo.inv.var v c e;exact ⟨y,e1,by show y<(dh H at' X).l.length;omega⟩) (ke B.len) (fun i hi=>by simpa[ke]using hi)
 have h1:(dh H at' X).l.length<=(gu H B at' nx X).1.1.length:=hA.1;have h2:(gu H B at' nx X).2.1.take X.gs.length=X.gs:=hA.2.2
 have h3:X.gs.length<=(gu H B at' nx X).2.1.length:=by
  have:=congrArg List.length h2;rw[List.length_take]at this;omega
 by_cases hf2:dp (gu H B at' nx X).1.1 (gu H B at' nx X).2.1=true
 .rw[if_pos hf2]
  exact ⟨⟨by show X.h.length<=(gu H B at' nx X).1.1.length;omega,htr.1,htr.2,h3⟩,rfl,fun h=>absurd (show (3:Int)=0 from h) (by decide)⟩
 .rw[if_neg hf2]
  exact ⟨⟨by show X.h.length<=(gu H B at' nx X).1.1.length;omega,htr.1,htr.2,h3⟩,rfl,hfin⟩
end Go.Proofs.YtmggaclaoefdaabGreat
