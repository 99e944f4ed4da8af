/- Part of the proof. Part of the proof. Part of the proof. -/
import Derived.Test.YtmggaclaoefdaabGreatSq0
import Derived.Test.YtmggaclaoefdaabGreatMzA
namespace Go.Proofs.YtmggaclaoefdaabGreat
open Go.RowKit Go.Shelf
set_option linter.unusedVariables false
set_option linter.unusedSimpArgs false
def undoP (c:Chq) (X:PM):PM:= { X with h:=rstH (X.h.take c.hp) (X.tr.drop c.tr),gs:=X.gs.take c.gs,tr:=X.tr.take c.tr,first:=c.goal}
def goalM (X:PM):Gq:=X.gs.getD (X.first-1) ⟨0,0,0⟩
noncomputable def atM (X:PM):Nat:=endA (hOf X.h) X.h.length (goalM X).at_
def nameT (c:Cl):Tm:=.mk 0 c.nm none c.n.toNat 0 fun _=> .nil
def wasM (X:PM):Chq:=⟨X.first,0,X.h.length,X.tr.length,X.gs.length⟩
noncomputable def tryF (P:Pg) (t:Tm) (was:Chq) (at' nx:Nat):Nat→Nat→PM→PM × Bool
 |0,_,X=>(X,false)
 |f+1,i,X=>match fitP (cls P) t i with
  |none=>(X,false)
  |some j=>if X.fin≠0 then (X,false)else
   match enterP (P.hd j) (P.bd j) at' nx X with
   | (Y,true)=>(match fitP (cls P) t (j+1)with
     |none=>Y
     |some k=> { Y with cs:=Y.cs++ [{ was with cl:=k}]},true)
   | (Y,false)=>tryF P t was at' nx f (j+1) (undoP was Y)
noncomputable def tryM (P:Pg) (i:Nat) (X:PM):PM × Bool:=tryF P (nameT (hOf X.h (atM X))) (wasM X) (atM X) (goalM X).nx (P.len+1) i X
noncomputable def backF (P:Pg):Nat→PM→PM
 |0,X=>X
 |f+1,X=>if X.fin≠0 then X else match X.cs.getLast? with
  |none=> { X with fin:=1}
  |some c=>match tryM P c.cl { undoP c { X with cs:=X.cs.dropLast} with left:=4000} with
   | (Y,true)=>Y
   | (Y,false)=>backF P f Y
noncomputable def backM (P:Pg) (X:PM):PM:=backF P (X.cs.length+1) X
section
variable {lo:Nat} {w w':World} {s:Nat} {r:Rn} {X:PM} {qs:List Nat} {an:List Tm}
theorem rk_undo {hv' gv' tv':Value} {f:Int} (h1:hv'.ownBlock=r.hv.ownBlock) (h2:gv'.ownBlock=r.gv.ownBlock) (h3:tv'.ownBlock=r.tv.ownBlock):RK w s r { r with hv:=hv',gv:=gv',tv:=tv',first:=f}:=⟨rfl,rfl,rfl,rfl,fun k _ hm=>by
 rcases hm with e|e|e|e|e|e
 ·exact .inl e
 ·exact .inr (.inl (h1▸e))
 ·exact .inr (.inr (.inl (h2▸e)))
 ·exact .inr (.inr (.inr (.inl e)))
 ·exact .inr (.inr (.inr (.inr (.inl (h3▸e)))))
 ·exact .inr (.inr (.inr (.inr (.inr e))))⟩
theorem mundoX {c:Chq} (w:World) (M:MX lo w s r X qs an) (h1:c.hp≤X.h.length) (h2:c.tr≤X.tr.length) (h3:c.gs≤X.gs.length) (htr:X.tr.length≤10000000):
 Calls Tryz.prog 136 #[.pointer (some ⟨s,0,none⟩),.agg #[iV (c.goal:Int),iV (c.cl:Int),iV (c.hp:Int),iV (c.tr:Int),iV (c.gs:Int)]] w fun e w'=>e=.returned (.tuple #[])∧∃r',MX lo w' s r' (undoP c X) qs an∧RK w s r r'∧r'.cv=r.cv∧Bw (MnR s r) w.heap.size w w':=by
 refine (mundo_any w M.mn h1 h2 h3 htr).mono ?_;rintro e w' ⟨rfl,hv',gv',tv',hM,e1,e2,e3,hB⟩;exact ⟨rfl,_,⟨hM,rfl,M.left,M.fin⟩,rk_undo e1 e2 e3,rfl,hB⟩
theorem RK.trans {w1:World} {r1 r2:Rn} (h:RK w s r r1) (k:RK w1 s r1 r2) (hs:w.heap.size≤w1.heap.size):RK w s r r2:=⟨k.q.trans h.q,k.st.trans h.st,k.av.trans h.av,k.P.trans h.P,fun q hq hm=>h.own q hq (k.own q (Nat.lt_of_lt_of_le hq hs) hm)⟩
theorem bw_next {w1 w2:World} {r1:Rn} (h:Bw (MnR s r) w.heap.size w w1) (hk:RK w s r r1) (k:Bw (MnR s r1) w1.heap.size w1 w2):Bw (MnR s r) w.heap.size w w2:=h.trans ((k.mono h.size).wide fun q hq hm=>hk.own q hq hm)
end
end Go.Proofs.YtmggaclaoefdaabGreat

namespace Go.Proofs.YtmggaclaoefdaabGreat
open Go.RowKit
set_option linter.unusedVariables false
set_option linter.unusedSimpArgs false
theorem HG.free {l:List Cl} (G:HG (hOf l) l.length) {v:Nat} (hv:v<l.length) (he:endA (hOf l) l.length v=v) (hk:(hOf l v).k=1):hOf l v=frC v:=by
 have h1:=G.nmr v hv hk
 have h2:(hOf l v).n=(v:Int):=by
  rcases G.end_or hv with c|c
  ·have:=c.2;rw[he]at this;exact this
  ·rw[he]at c;omega
 have h3:(hOf l v).nm=⟨#[]⟩:=by
  have h4:(hOf l v).nm.data.toList= []:=by rw[←ByteArray.toList_eq];exact h1
  exact ByteArray.ext (Array.toList_inj.1 h4)
 unfold frC;generalize hOf l v=c at*;obtain ⟨k,n,nm⟩:=c;simp only at hk h2 h3;rw[hk,h2,h3]
def MR.Und (r:MR) (s:MS):Prop:=∃new:List Nat,r.bs=s.2.2++new∧(∀i,i ∉ new→hOf r.l i=hOf s.2.1 i)∧∀i∈new,i<s.2.1.length∧hOf s.2.1 i=frC i
theorem Und.self (s:MS):(MR.yes s).Und s:=⟨[],(List.append_nil _).symm,fun _ _=>rfl,fun _ h=>by cases h⟩
theorem Und.not (s:MS) (x:Int):(MR.no x s.2.1 s.2.2).Und s:=⟨[],(List.append_nil _).symm,fun _ _=>rfl,fun _ h=>by cases h⟩
theorem Und.trans {q:MR} {s s':MS} (hl:s'.2.1.length=s.2.1.length) (h:(MR.yes s').Und s) (k:q.Und s'):q.Und s:=by
 obtain ⟨n1,a1,a2,a3⟩:=h;obtain ⟨n2,b1,b2,b3⟩:=k;have a1':s'.2.2=s.2.2++n1:=a1;have a2': ∀i,i ∉ n1→hOf s'.2.1 i=hOf s.2.1 i:=a2;refine ⟨n1++n2,by rw[b1,a1',List.append_assoc],fun i hi=>?_,fun i hi=>?_⟩
 ·rw[List.mem_append,not_or]at hi
  rw[b2 i hi.2,a2' i hi.1]
 ·by_cases h1:i∈n1
  ·exact a3 i h1
  ·rcases List.mem_append.1 hi with h|h
   ·exact absurd h h1
   ·obtain ⟨c1,c2⟩:=b3 i h
    exact ⟨by omega,(a2' i h1).symm.trans c2⟩
theorem bdH_und {v t n:Nat} {l:List Cl} {bs:List Nat} (G:HG (hOf l) l.length) (hv:v<l.length) (ht:t<l.length) (ev:endA (hOf l) l.length v=v) (et:endA (hOf l) l.length t=t) (hk:(hOf l v).k=1):(bdH v t (n,l,bs)).Und (n,l,bs):=by
 unfold bdH
 split
 ·rename_i k _
  have hsw:((swB l v t).1=v∨(swB l v t).1=t)∧(hOf l (swB l v t).1).k=1:=by
   unfold swB
   by_cases h:(hOf l t).k=1∧v<t
   ·rw[if_pos h];exact ⟨.inr rfl,h.1⟩
   ·rw[if_neg h];exact ⟨.inl rfl,hk⟩
  have hx:(swB l v t).1<l.length:=by rcases hsw.1 with e|e <;> rw[e] <;> assumption
  have he:endA (hOf l) l.length (swB l v t).1=(swB l v t).1:=by rcases hsw.1 with e|e <;> rw[e] <;> assumption
  refine ⟨[(swB l v t).1],rfl,fun i hi=>?_,fun i hi=>?_⟩
  ·show hOf (bndL l (swB l v t).1 (swB l v t).2) i=hOf l i
   rw[bndL_h hx,bndH_ne (fun e=>hi (by rw[e];exact List.mem_singleton.2 rfl))]
  ·have e:=List.mem_singleton.1 hi
   subst e;exact ⟨hx,G.free hx he hsw.2⟩
 ·exact Und.not (n,l,bs) _
theorem smK_und {F:Nat→Nat→MS→MR} {a b N:Nat} {s:MS} (G:MG s) (hF: ∀k,k<N→∀s',(MR.yes s').Good s→(F (a+1+k) (b+1+k) s').Good s'∧(F (a+1+k) (b+1+k) s').Und s'): ∀k,k≤N→(smK F a b k s).Und s:=by
 intro k
 induction k with
 |zero=>intro _;exact Und.self s
 |succ k ih=>
  intro hk;have h1:=ih (by omega)
  have g1:=smK_good G (fun k hk s' hs'=>(hF k hk s' hs').1) k (by omega)
  unfold smK
  cases hq:smK F a b k s with
  |yes s'=>
   rw[hq]at h1 g1;exact Und.trans g1.len h1 (hF k (by omega) s' g1).2
  |no x l bs=>rw[hq]at h1;exact h1
theorem smH_und: ∀(f a b:Nat) (s:MS),MG s→a<s.2.1.length→b<s.2.1.length→(smH f a b s).Und s:=by
 intro f
 induction f with
 |zero=>intro a b s G _ _;exact Und.not s (-1)
 |succ f ih=>
  intro a b s G ha hb;obtain ⟨n,l,bs⟩:=s
  cases n with
  |zero=>exact Und.not (0,l,bs) (-1)
  |succ n=>
   have hG:=G.hg;have ha':=hG.end_lt ha;have hb':=hG.end_lt hb;have hea:=hG.end_end ha;have heb:=hG.end_end hb
   show (smE (smH f) (endA (hOf l) l.length a) (endA (hOf l) l.length b) (n,l,bs)).Und (n+1,l,bs)
   generalize endA (hOf l) l.length a=x at*;generalize endA (hOf l) l.length b=y at*;have G1:MG (n,l,bs):=⟨G.hg,G.nm⟩;have up: ∀r:MR,r.Und (n,l,bs)→r.Und (n+1,l,bs):=fun r h=>h
   refine up _ ?_;unfold smE
   show MR.Und (if (hOf l x).k=1∧x=y then _ else if (hOf l x).k=1 then bdH x y (n,l,bs)else if (hOf l y).k=1 then bdH y x (n,l,bs)else if¬((hOf l x).n=(hOf l y).n∧(hOf l x).nm.toList=(hOf l y).nm.toList)then _ else smK (smH f) x y (hOf l x).n.toNat (n,l,bs)) (n,l,bs)
   by_cases h1:(hOf l x).k=1∧x=y
   ·rw[if_pos h1];exact Und.self _
   rw[if_neg h1]
   by_cases h2:(hOf l x).k=1
   ·rw[if_pos h2];exact bdH_und hG ha' hb' hea heb h2
   rw[if_neg h2]
   by_cases h3:(hOf l y).k=1
   ·rw[if_pos h3];exact bdH_und hG hb' ha' heb hea h3
   rw[if_neg h3]
   by_cases h4: ¬((hOf l x).n=(hOf l y).n∧(hOf l x).nm.toList=(hOf l y).nm.toList)
   ·rw[if_pos h4];exact Und.not (n,l,bs) _
   rw[if_neg h4];have hxy:=(Classical.not_not.1 h4).1
   have ky:(hOf l y).k=2:=by
    rcases hG.kind y hb' with h|h
    ·exact absurd h h3
    ·exact h
   refine smK_und G1 (fun k hk s' hs'=>?_) _ (Nat.le_refl _)
   have kx:(hOf l x).k=2:=by
    rcases hG.kind x ha' with h|h
    ·exact absurd h h2
    ·exact h
   have hn0:=hG.ok.n0 x ha';have hk':=hk;have hkI:(k:Int)<(hOf l x).n:=by omega
   have e1:=(hG.kids x ha' kx k hkI).1;have e2:=(hG.kids y hb' ky k (by rw[←hxy];exact hkI)).1
   have hl:s'.2.1.length=l.length:=hs'.len;exact ⟨smH_good f _ _ s' hs'.mg (by rw[hl];exact e1) (by rw[hl];exact e2),ih _ _ s' hs'.mg (by rw[hl];exact e1) (by rw[hl];exact e2)⟩
theorem rstH_at: ∀(ats:List Nat) (l:List Cl) (i:Nat),hOf (rstH l ats) i=if i∈ats∧i<l.length then frC i else hOf l i:=by
 intro ats
 induction ats with
 |nil=>intro l i;simp[rstH]
 |cons x ats ih=>
  intro l i
  show hOf (rstH (if x<l.length then l.set x (frC x)else l) ats) i=_
  rw[ih]
  by_cases hx:x<l.length
  ·rw[if_pos hx,List.length_set,hOf_set' hx]
   by_cases e:i=x
   ·subst e
    simp[hx]
   ·simp[e]
  ·rw[if_neg hx]
   by_cases e:i=x
   ·subst e
    simp[hx]
   ·simp[e]
theorem hOf_ext {l k:List Cl} (hl:l.length=k.length) (h: ∀i,i<l.length→hOf l i=hOf k i):l=k:=by
 apply List.ext_getElem hl
 intro i h1 h2;have:=h i h1;rw[hOf_get h1,hOf_get h2]at this;exact this
theorem hOf_takeU {l:List Cl} {n i:Nat} (hi:i<n):hOf (l.take n) i=hOf l i:=by
 unfold hOf;rw[List.getD_eq_getElem?_getD,List.getD_eq_getElem?_getD,List.getElem?_take,if_pos hi]
theorem rst_back {h l:List Cl} {bs:List Nat} (hl:h.length≤l.length) (ho: ∀i,i<h.length→i ∉ bs→hOf l i=hOf h i) (hb: ∀i∈bs,i<h.length→hOf h i=frC i):rstH (l.take h.length) bs=h:=by
 have hlen:(l.take h.length).length=h.length:=by rw[List.length_take];omega
 refine hOf_ext (by rw[rstH_len,hlen]) fun i hi=>?_
 rw[rstH_len,hlen]at hi;rw[rstH_at,hlen]
 by_cases hm:i∈bs
 ·rw[if_pos ⟨hm,hi⟩,hb i hm hi]
 ·rw[if_neg (fun c=>hm c.1),hOf_takeU hi,ho i hi hm]
theorem ahP_pre {f:Nat→Tm} {c n:Nat} (hO: ∀i,i<n→Okv 12 (f i)∧err (f i)=0∧cnt (f i)≤1000) (q:AhS) (hv: ∀v c,q.1.2 v=some c→∃y:Nat,c=y∧y<q.1.1.length) (l:List Nat) (hl: ∀i∈l,i<n):q.1.1.length≤(ahP f c l q).1.1.length∧(∀i,i<q.1.1.length→hOf (ahP f c l q).1.1 i=hOf q.1.1 i)∧(ahP f c l q).2.1.take q.2.1.length=q.2.1:=by
 induction l generalizing q with
 |nil=>exact ⟨Nat.le_refl _,fun _ _=>rfl,List.take_length⟩
 |cons i l ih=>
  have hI:PutI q.1.1.length q.1:=⟨fun v c e=>by
   obtain ⟨y,e1,e2⟩:=hv v c e;exact ⟨y,e1,e2,fun h=>absurd h (by omega)⟩,fun x h1 h2=>absurd h2 (by omega),Nat.le_refl _⟩
  have hP:=putT_po (f i) (hO i (hl i List.mem_cons_self)).2.1 q.1 hI
  have h1:=ih (ahS f c q i) (fun v c e=>by
   obtain ⟨y,e1,e2,_⟩:=hP.inv.var v c e;exact ⟨y,e1,e2⟩) (fun k hk=>hl k (List.mem_cons_of_mem _ hk))
  have e:ahP f c (i::l) q=ahP f c l (ahS f c q i):=rfl;rw[e];have hlen:q.1.1.length≤(ahS f c q i).1.1.length:=hP.len;have e2:(ahS f c q i).2.1=q.2.1++ [⟨(putT (f i) q.1).2.toNat,c,q.2.2⟩]:=rfl;refine ⟨Nat.le_trans hlen h1.1,fun k hk=>(h1.2.1 k (by omega)).trans (hP.old k hk),?_⟩
  have h2:=congrArg (List.take q.2.1.length) h1.2.2;rw[e2,List.take_take,List.take_left,Nat.min_eq_left (by simp)]at h2
  exact h2
theorem undo_enter {H B:Tm} {at' nx n:Nat} {X:PM} (hG:HG (hOf X.h) X.h.length) (hH:err H=0) (hOk:Okv 12 H) (hB: ∀i,i<B.len→Okv 12 (B.f i)∧err (B.f i)=0∧cnt (B.f i)≤1000) (hat:at'<X.h.length) (hn:X.left=(n:Int)):undoP (wasM X) (enterP H B at' nx X).1= { X with left:=(enterP H B at' nx X).1.left,fin:=(enterP H B at' nx X).1.fin}:=by
 have hPo:PutO X.h.length (X.h,nosub) H (enP H X):=putT_po H hH (X.h,nosub) (nosub_put X.h);have hl0:X.h.length≤(enP H X).1.1.length:=hPo.len;have hold: ∀i,i<X.h.length→hOf (enP H X).1.1 i=hOf X.h i:=hPo.old;unfold enterP
 by_cases hf:fullB (enP H X).1.1 X.gs=true
 ·rw[if_pos hf]
  unfold undoP wasM;simp only[List.take_length,List.drop_length];rw[rst_back (h:=X.h) hl0 (fun i hi _=>hold i hi) (fun i hi=>by cases hi)]
 rw[if_neg hf]
 have hl1:(enP H X).1.1.length≤400000:=by
  have hf':fullB (enP H X).1.1 X.gs=false:=by simpa using hf
  unfold fullB at hf';simp at hf';omega
 have hG3:HG (hOf (enP H X).1.1) (enP H X).1.1.length:=hPo.inv.hg hG hold hl1;obtain ⟨t,ht,htl,_⟩:=hPo.at_
 have hER:enR H at' X=smH (n+1) t at' (n,(enP H X).1.1,[]):=by
  unfold enR;rw[ht,hn,Int.toNat_natCast,Int.toNat_natCast]
 have hGd:(enR H at' X).Good (n,(enP H X).1.1,[]):=by rw[hER];exact smH_good _ _ _ _ ⟨hG3,hG3.nmZ⟩ htl (by show at'<(enP H X).1.1.length;omega)
 have hUd:(enR H at' X).Und (n,(enP H X).1.1,[]):=by rw[hER];exact smH_und _ _ _ _ ⟨hG3,hG3.nmZ⟩ htl (by show at'<(enP H X).1.1.length;omega)
 obtain ⟨new,u1,u2,u3⟩:=hUd;have u1':(enR H at' X).bs=new:=u1;have hln:(enR H at' X).l.length=(enP H X).1.1.length:=hGd.len;have hb: ∀i∈new,i<X.h.length→hOf X.h i=frC i:=fun i hi hl=>(hold i hl).symm.trans (u3 i hi).2
 have ho: ∀i,i<X.h.length→i ∉ new→hOf (enR H at' X).l i=hOf X.h i:=fun i hi hm=>(u2 i hm).trans (hold i hi)
 by_cases hok:(enR H at' X).ok=false
 ·rw[if_pos hok]
  unfold undoP wasM;simp only[List.take_length,List.take_left',List.drop_left',List.take_left,List.drop_left];rw[u1',rst_back (h:=X.h) (by omega) ho hb]
 rw[if_neg hok]
 have hA:=ahP_pre (c:=X.cs.length) hB (((enR H at' X).l,(enP H X).1.2),X.gs,nx) (fun v c e=>by
  obtain ⟨y,e1,e2,_⟩:=hPo.inv.var v c e;exact ⟨y,e1,by show y<(enR H at' X).l.length;omega⟩) (bwL B.len) (fun i hi=>by simpa[bwL]using hi)
 have hA':X.h.length≤(enA H B at' nx X).1.1.length∧(∀i,i<(enR H at' X).l.length→hOf (enA H B at' nx X).1.1 i=hOf (enR H at' X).l i)∧(enA H B at' nx X).2.1.take X.gs.length=X.gs:=⟨by have h1:(enR H at' X).l.length≤(enA H B at' nx X).1.1.length:=hA.1;omega,hA.2.1,hA.2.2⟩
 have hre:rstH ((enA H B at' nx X).1.1.take X.h.length) new=X.h:=rst_back hA'.1 (fun i hi hm=>(hA'.2.1 i (by omega)).trans (ho i hi hm)) hb
 by_cases hf2:fullB (enA H B at' nx X).1.1 (enA H B at' nx X).2.1=true
 ·rw[if_pos hf2]
  unfold undoP wasM;simp only[List.take_left,List.drop_left];rw[u1',hre,hA'.2.2]
 ·rw[if_neg hf2]
  unfold undoP wasM;simp only[List.take_left,List.drop_left];rw[u1',hre,hA'.2.2]
end Go.Proofs.YtmggaclaoefdaabGreat

namespace Go.Proofs.YtmggaclaoefdaabGreat
open Go.RowKit
set_option linter.unusedVariables false
set_option linter.unusedSimpArgs false
theorem enter_grow {H B:Tm} {at' nx n:Nat} {X:PM} (hG:HG (hOf X.h) X.h.length) (hH:err H=0) (hB: ∀i,i<B.len→Okv 12 (B.f i)∧err (B.f i)=0∧cnt (B.f i)≤1000) (hat:at'<X.h.length) (hn:X.left=(n:Int)) (hn4:n≤4000) (hf0:X.fin=0):
 (X.h.length≤(enterP H B at' nx X).1.h.length∧X.tr.length≤(enterP H B at' nx X).1.tr.length∧(enterP H B at' nx X).1.tr.length≤X.tr.length+4000∧X.gs.length≤(enterP H B at' nx X).1.gs.length)∧(enterP H B at' nx X).1.cs=X.cs∧((enterP H B at' nx X).1.fin=0→∃n':Nat,(enterP H B at' nx X).1.left=(n':Int)∧n'≤n):=by
 have hPo:PutO X.h.length (X.h,nosub) H (enP H X):=putT_po H hH (X.h,nosub) (nosub_put X.h);have hl0:X.h.length≤(enP H X).1.1.length:=hPo.len;have hold: ∀i,i<X.h.length→hOf (enP H X).1.1 i=hOf X.h i:=hPo.old;unfold enterP
 by_cases hf:fullB (enP H X).1.1 X.gs=true
 ·rw[if_pos hf]
  exact ⟨⟨hl0,Nat.le_refl _,Nat.le_add_right _ _,Nat.le_refl _⟩,rfl,fun h=>absurd (show (3:Int)=0 from h) (by decide)⟩
 rw[if_neg hf]
 have hl1:(enP H X).1.1.length≤400000:=by
  have hf':fullB (enP H X).1.1 X.gs=false:=by simpa using hf
  unfold fullB at hf';simp at hf';omega
 have hG3:HG (hOf (enP H X).1.1) (enP H X).1.1.length:=hPo.inv.hg hG hold hl1;obtain ⟨t,ht,htl,_⟩:=hPo.at_
 have hER:enR H at' X=smH (n+1) t at' (n,(enP H X).1.1,[]):=by
  unfold enR;rw[ht,hn,Int.toNat_natCast,Int.toNat_natCast]
 have hGd:(enR H at' X).Good (n,(enP H X).1.1,[]):=by rw[hER];exact smH_good _ _ _ _ ⟨hG3,hG3.nmZ⟩ htl (by show at'<(enP H X).1.1.length;omega)
 have hln:(enR H at' X).l.length=(enP H X).1.1.length:=hGd.len;have hle:(enR H at' X).left≤(n:Int):=hGd.le;have hbs:(enR H at' X).bs.length≤0+n:=hGd.bs';have htr:X.tr.length≤(X.tr++(enR H at' X).bs).length∧(X.tr++(enR H at' X).bs).length≤X.tr.length+4000:=by rw[List.length_append];omega
 have hfin:(if (enR H at' X).left<0 then (3:Int)else X.fin)=0→∃n':Nat,(enR H at' X).left=(n':Int)∧n'≤n:=fun h=>by
  by_cases hl:(enR H at' X).left<0
  ·rw[if_pos hl]at h;exact absurd h (by decide)
  ·exact ⟨(enR H at' X).left.toNat,by omega,by omega⟩
 by_cases hok:(enR H at' X).ok=false
 ·rw[if_pos hok]
  exact ⟨⟨by show X.h.length≤(enR H at' X).l.length;omega,htr.1,htr.2,Nat.le_refl _⟩,rfl,hfin⟩
 rw[if_neg hok]
 have hA:=ahP_pre (c:=X.cs.length) hB (((enR H at' X).l,(enP H X).1.2),X.gs,nx) (fun v c e=>by
  obtain ⟨y,e1,e2,_⟩:=hPo.inv.var v c e;exact ⟨y,e1,by show y<(enR H at' X).l.length;omega⟩) (bwL B.len) (fun i hi=>by simpa[bwL]using hi)
 have h1:(enR H at' X).l.length≤(enA H B at' nx X).1.1.length:=hA.1;have h2:(enA H B at' nx X).2.1.take X.gs.length=X.gs:=hA.2.2
 have h3:X.gs.length≤(enA H B at' nx X).2.1.length:=by
  have:=congrArg List.length h2;rw[List.length_take]at this;omega
 by_cases hf2:fullB (enA H B at' nx X).1.1 (enA H B at' nx X).2.1=true
 ·rw[if_pos hf2]
  exact ⟨⟨by show X.h.length≤(enA H B at' nx X).1.1.length;omega,htr.1,htr.2,h3⟩,rfl,fun h=>absurd (show (3:Int)=0 from h) (by decide)⟩
 ·rw[if_neg hf2]
  exact ⟨⟨by show X.h.length≤(enA H B at' nx X).1.1.length;omega,htr.1,htr.2,h3⟩,rfl,hfin⟩
end Go.Proofs.YtmggaclaoefdaabGreat
