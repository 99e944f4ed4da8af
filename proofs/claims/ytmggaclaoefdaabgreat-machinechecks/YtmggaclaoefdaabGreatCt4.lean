/- Part of the proof. -/
import Derived.Test.YtmggaclaoefdaabGreatSq0
import Derived.Test.YtmggaclaoefdaabGreatGBR
namespace Go.Proofs.YtmggaclaoefdaabGreat
open Go.RowKit Go.Shelf
set_option linter.unusedVariables false
set_option linter.unusedSimpArgs false
def HPl (m:Mi) (i:Nat):Nat:=if i<m.cl then (m.c i).hp.toNat else m.hl
def TRl (m:Mi) (i:Nat):Nat:=if i<m.cl then (m.c i).tr.toNat else m.tl
def GSl (m:Mi) (i:Nat):Nat:=if i<m.cl then (m.c i).gs.toNat else m.gl
def UHl (m:Mi) (i j:Nat):Cl:=if (TRl m i:Int)≤lastI m m.tl j then ⟨1,(j:Int),⟨#[]⟩⟩else m.h j
def UIl (m:Mi) (i k j:Nat):Cl:=if (TRl m (i+1):Int)≤lastI m m.tl j∨(j<HPl m i∧(TRl m i:Int)≤lastI m k j)then ⟨1,(j:Int),⟨#[]⟩⟩else m.h j
theorem lastI_lt (m:Mi) (j:Nat): ∀k,lastI m k j<k:=by
 intro k
 induction k with
 |zero=>show (-1:Int)<0;omega
 |succ k ih=>
  rw[lastI]
  split
  ·omega
  ·omega
theorem lastI_ge {m:Mi} {j k:Nat}: ∀{a:Nat},k<a→m.t k=(j:Int)→(k:Int)≤lastI m a j:=by
 intro a
 induction a with
 |zero=>intro h;omega
 |succ a ih=>
  intro h e;rw[lastI]
  split
  ·omega
  ·rename_i hne
   exact ih (by by_cases x:k=a
                ·subst x;exact absurd e hne
                ·omega) e
theorem lastI_at {m:Mi} {j:Nat}: ∀{a:Nat},0≤lastI m a j→∃k,k<a∧m.t k=(j:Int)∧lastI m a j=k:=by
 intro a
 induction a with
 |zero=>intro h;exact absurd h (by show¬(0:Int)≤ -1;omega)
 |succ a ih=>
  intro h;rw[lastI]at h ⊢
  split
  ·rename_i e;exact ⟨a,by omega,e,rfl⟩
  ·rename_i hne
   rw[if_neg hne]at h;obtain ⟨k,h1,h2,h3⟩:=ih h;exact ⟨k,by omega,h2,h3⟩
theorem lastI_or {m:Mi} {j a b c:Nat} (hab:a≤b) (hbc:b≤c):(a:Int)≤lastI m c j↔(b:Int)≤lastI m c j∨(a:Int)≤lastI m b j:=by
 constructor
 ·intro h
  obtain ⟨k,h1,h2,h3⟩:=lastI_at (m:=m) (j:=j) (a:=c) (by omega)
  by_cases hk:k<b
  ·exact .inr (Int.le_trans (by omega) (lastI_ge hk h2))
  ·exact .inl (by omega)
 ·rintro (h|h)
  ·omega
  ·obtain ⟨k,h1,h2,h3⟩:=lastI_at (m:=m) (j:=j) (a:=b) (by omega)
   exact Int.le_trans (by omega) (lastI_ge (show k<c by omega) h2)
section
variable {m:Mi} {n:Int}
theorem grw_at (h:GrwP m n) {i:Nat} (hi:i<m.cl):(0≤(m.c i).hp∧0≤(m.c i).tr∧0≤(m.c i).gs)∧((m.c i).hp=(HPl m i:Int)∧(m.c i).tr=(TRl m i:Int)∧(m.c i).gs=(GSl m i:Int)):=by
 have hz:0≤(m.c i).hp∧0≤(m.c i).tr∧0≤(m.c i).gs:=by
  have h0:=h 0 (by omega)
  have h1:=h.up (Nat.zero_le i) hi;have a:=h0.h.1;have b:=h0.t.1;have c:=h0.g.1;have a':(0:Int)≤(m.c 0).hp:=a;have b':(0:Int)≤(m.c 0).tr:=b;have c':(0:Int)≤(m.c 0).gs:=c;exact ⟨by omega,by omega,by omega⟩
 refine ⟨hz,?_⟩;unfold HPl TRl GSl;rw[if_pos hi,if_pos hi,if_pos hi];exact ⟨by omega,by omega,by omega⟩
theorem grw_next (h:GrwP m n) {i:Nat} (hi:i<m.cl):HPl m i≤HPl m (i+1)∧TRl m i≤TRl m (i+1)∧GSl m i≤GSl m (i+1)∧HPl m (i+1)≤m.hl∧TRl m (i+1)≤m.tl∧GSl m (i+1)≤m.gl:=by
 have h1:=(grw_at h hi).2
 by_cases hi2:i+1<m.cl
 ·have h2:=(grw_at h hi2).2
  have h3:=h.up (show i≤i+1 by omega) hi2
  have h4:=h (i+1) hi2;have a:=h4.h.2;have b:=h4.t.2;have c:=h4.g.2;omega
 ·have h4:=h i hi
  have a:=h4.h.2;have b:=h4.t.2;have c:=h4.g.2;have e1:HPl m (i+1)=m.hl:=by unfold HPl;rw[if_neg hi2]
  have e2:TRl m (i+1)=m.tl:=by unfold TRl;rw[if_neg hi2]
  have e3:GSl m (i+1)=m.gl:=by unfold GSl;rw[if_neg hi2]
  omega
theorem UIl_zero (h:GrwP m n) {i:Nat} (hi:i<m.cl) (j:Nat):UIl m i (TRl m i) j=UHl m (i+1) j:=by
 unfold UIl UHl;have:=lastI_lt m j (TRl m i)
 by_cases hc:(TRl m (i+1):Int)≤lastI m m.tl j
 ·rw[if_pos (.inl hc),if_pos hc]
 ·rw[if_neg hc,if_neg (by rintro (h| ⟨_,h⟩) <;> omega)]
theorem UIl_end (h:GrwP m n) {i:Nat} (hi:i<m.cl) {j:Nat} (hj:j<HPl m i):UIl m i (TRl m (i+1)) j=UHl m i j:=by
 obtain ⟨_,h1,_,_,h2,_⟩:=grw_next h hi;unfold UIl UHl;have:=lastI_or (m:=m) (j:=j) h1 h2
 by_cases hc:(TRl m i:Int)≤lastI m m.tl j
 ·rw[if_pos hc,if_pos ((this.1 hc).imp id fun x=>⟨hj,x⟩)]
 ·rw[if_neg hc,if_neg (fun x=>hc (this.2 (x.imp id fun y=>y.2)))]
theorem UIl_step {i k x:Nat} (hk:TRl m i≤k) (hx:m.t k=(x:Int)) (j:Nat):UIl m i (k+1) j=if j=x∧x<HPl m i then ⟨1,(x:Int),⟨#[]⟩⟩else UIl m i k j:=by
 by_cases hj:j=x∧x<HPl m i
 ·obtain ⟨rfl,hlt⟩:=hj
  rw[if_pos ⟨rfl,hlt⟩];unfold UIl;have hl:(TRl m i:Int)≤lastI m (k+1) j:=by rw[lastI,if_pos hx];omega
  rw[if_pos (.inr ⟨hlt,hl⟩)]
 ·rw[if_neg hj]
  unfold UIl
  by_cases hlt:j<HPl m i
  ·have hne: ¬m.t k=(j:Int):=fun e=>hj ⟨by omega,by omega⟩
   rw[show lastI m (k+1) j=lastI m k j from by rw[lastI,if_neg hne]]
  ·simp[hlt]
def levM (m x:Mi) (i:Nat):Mi:= { x with hl:=HPl m i,h:=UHl m i,tl:=TRl m i,t:=m.t,gl:=GSl m i,g:=m.g,ql:=m.ql,q:=m.q}
theorem HG.cellOk {h:Nat→Cl} {len:Nat} (H:HG h len) {i:Nat} (hi:i<len):CellOk h len i:=by
 refine ⟨fun hk=>⟨H.ok.n0 i hi,?_⟩,fun hk=>?_⟩
 ·have h0:=H.ok.n0 i hi
  by_cases e:(h i).n=i
  ·omega
  ·have:=H.ok.inn i hi (h i).n.toNat (by unfold leads;rw[if_pos hk,if_neg e];simp)
   omega
 ·have hn:=H.ok.n0 i hi
  by_cases h0:(h i).n=0
  ·omega
  ·have:=(H.kids i hi hk ((h i).n.toNat-1) (by omega)).1
   omega
theorem thereB_iff:thereB m=true↔(∀i,i<m.gl→InH m.hl (m.g i).at_)∧(∀i,i<m.tl→InH m.hl (m.t i))∧∀i,i<m.ql→InH m.hl (m.q i):=by
 have hb: ∀x:Int,(!noneB m.hl x)=true↔InH m.hl x:=fun x=>by
  unfold noneB InH;simp
 unfold thereB;rw[Bool.and_eq_true,Bool.and_eq_true,allTo_iff,allTo_iff,allTo_iff];simp only[hb]
theorem thP_iff (H:HG m.h m.hl):ThP m↔thereB m=true:=by
 rw[thereB_iff];exact ⟨fun h=>h.2,fun h=>⟨fun i hi=>H.cellOk hi,h⟩⟩
theorem lost_iff {x:Nat→Mi} (H:HG m.h m.hl) (hT:thereB m=true) (hG:GrwP m n):LostP m↔∃i,i<m.cl∧¬ThP (levM m (x i) i):=by
 obtain ⟨hTg,hTt,hTq⟩:=thereB_iff.1 hT
 constructor
 ·rintro (⟨i,hi,k,hk,h1,h2⟩| ⟨i,hi,k,hk,h1,h2⟩| ⟨i,hi,k,hk,h1⟩| ⟨j,hj,k,hk,h1,h2,h3⟩)
  ·obtain ⟨_,e1,_,e3⟩:=grw_at hG hk
   refine ⟨k,hk,fun h=>?_⟩
   have:=h.2.1 i (by show i<GSl m k;omega)
   have h4:(m.g i).at_<(HPl m k:Int):=this.2;omega
  ·obtain ⟨_,e1,e2,_⟩:=grw_at hG hk
   refine ⟨k,hk,fun h=>?_⟩
   have:=h.2.2.1 i (by show i<TRl m k;omega)
   have h4:m.t i<(HPl m k:Int):=this.2;omega
  ·obtain ⟨_,e1,_,_⟩:=grw_at hG hk
   refine ⟨k,hk,fun h=>?_⟩
   have:=h.2.2.2 i hi;have h4:m.q i<(HPl m k:Int):=this.2;omega
  ·obtain ⟨_,e1,e2,_⟩:=grw_at hG hk
   refine ⟨k,hk,fun h=>?_⟩
   have hc:=h.1 j (by show j<HPl m k;omega)
   have hu:UHl m k j=m.h j:=by unfold UHl;rw[if_neg (by omega)]
   have hc':CellOk (UHl m k) (HPl m k) j:=hc;unfold CellOk at hc';rw[hu]at hc';unfold furI at h1
   rcases H.kind j hj with e|e
   ·rw[if_neg (by omega)]at h1
    have:=(hc'.1 e).2;omega
   ·rw[if_pos e]at h1
    have:=hc'.2 e;omega
 ·rintro ⟨k,hk,hn⟩
  obtain ⟨⟨z1,z2,z3⟩,e1,e2,e3⟩:=grw_at hG hk;obtain ⟨l1,l2,l3,l4,l5,l6⟩:=grw_next hG hk;refine Classical.byContradiction fun hL=>hn ⟨fun j hj=>?_,fun i hi=>?_,fun i hi=>?_,fun i hi=>?_⟩
  ·have hj':j<HPl m k:=hj
   show CellOk (UHl m k) (HPl m k) j
   by_cases hu:(TRl m k:Int)≤lastI m m.tl j
   ·have:UHl m k j=⟨1,(j:Int),⟨#[]⟩⟩:=by unfold UHl;rw[if_pos hu]
    unfold CellOk;rw[this];exact ⟨fun _=>⟨by show (0:Int)≤j;omega,by show (j:Int)<_;omega⟩,fun h=>absurd (show (1:Int)=2 from h) (by decide)⟩
   ·have hu':UHl m k j=m.h j:=by unfold UHl;rw[if_neg hu]
    have hj2:j<m.hl:=by omega
    have hf:furI (m.h j) j<(m.c k).hp:=by
     refine Classical.byContradiction fun hf=>hL (.inr (.inr (.inr ⟨j,hj2,k,hk,by omega,by omega,by omega⟩)))
    have hcok:=H.cellOk hj2;unfold CellOk at hcok ⊢;rw[hu'];unfold furI at hf;refine ⟨fun e=>⟨(hcok.1 e).1,?_⟩,fun e=>?_⟩
    ·rw[if_neg (by omega)]at hf;omega
    ·rw[if_pos e]at hf;omega
  ·have hi':i<GSl m k:=hi
   have h0:=hTg i (by omega)
   refine ⟨h0.1,?_⟩
   show (m.g i).at_<(HPl m k:Int)
   exact Classical.byContradiction fun hf=>hL (.inl ⟨i,by omega,k,hk,by omega,by omega⟩)
  ·have hi':i<TRl m k:=hi
   have h0:=hTt i (by omega)
   refine ⟨h0.1,?_⟩
   show m.t i<(HPl m k:Int)
   exact Classical.byContradiction fun hf=>hL (.inr (.inl ⟨i,by omega,k,hk,by omega,by omega⟩))
  ·have h0:=hTq i hi
   refine ⟨h0.1,?_⟩
   show m.q i<(HPl m k:Int)
   exact Classical.byContradiction fun hf=>hL (.inr (.inr (.inl ⟨i,hi,k,hk,by omega⟩)))
end
end Go.Proofs.YtmggaclaoefdaabGreat
