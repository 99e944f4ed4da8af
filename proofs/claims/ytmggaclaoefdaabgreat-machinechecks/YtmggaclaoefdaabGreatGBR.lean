/- Part of the proof. Part of the proof. -/
import Derived.Test.YtmggaclaoefdaabGreatSq0
import Derived.Test.YtmggaclaoefdaabGreatCkA
import Derived.Test.YtmggaclaoefdaabGreatGBN
namespace Go.Proofs.YtmggaclaoefdaabGreat
open Go.RowKit Go.Shelf
set_option linter.unusedVariables false
set_option linter.unusedSimpArgs false
structure MOf (m:Mi) (F:FM) (qs:List Nat):Prop where
 hl:m.hl=F.m.h.length
 h:m.h=hOf F.m.h
 gl:m.gl=F.m.gs.length
 g: ∀(i:Nat) (g:Gq),F.m.gs[i]?=some g→m.g i=⟨g.at_,g.cut,g.nx⟩
 cl:m.cl=F.m.cs.length
 c: ∀(i:Nat) (c:Chq),F.m.cs[i]?=some c→m.c i=⟨c.goal,c.cl,c.hp,c.tr,c.gs⟩
 tl:m.tl=F.m.tr.length
 t: ∀(i x:Nat),F.m.tr[i]?=some x→m.t i=x
 ql:m.ql=qs.length
 q: ∀(i x:Nat),qs[i]?=some x→m.q i=x
 first:m.first=F.m.first
 st:m.st=F.st
 fin:m.fin=F.m.fin
theorem MC.mof {lo:Nat} {w:World} {r:Rn} {F:FM} {qs:List Nat} {an:List Tm} (M:MC lo w r F qs an) (hg:HG (hOf F.m.h) F.m.h.length) (hb:F.m.gs.length≤17592186043904∧F.m.cs.length≤17592186043904∧F.m.tr.length≤17592186043904∧qs.length≤17592186043904): ∃m:Mi,m.cells=mC r∧MIn w m∧MOf m F qs:=by
 obtain ⟨a0,c0,e0,k0,_,_⟩:=row_nil M.hp;obtain ⟨a1,c1,e1,k1,_,s1⟩:=row_nil M.go;obtain ⟨a3,c3,e3,k3,_,s3⟩:=row_nil M.ch;obtain ⟨a4,c4,e4,k4,_,s4⟩:=row_nil M.tl;obtain ⟨a5,c5,e5,k5,_,s5⟩:=row_nil M.qu;obtain ⟨a8,c8,e8,k8,_,s8⟩:=row_nil M.anr;have M0:=M.hp;have M1:=M.go;have M3:=M.ch;have M4:=M.tl;have M5:=M.qu;rw[e0]at M0;rw[e1]at M1;rw[e3]at M3;rw[e4]at M4;rw[e5]at M5;refine ⟨⟨a0,F.m.h.length,c0,hOf F.m.h,a1,F.m.gs.length,c1,fun i=>(F.m.gs[i]?.map fun g=>(⟨g.at_,g.cut,g.nx⟩:Gi)).getD ⟨0,0,0⟩,r.first,a3,F.m.cs.length,c3,fun i=>(F.m.cs[i]?.map fun c=>(⟨c.goal,c.cl,c.hp,c.tr,c.gs⟩:Ci)).getD ciZ,a4,F.m.tr.length,c4,fun i=>(F.m.tr[i]?.map fun x:Nat=>(x:Int)).getD 0,a5,qs.length,c5,fun i=>(qs[i]?.map fun x:Nat=>(x:Int)).getD 0,r.st,r.fin,a8,an.length,c8⟩,?_,?_,?_⟩
 ·unfold Mi.cells mC
  simp only;rw[e0,e1,e3,e4,e5,e8]
 ·refine ⟨CRw.hin M0 rfl hg.nmZ,k0,fun i hi=>?_,fun i hi=>?_,fun i hi=>?_,fun i hi=>?_,hb⟩
  ·have hi':i<F.m.gs.length:=hi
   have hk:=flatG_get F.m.gs i _ (List.getElem?_eq_getElem hi');have hln:=flatG_len F.m.gs;simp only[List.getElem?_eq_getElem hi',Option.map_some,Option.getD_some]
   cases a1 with
   |none=>rcases M1.2 with ⟨_,h⟩| ⟨_,_,_,h,_⟩
          ·omega
          ·cases h
   |some ad=>
    obtain ⟨g,rfl⟩:=s1 ad rfl;refine ⟨g,0,rfl,?_,?_,?_⟩ <;> simp only[Nat.zero_add]
    ·exact (M1.cellAt (i*3) (by omega)).trans hk.1
    ·exact (M1.cellAt (i*3+1) (by omega)).trans hk.2.1
    ·exact (M1.cellAt (i*3+2) (by omega)).trans hk.2.2
  ·have hi':i<F.m.cs.length:=hi
   have hk:=flatK_get F.m.cs i _ (List.getElem?_eq_getElem hi');simp only[List.getElem?_eq_getElem hi',Option.map_some,Option.getD_some]
   cases a3 with
   |none=>rcases M3.2 with ⟨_,h⟩| ⟨_,_,_,h,_⟩
          ·omega
          ·cases h
   |some ad=>
    obtain ⟨g,rfl⟩:=s3 ad rfl;refine ⟨g,0,rfl,?_,?_,?_,?_,?_⟩ <;> simp only[Nat.zero_add]
    ·exact (M3.cellAt (i*5) (by omega)).trans hk.1
    ·exact (M3.cellAt (i*5+1) (by omega)).trans hk.2.1
    ·exact (M3.cellAt (i*5+2) (by omega)).trans hk.2.2.1
    ·exact (M3.cellAt (i*5+3) (by omega)).trans hk.2.2.2.1
    ·exact (M3.cellAt (i*5+4) (by omega)).trans hk.2.2.2.2
  ·have hi':i<F.m.tr.length:=hi
   simp only[List.getElem?_eq_getElem hi',Option.map_some,Option.getD_some]
   cases a4 with
   |none=>rcases M4.2 with ⟨_,h⟩| ⟨_,_,_,h,_⟩
          ·omega
          ·cases h
   |some ad=>
    obtain ⟨g,rfl⟩:=s4 ad rfl;refine ⟨g,0,rfl,?_⟩;simp only[Nat.zero_add];exact (M4.cellAt i (by omega)).trans (by simp[natL,hi'])
  ·have hi':i<qs.length:=hi
   simp only[List.getElem?_eq_getElem hi',Option.map_some,Option.getD_some]
   cases a5 with
   |none=>rcases M5.2 with ⟨_,h⟩| ⟨_,_,_,h,_⟩
          ·omega
          ·cases h
   |some ad=>
    obtain ⟨g,rfl⟩:=s5 ad rfl;refine ⟨g,0,rfl,?_⟩;simp only[Nat.zero_add];exact (M5.cellAt i (by omega)).trans (by simp[natL,hi'])
 ·exact ⟨rfl,rfl,rfl,fun i g h=>by simp only[h,Option.map_some,Option.getD_some],rfl,fun i c h=>by simp only[h,Option.map_some,Option.getD_some],rfl,fun i x h=>by simp only[h,Option.map_some,Option.getD_some],rfl,fun i x h=>by simp only[h,Option.map_some,Option.getD_some],M.first,M.st,M.fin⟩
theorem last_of {m:Mi} {j:Nat}: ∀(k:Nat),(∀i,i<k→m.t i=(j:Int)→(i:Int)≤lastI m k j):=by
 intro k
 induction k with
 |zero=>intro i hi;exact absurd hi (Nat.not_lt_zero i)
 |succ k ih=>
  intro i hi e;unfold lastI
  by_cases h:m.t k=(j:Int)
  ·rw[if_pos h];omega
  ·rw[if_neg h]
   by_cases h2:i=k
   ·subst h2;exact absurd e h
   ·exact ih i (by omega) e
theorem check_ok {P:Pg} {m:Mi} {F:FM} {qs:List Nat} (hP:progV P=0) (O:MOf m F qs) (hM:OkM P.len qs F.m) (hs:F.st≤400) (hg5:F.m.gs.length≤5000) (hq:qs.length≤12) (hf:0≤F.m.fin∧F.m.fin≤4):CkR P m 0:=by
 have gAt: ∀i,i<m.gl→∃g,F.m.gs[i]?=some g:=fun i hi=>⟨_,List.getElem?_eq_getElem (show i<F.m.gs.length by rw[←O.gl];exact hi)⟩
 have cAt: ∀i,i<m.cl→∃c,F.m.cs[i]?=some c:=fun i hi=>⟨_,List.getElem?_eq_getElem (show i<F.m.cs.length by rw[←O.cl];exact hi)⟩
 have tAt: ∀i,i<m.tl→∃x,F.m.tr[i]?=some x:=fun i hi=>⟨_,List.getElem?_eq_getElem (show i<F.m.tr.length by rw[←O.tl];exact hi)⟩
 have qAt: ∀i,i<m.ql→∃x,qs[i]?=some x:=fun i hi=>⟨_,List.getElem?_eq_getElem (show i<qs.length by rw[←O.ql];exact hi)⟩
 have hnb: ∀x:Nat,x<m.hl→(!noneB m.hl (x:Int))=true:=fun x hx=>by unfold noneB;simp;omega
 have hpt:PtsR m 0:=by
  refine .inr ⟨?_,.inr ⟨?_,.inr ⟨?_,rfl⟩⟩⟩
  ·rw[O.h,O.hl];exact hM.s.hg.chk
  ·rw[O.gl,O.ql];omega
  ·unfold thereB
   rw[Bool.and_eq_true,Bool.and_eq_true];refine ⟨allTo_iff.2 fun i hi=>?_,allTo_iff.2 fun i hi=>?_,allTo_iff.2 fun i hi=>?_⟩
   ·obtain ⟨g,hg⟩:=gAt i hi
    rw[O.g i g hg];exact hnb _ (by rw[O.hl];exact (hM.s.go i g hg).1)
   ·obtain ⟨x,hx⟩:=tAt i hi
    rw[O.t i x hx];exact hnb _ (by rw[O.hl];exact hM.s.tl x (List.mem_of_getElem? hx))
   ·obtain ⟨x,hx⟩:=qAt i hi
    rw[O.q i x hx];exact hnb _ (by rw[O.hl];exact hM.s.qu x (List.mem_of_getElem? hx))
 refine .inr ⟨hP,.inr ⟨hpt,.inr ⟨⟨⟨fun i hi=>?_,?_,?_⟩,fun k hk=>?_,fun hL=>?_⟩,.inr ⟨⟨⟨?_,?_⟩,?_⟩,rfl⟩⟩⟩⟩
 ·obtain ⟨g,hg⟩:=gAt i hi
  rw[O.g i g hg];have:=(hM.s.go i g hg).2;simp only;omega
 ·rw[O.first];omega
 ·rw[O.first,O.gl];have:=hM.fst;omega
 ·obtain ⟨c,hc⟩:=cAt k hk
  have hC:=hM.ch c (List.mem_of_getElem? hc)
  have hprev:(prevC m k).hp≤(c.hp:Int)∧(prevC m k).tr≤(c.tr:Int)∧(prevC m k).gs≤(c.gs:Int):=by
   cases k with
   |zero=>simp only[prevC,ciZ];omega
   |succ k=>
    obtain ⟨d,hd⟩:=cAt k (by omega)
    simp only[prevC];rw[O.c k d hd];obtain ⟨h1,e1⟩:=List.getElem?_eq_some_iff.1 hd;obtain ⟨h2,e2⟩:=List.getElem?_eq_some_iff.1 hc;have:=(List.pairwise_iff_getElem.1 hM.mono) k (k+1) h1 h2 (by omega)
    rw[e1,e2]at this;have:=this.1;have:=this;unfold LeC at*;simp only;omega
  have:=hC.hp;have:=hC.tr;have:=hC.gs;have:=hC.goal;have:=hC.cl;refine ⟨?_,?_,?_,?_,?_⟩ <;> simp only[O.c k c hc,O.hl,O.tl,O.gl] <;> omega
 ·have hcx: ∀k,k<m.cl→∃c,m.c k=⟨c.goal,c.cl,c.hp,c.tr,c.gs⟩∧OkC P.len qs F.m c:=fun k hk=>by
   obtain ⟨c,hc⟩:=cAt k hk;exact ⟨c,O.c k c hc,hM.ch c (List.mem_of_getElem? hc)⟩
  rcases hL with ⟨i,hi,k,hk,h1,h2⟩| ⟨i,hi,k,hk,h1,h2⟩| ⟨i,hi,k,hk,h1⟩| ⟨j,hj,k,hk,h1,h2,h3⟩
  ·obtain ⟨c,ec,hC⟩:=hcx k hk
   obtain ⟨g,hg⟩:=gAt i hi;rw[ec]at h1 h2;rw[O.g i g hg]at h1;simp only at h1 h2;have:=(hC.ok.go i g (by show (F.m.gs.take c.gs)[i]?=_;rw[List.getElem?_take,if_pos (by omega)];exact hg)).1
   rw[undo_len hC.hp]at this;omega
  ·obtain ⟨c,ec,hC⟩:=hcx k hk
   obtain ⟨x,hx⟩:=tAt i hi;rw[ec]at h1 h2;rw[O.t i x hx]at h1;simp only at h1 h2
   have:=hC.ok.tl x (by
    show x∈F.m.tr.take c.tr
    exact List.mem_of_getElem? (i:=i) (by rw[List.getElem?_take,if_pos (by omega)];exact hx))
   rw[undo_len hC.hp]at this;omega
  ·obtain ⟨c,ec,hC⟩:=hcx k hk
   obtain ⟨x,hx⟩:=qAt i hi;rw[ec]at h1;rw[O.q i x hx]at h1;simp only at h1;have:=hC.ok.qu x (List.mem_of_getElem? hx);rw[undo_len hC.hp]at this;omega
  ·obtain ⟨c,ec,hC⟩:=hcx k hk
   rw[ec]at h1 h2 h3;simp only at h1 h2 h3;have hjc:j<c.hp:=by omega
   have hnd:j ∉ F.m.tr.drop c.tr:=fun hd=>by
    obtain ⟨q,hq⟩:=List.getElem?_of_mem hd;rw[List.getElem?_drop]at hq;have hlt:c.tr+q<m.tl:=by rw[O.tl];exact (List.getElem?_eq_some_iff.1 hq).1
    have:=last_of (m:=m) (j:=j) m.tl (c.tr+q) hlt (O.t _ _ hq);omega
   have hat:hOf (undoP c F.m).h j=hOf F.m.h j:=by rw[undo_at hC.hp hjc,if_neg hnd]
   have hG:=hC.ok.hg;rw[undo_len hC.hp]at hG;rw[O.h]at h1;unfold furI at h1
   rcases hG.kind j hjc with hk1|hk2
   ·rw[hat]at hk1
    rw[if_neg (by omega)]at h1
    have h0:=hG.ok.n0 j hjc
    have:=hG.ok.inn j hjc ((hOf (undoP c F.m).h j).n.toNat) (by
     unfold leads;rw[hat];simp[hk1];omega)
    rw[hat]at this h0;omega
   ·rw[hat]at hk2
    rw[if_pos hk2]at h1;have h0:=hG.ok.n0 j hjc;rw[hat]at h0
    by_cases hz:(hOf F.m.h j).n=0
    ·omega
    ·have:=(hG.kids j hjc (by rw[hat];exact hk2) ((hOf F.m.h j).n.toNat-1) (by rw[hat];omega)).1
     omega
 ·rw[O.st];omega
 ·rw[O.st];omega
 ·rw[O.fin];exact hf
end Go.Proofs.YtmggaclaoefdaabGreat

namespace Go.Proofs.YtmggaclaoefdaabGreat
open Go.RowKit Go.Shelf
set_option linter.unusedVariables false
set_option linter.unusedSimpArgs false
attribute [local go_sem] Oper.semAt_some
theorem run_app_none {P:Program} {t ty e:TypeId} {i:TypeInfo} (ht:P.underlying t=some (.slice e)) (hi:P.info? e=some i) (a:Addr) (n c c':Nat) (w:World) (h:n≤c):(Builtin.append_ #[t,t] ty #[.slice (some a) n c,.slice none 0 c']).run P w=.ok (.slice (some a) n c) w:=by
 simp[Builtin.append_,run_underlying ht,Go.sizeOf,typeInfo,hi,Builtin.lenOf,Builtin.firstCells,loadCells,h,storeCells]
theorem run_app {P:Program} (w:World) (base:Nat) (t ty e:TypeId) (i:TypeInfo) (z:Value) (size bytes:Nat) (ht:P.underlying t=some (.slice e)) (hi:P.info? e=some i) (hz0:i.zero=some z) (hz1:i.size=size) (hz2:i.bytes=bytes) (hzs:z.cells.size=size) (hsz:0<size)
 (g0 n cap0:Nat) (xs:List Value) (hown:w.ownsRow base e size (.slice (some ⟨g0,0,none⟩) n cap0) n xs)
 (sa:Option Addr) (m c:Nat) (news:List Value) (hl:news.length=m*size) (hno:sa=none→m=0) (hnews: ∀ad,sa=some ad→∀j u,news[j]?=some u→w.cell? (ad.add j)=some u) (h1: ∀u∈news,u.oneCell'=true)
 (hnm:n+m≤maxLen) (hby:(n+m)*bytes≤140737488355328) (hbase:base≤w.heap.size):
 ∃g cap' w',(Builtin.append_ #[t,t] ty #[.slice (some ⟨g0,0,none⟩) n cap0,.slice sa m c]).run P w=.ok (.slice (some ⟨g,0,none⟩) (n+m) cap') w'∧w'.ownsRow base e size (.slice (some ⟨g,0,none⟩) (n+m) cap') (n+m) (xs++news)∧w.grownBy w' (some g0)∧(g=g0∨g=w.heap.size):=by
 cases sa with
 |none=>
  obtain rfl:=hno rfl;have hnil:news= []:=List.eq_nil_of_length_eq_zero (by simpa using hl)
  subst hnil
  have hcap:n≤cap0:=by
   rcases hown.2 with ⟨h',_⟩| ⟨g',cap',cur,h',_,_,h2,_⟩
   ·simp at h'
   ·cases h';exact h2
  refine ⟨g0,cap0,w,run_app_none ht hi _ n cap0 c w hcap,?_,⟨rfl,rfl,rfl,Nat.le_refl _,fun _ _ _=>rfl⟩,.inl rfl⟩
  rw[List.append_nil];exact hown
 |some ad=>
  obtain ⟨v',w',hr,h2,h3,h4,h5⟩:=run_append_own_at (P:=P) w base t ty e i z size bytes ht hi hz0 hz1 hz2 hzs hsz _ n xs hown ad m c news hl (hnews ad rfl) h1 hnm hby hbase
  rcases h2.2 with ⟨h6,_⟩| ⟨g,cap',cur,rfl,_⟩
  ·have:=(h4.1 h6).1;simp at this
  refine ⟨g,cap',w',hr,h2,h3,?_⟩
  rcases h5 with e|e
  ·exact .inl (Option.some.inj e)
  ·exact .inr (Option.some.inj e)
theorem step_appG {P:Program} {ops:Array Oper} {o:Oper} {a:Act} {w:World} {K:Act→World→Prop} {Q:Exit→Act→World→Prop} {E:Prop}
 (hg:o.guard=none) (s x:Operand) (t:TypeId) (hop:o.op=Op.call { callee:=Callee.builtin Builtin.append,args:= #[s,x],argTypes:= #[t,t]})
 (base:Nat) (e:TypeId) (i:TypeInfo) (z:Value) (size bytes:Nat) (ht:P.underlying t=some (.slice e)) (hi:P.info? e=some i) (hz0:i.zero=some z) (hz1:i.size=size) (hz2:i.bytes=bytes) (hzs:z.cells.size=size) (hsz:0<size)
 (g0 n cap0:Nat) (xs:List Value) (hs:a.eval s=.slice (some ⟨g0,0,none⟩) n cap0) (hown:w.ownsRow base e size (.slice (some ⟨g0,0,none⟩) n cap0) n xs)
 (sa:Option Addr) (m c:Nat) (news:List Value) (hx:a.eval x=.slice sa m c) (hl:news.length=m*size) (hno:sa=none→m=0) (hnews: ∀ad,sa=some ad→∀j u,news[j]?=some u→w.cell? (ad.add j)=some u) (h1: ∀u∈news,u.oneCell'=true)
 (hnm:n+m≤maxLen) (hby:(n+m)*bytes≤140737488355328) (hbase:base≤w.heap.size) (nm:Nat) (zs:List Value) (enm:n+m=nm) (ezs:xs++news=zs)
 (h: ∀g cap' w',w'.ownsRow base e size (.slice (some ⟨g,0,none⟩) nm cap') nm zs→w.grownBy w' (some g0)→(g=g0∨g=w.heap.size)→K (a.put o.dst (.slice (some ⟨g,0,none⟩) nm cap')) w'):
 if Region.wanted o (yielded ops a.tmps)=true then Oper.wp P o a w K Q else E:=by
 subst enm ezs;obtain ⟨g,cap',w',hr,h2,h3,h4⟩:=run_app w base t o.type e i z size bytes ht hi hz0 hz1 hz2 hzs hsz g0 n cap0 xs hown sa m c news hl hno hnews h1 hnm hby hbase;exact step_run hg s x t hop _ _ _ _ hs hx hr (h g cap' w' h2 h3 h4)
theorem wpList_appG {P:Program} {ops:Array Oper} {rest:List Oper} {o:Oper} {a:Act} {w:World} {Q:Exit→Act→World→Prop} (hgd:o.guard=none) (s x:Operand) (t:TypeId)
 (ho:o.op=.call { callee:=.builtin .append,args:= #[s,x],argTypes:= #[t,t]})
 (base:Nat) (e:TypeId) (i:TypeInfo) (z:Value) (size bytes:Nat) (ht:P.underlying t=some (.slice e)) (hi:P.info? e=some i) (hz0:i.zero=some z) (hz1:i.size=size) (hz2:i.bytes=bytes) (hzs:z.cells.size=size) (hsz:0<size)
 (g0 n cap0:Nat) (xs:List Value) (hs:a.eval s=.slice (some ⟨g0,0,none⟩) n cap0) (hown:w.ownsRow base e size (.slice (some ⟨g0,0,none⟩) n cap0) n xs)
 (sa:Option Addr) (m c:Nat) (news:List Value) (hx:a.eval x=.slice sa m c) (hl:news.length=m*size) (hno:sa=none→m=0) (hnews: ∀ad,sa=some ad→∀j u,news[j]?=some u→w.cell? (ad.add j)=some u) (h1: ∀u∈news,u.oneCell'=true)
 (hnm:n+m≤maxLen) (hby:(n+m)*bytes≤140737488355328) (hbase:base≤w.heap.size) (nm:Nat) (zs:List Value) (enm:n+m=nm) (ezs:xs++news=zs)
 (h: ∀g cap' w',w'.ownsRow base e size (.slice (some ⟨g,0,none⟩) nm cap') nm zs→w.grownBy w' (some g0)→(g=g0∨g=w.heap.size)→wpList P ops Q rest (a.put o.dst (.slice (some ⟨g,0,none⟩) nm cap')) w'):
 wpList P ops Q (o::rest) a w:=by
 subst enm ezs;refine wpList_plain hgd fun K hK=>?_
 obtain ⟨g,cap',w',hr,h2,h3,h4⟩:=run_app w base t o.type e i z size bytes ht hi hz0 hz1 hz2 hzs hsz g0 n cap0 xs hown sa m c news hl hno hnews h1 hnm hby hbase;unfold Oper.wp execOp;simp only[ho,resolve,invoke,builtin,Sem.run_bind,Sem.run_pure,Result.andThen_ok,List.map_toArray,List.map_cons,List.map_nil,hs,hx,hr];exact hK _ _ (h g cap' w' h2 h3 h4)
def CellOk (h:Nat→Cl) (hl:Nat) (i:Nat):Prop:=((h i).k=1→0≤(h i).n∧(h i).n<hl)∧((h i).k=2→(i:Int)+(h i).n<hl)
def InH (hl:Nat) (x:Int):Prop:=0≤x∧x<hl
def ThP (m:Mi):Prop:=(∀i,i<m.hl→CellOk m.h m.hl i)∧(∀i,i<m.gl→InH m.hl (m.g i).at_)∧(∀i,i<m.tl→InH m.hl (m.t i))∧(∀i,i<m.ql→InH m.hl (m.q i))
theorem btw_at {n l m:Int} {r:Bool} (h:r=(decide (l≤n)&&decide (n≤m))) (W:World):Calls Tryz.prog 28 #[iV n,iV l,iV m] W fun e w'=>e=.returned (.bool r)∧w'=W:=by
 subst h;exact between_any n l m W
theorem infoIntA:(Tryz.prog.info? 3).map (fun i=>(i.zero,i.size,i.bytes))=some (some (iV 0),1,8):=by kernel_rfl
def intL (f:Nat→Int) (n:Nat):List Value:=(List.range n).map fun j=>iV (f j)
theorem intL_length (f:Nat→Int) (n:Nat):(intL f n).length=n*1:=by simp[intL]
theorem intL_get {f:Nat→Int} {n j:Nat} {u:Value} (h:(intL f n)[j]?=some u):j<n∧u=iV (f j):=by
 have hj:j<n:=by have:=(List.getElem?_eq_some_iff.1 h).1;simpa[intL]using this
 refine ⟨hj,?_⟩;simp[intL,hj]at h;exact h.symm
theorem intL_one (f:Nat→Int) (n:Nat): ∀u∈intL f n,u.oneCell'=true:=fun u hu=>by
 obtain ⟨j,_,rfl⟩:=List.mem_map.1 hu
 rfl
theorem irow_news {W:World} {a:Option Addr} {n:Nat} {f:Nat→Int} (h: ∀i,i<n→IRow W a i (f i)): ∀ad,a=some ad→∀j u,(intL f n)[j]?=some u→W.cell? (ad.add j)=some u:=by
 rintro ad rfl j u hu;obtain ⟨hj,rfl⟩:=intL_get hu;obtain ⟨b,o,e,c⟩:=h j hj;cases e;rw[Addr.add_lit];exact c
theorem irow_none {W:World} {a:Option Addr} {n:Nat} {f:Nat→Int} (h: ∀i,i<n→IRow W a i (f i)):a=none→n=0:=by
 rintro rfl
 cases n with
 |zero=>rfl
 |succ n=>obtain ⟨b,o,e,_⟩:=h 0 (Nat.succ_pos _);cases e
section
set_option maxRecDepth 100000 in
set_option maxHeartbeats 8000000 in
theorem allThere_any {m:Mi} (w:World) (hm:MIn w m) (hn: ∀i,i<m.hl→(m.h i).k=2→0≤(m.h i).n∧(m.h i).n≤1000) (hl4:m.hl≤400000) (hq12:m.ql≤12):
 Calls Tryz.prog 39 #[.agg m.cells] w (BR (ThP m) w):=by
 have HX:Hid ((w.alloc (.cells m.cells 31)).heap[w.heap.size]?=some (.cells m.cells 31)):=heap_alloc_new _ _;have HBa:Hid (Below w.heap.size w (w.alloc (.cells m.cells 31))):=(Below.refl _ _).alloc (Nat.le_refl _) _;have HM:Hid (∀W,Below w.heap.size w W→MIn W m):=fun W hW=>hm.below hW
 have HXX:Hid (∀W,Below (w.alloc (.cells m.cells 31)).heap.size (w.alloc (.cells m.cells 31)) W→W.heap[w.heap.size]?=some (.cells m.cells 31)∧MIn W m∧Below w.heap.size w W):=fun W hW=>⟨(hW.block _ (by simp)).trans HX.o,hm.below (HBa.o.trans (hW.mono HBa.o.size)),HBa.o.trans (hW.mono HBa.o.size)⟩
 have Hn:Hid (∀i,i<m.hl→(m.h i).k=2→0≤(m.h i).n∧(m.h i).n≤1000):=hn;obtain ⟨hbg,hbc,hbt,hbq⟩:=hm.big;have hsz:(w.alloc (.cells m.cells 31)).heap.size=w.heap.size+1:=by simp
 clear hm hn
 go_enter Tryz.func39,Tryz.ntmps39
 rw[show Value.agg m.cells=.agg #[.slice m.ha m.hl m.hc,.slice m.ga m.gl m.gc,iV m.first,.slice m.ca m.cl m.cc,.slice m.ta m.tl m.tc,.slice m.qa m.ql m.qc,iV m.st,iV m.fin,.slice m.aa m.al m.ac]from rfl]
 obtain ⟨⟨x0,x1,_,_,x4⟩,⟨x5,_⟩,_⟩:=Mi.get HX.o;have hW:w.alloc (.cells #[.slice m.ha m.hl m.hc,.slice m.ga m.gl m.gc,iV m.first,.slice m.ca m.cl m.cc,.slice m.ta m.tl m.tc,.slice m.qa m.ql m.qc,iV m.st,iV m.fin,.slice m.aa m.al m.ac] 31)=w.alloc (.cells m.cells 31):=rfl;generalize w.alloc (.cells m.cells 31)=wa at*;have hwr:IntKind.i64.wrap ((m.hl:Int)-1)=(m.hl:Int)-1:=by simp[IntKind.wrap,IntKind.bits,IntKind.signed];omega
 go_wp2_with fail;clear x0 x1 x4 x5 hW
 go_loopw [4] (fun x wr=>∃i:Nat,i≤m.hl∧x=iV (i:Int)∧(∀j,j<i→CellOk m.h m.hl j)∧Below wa.heap.size wa wr) (fun x _=>m.hl-(intOf x).toNat)
 case atStart=>exact ⟨0,Nat.zero_le _,rfl,fun j hj=>absurd hj (Nat.not_lt_zero j),Below.refl _ _⟩
 case round=>
  obtain ⟨i,hi,rfl,hk,hb⟩:=hrel;have HK:Hid (∀j,j<i→CellOk m.h m.hl j):=hk;have HB:Hid (Below wa.heap.size wa wr):=hb;have HB0:Hid (Below w.heap.size w wr):=HBa.o.trans (hb.mono HBa.o.size);have HXr:Hid (wr.heap[w.heap.size]?=some (.cells m.cells 31)):=(hb.block _ (by omega)).trans HX.o
  obtain ⟨⟨y0,y1,_,_,y4⟩,⟨y5,_⟩,_⟩:=Mi.get HXr.o;clear hk hb
  by_cases hil:i<m.hl
  case pos=>
   have hiI:(i:Int)<(m.hl:Int):=by omega
   obtain ⟨b,o,hha,c0,c1,c2⟩:=(HM.o wr HB0.o).h.row i hil;have Hni:=Hn.o i hil;have HNo:Hid (¬CellOk m.h m.hl i→¬ThP m):=fun h h'=>h (h'.1 i hil)
   have HYe:Hid (CellOk m.h m.hl i→∀j,j<i+1→CellOk m.h m.hl j):=fun h j hj=>by
    by_cases e:j<i
    ·exact HK.o j e
    ·obtain rfl:j=i:=by omega
     exact h
   have HCd:Hid (CellOk m.h m.hl i↔(((m.h i).k=1→0≤(m.h i).n∧(m.h i).n<m.hl)∧((m.h i).k=2→(i:Int)+(m.h i).n<m.hl))):=Iff.rfl;rw[hha]at y0;clear hha;generalize m.h i=c at*
   by_cases h1:c.k=1
   ·have hk1:(c.k==1)=true:=beq_iff_eq.2 h1
    have hk2:(c.k==2)=false:=beq_eq_false_iff_ne.2 (by omega)
    by_cases h2:0≤c.n∧c.n<m.hl
    ·have HOk:Hid (CellOk m.h m.hl i):=HCd.o.2 ⟨fun _=>h2,fun h=>absurd h (by omega)⟩
     have HBt:Hid (∀W,Calls Tryz.prog 28 #[iV c.n,iV 0,iV ((m.hl:Int)-1)] W fun e w'=>e=.returned (.bool true)∧w'=W):=fun W=>btw_at (by simp;omega) W
     clear h1 h2 Hni;go_wp2_with fail;refine (HBt.o _).mono ?_;rintro e w1 ⟨rfl,hw1⟩;rw[hw1];clear hw1;go_wp2_with fail;go_roundw
     case rel=>exact ⟨i+1,by omega,by go_num,HYe.o HOk.o,HB.o⟩
     case measure=>simp[intOf];omega
    ·have HOk:Hid (¬CellOk m.h m.hl i):=fun h=>h2 ((HCd.o.1 h).1 h1)
     have HBt:Hid (∀W,Calls Tryz.prog 28 #[iV c.n,iV 0,iV ((m.hl:Int)-1)] W fun e w'=>e=.returned (.bool false)∧w'=W):=fun W=>btw_at (by simp;omega) W
     clear h1 h2 Hni;go_wp2_with fail;refine (HBt.o _).mono ?_;rintro e w1 ⟨rfl,hw1⟩;rw[hw1];clear hw1;go_wp2_with fail;go_ret;exact ⟨false,rfl,⟨fun h=>absurd h (by decide),fun h=>absurd h (HNo.o HOk.o)⟩,HB0.o⟩
   ·have hk1:(c.k==1)=false:=beq_eq_false_iff_ne.2 h1
    by_cases h2:c.k=2
    ·have hk2:(c.k==2)=true:=beq_iff_eq.2 h2
     have hni:=Hni h2;have hwi:IntKind.i64.wrap ((i:Int)+c.n)=(i:Int)+c.n:=by simp[IntKind.wrap,IntKind.bits,IntKind.signed];omega
     by_cases h3:(i:Int)+c.n<m.hl
     ·have HOk:Hid (CellOk m.h m.hl i):=HCd.o.2 ⟨fun h=>absurd h h1,fun _=>h3⟩
      have hgt: ¬((i:Int)+c.n>(m.hl:Int)-1):=by omega
      clear h1 h2 Hni hni h3;go_wp2_with fail;go_roundw
      case rel=>exact ⟨i+1,by omega,by go_num,HYe.o HOk.o,HB.o⟩
      case measure=>simp[intOf];omega
     ·have HOk:Hid (¬CellOk m.h m.hl i):=fun h=>h3 ((HCd.o.1 h).2 h2)
      have hgt:(i:Int)+c.n>(m.hl:Int)-1:=by omega
      clear h1 h2 Hni hni h3;go_wp2_with fail;go_ret;exact ⟨false,rfl,⟨fun h=>absurd h (by decide),fun h=>absurd h (HNo.o HOk.o)⟩,HB0.o⟩
    ·have hk2:(c.k==2)=false:=beq_eq_false_iff_ne.2 h2
     have HOk:Hid (CellOk m.h m.hl i):=HCd.o.2 ⟨fun h=>absurd h h1,fun h=>absurd h h2⟩
     clear h1 h2 Hni;go_wp2_with fail;go_roundw
     case rel=>exact ⟨i+1,by omega,by go_num,HYe.o HOk.o,HB.o⟩
     case measure=>simp[intOf];omega
  obtain rfl:i=m.hl:=by omega
  have HKh:Hid (∀j,j<m.hl→CellOk m.h m.hl j):=HK.o;have hiI: ¬((m.hl:Int)<(m.hl:Int)):=by omega
  clear HK hil hi HXr HB0;go_wp2_with fail;clear y0 y1 y4 y5 hiI
  go_loopw [5] (fun x wr=>∃i:Nat,i≤m.gl∧x=iV (i:Int)∧(∀j,j<i→InH m.hl (m.g j).at_)∧Below wa.heap.size wa wr) (fun x _=>m.gl-(intOf x).toNat)
  case atStart=>exact ⟨0,Nat.zero_le _,rfl,fun j hj=>absurd hj (Nat.not_lt_zero j),HB.o⟩
  clear HB;obtain ⟨i,hi,rfl,hk,hb⟩:=hrel;have HK:Hid (∀j,j<i→InH m.hl (m.g j).at_):=hk;have HB:Hid (Below wa.heap.size wa wr):=hb;obtain ⟨⟨y0,y1,_,_,y4⟩,⟨y5,_⟩,_⟩:=Mi.get (HXX.o wr hb).1;clear hk hb
  by_cases hil:i<m.gl
  case pos=>
   have hiI:(i:Int)<(m.gl:Int):=by omega
   obtain ⟨b,o,hga,c0,c1,c2⟩:=(HXX.o wr HB.o).2.1.g i hil;rw[hga]at y1;clear hga
   by_cases h2:0≤(m.g i).at_∧(m.g i).at_<m.hl
   ·have HBt:Hid (∀W,Calls Tryz.prog 28 #[iV (m.g i).at_,iV 0,iV ((m.hl:Int)-1)] W fun e w'=>e=.returned (.bool true)∧w'=W):=fun W=>btw_at (by simp;omega) W
    have HK1:Hid (∀j,j<i+1→InH m.hl (m.g j).at_):=fun j hj=>by
     by_cases e:j<i
     ·exact HK.o j e
     ·obtain rfl:j=i:=by omega
      exact h2
    clear h2;go_wp2_with fail;refine (HBt.o _).mono ?_;rintro e w1 ⟨rfl,hw1⟩;rw[hw1];clear hw1;go_wp2_with fail;go_roundw
    case rel=>exact ⟨i+1,by omega,by go_num,HK1.o,HB.o⟩
    case measure=>simp[intOf];omega
   ·have HBt:Hid (∀W,Calls Tryz.prog 28 #[iV (m.g i).at_,iV 0,iV ((m.hl:Int)-1)] W fun e w'=>e=.returned (.bool false)∧w'=W):=fun W=>btw_at (by simp;omega) W
    have HNo:Hid (¬ThP m):=fun h=>h2 (h.2.1 i hil)
    clear h2;go_wp2_with fail;refine (HBt.o _).mono ?_;rintro e w1 ⟨rfl,hw1⟩;rw[hw1];clear hw1;go_wp2_with fail;go_ret;exact ⟨false,rfl,⟨fun h=>absurd h (by decide),fun h=>absurd h HNo.o⟩,(HXX.o _ HB.o).2.2⟩
  obtain rfl:i=m.gl:=by omega
  have HKg:Hid (∀j,j<m.gl→InH m.hl (m.g j).at_):=HK.o;have hiI: ¬((m.gl:Int)<(m.gl:Int)):=by omega
  obtain ⟨i0,hi0,hz0,hz1,hz2⟩:=info_parts infoIntA;have HOw:Hid ((wr.alloc (.cells #[] 3)).ownsRow wr.heap.size 3 1 (.slice (some ⟨wr.heap.size,0,none⟩) 0 0) 0 []):=World.ownsRow_lit wr #[] 0 (Nat.le_refl _) (by unfold maxLen;omega) rfl
  have HBo:Hid (Below wa.heap.size wa (wr.alloc (.cells #[] 3))):=HB.o.trans (((Below.refl _ _).alloc (Nat.le_refl _) _).mono HB.o.size);have hmo:=HXX.o _ HBo.o;have HTs:Hid (∀ad,m.ta=some ad→∀j u,(intL m.t m.tl)[j]?=some u→(wr.alloc (.cells #[] 3)).cell? (ad.add j)=some u):=irow_news hmo.2.1.t;have HTn:Hid (m.ta=none→m.tl=0):=irow_none hmo.2.1.t;have HQs:Hid (∀W,Below wa.heap.size wa W→∀ad,m.qa=some ad→∀j u,(intL m.q m.ql)[j]?=some u→W.cell? (ad.add j)=some u):=fun W hW=>irow_news (HXX.o W hW).2.1.q
  have HQn:Hid (m.qa=none→m.ql=0):=irow_none hmo.2.1.q;obtain ⟨⟨_,_,_,_,a4⟩,⟨a5,_⟩,_⟩:=Mi.get hmo.1;clear HK hil hi hmo;go_wp2_with fail;clear y0 y1
  go_region_law (first
   | (refine step_appG rfl (.tmp 74) (.tmp 76) 28 rfl wr.heap.size 3 i0 (iV 0) 1 8 Tryz.underlying28 hi0 hz0 hz1 hz2 rfl (by decide) wr.heap.size 0 0 [] (by first|rfl|simp[Act.eval,Act.put]) HOw.o m.ta m.tl m.tc (intL m.t m.tl) (by first|rfl|simp[Act.eval,Act.put]) (intL_length _ _) HTn.o HTs.o (intL_one _ _) (by unfold maxLen;omega) (by omega) (by simp) m.tl (intL m.t m.tl) (Nat.zero_add _) (List.nil_append _) ?_
      intro g1 c1 w2 ho2 hg2 hat2;have HO2:Hid (w2.ownsRow wr.heap.size 3 1 (.slice (some ⟨g1,0,none⟩) m.tl c1) m.tl (intL m.t m.tl)):=ho2;have hgl1:wr.heap.size≤g1:=(ho2.lt g1 rfl).1;have HB2:Hid (Below wa.heap.size wa w2):=Below.grown HBo.o (w':=w2) (row:=some wr.heap.size) ⟨hg2.os,hg2.tape,hg2.output,hg2.size,hg2.block⟩ HBo.o.size (fun k hk=>by have:=Option.some.inj hk;have:=HB.o.size;omega)
      have hs2:wr.heap.size≤w2.heap.size:=(by have:=hg2.size;simp only[World.drew]at this;simp at this;omega)
      obtain ⟨_,⟨b5,_⟩,_⟩:=Mi.get (HXX.o _ HB2.o).1;clear ho2 hg2 hat2)
   | (refine step_appG rfl (.tmp 77) (.tmp 79) 28 rfl wr.heap.size 3 i0 (iV 0) 1 8 Tryz.underlying28 hi0 hz0 hz1 hz2 rfl (by decide) g1 m.tl c1 (intL m.t m.tl) (by first|rfl|simp[Act.eval,Act.put]) HO2.o m.qa m.ql m.qc (intL m.q m.ql) (by first|rfl|simp[Act.eval,Act.put]) (intL_length _ _) HQn.o (HQs.o _ HB2.o) (intL_one _ _) (by unfold maxLen;omega) (by omega) hs2 (m.tl+m.ql) (intL m.t m.tl++intL m.q m.ql) rfl rfl ?_
      intro g2 c2 w3 ho3 hg3 hat3;have HO3:Hid (w3.ownsRow wr.heap.size 3 1 (.slice (some ⟨g2,0,none⟩) (m.tl+m.ql) c2) (m.tl+m.ql) (intL m.t m.tl++intL m.q m.ql)):=ho3;have HB3:Hid (Below wa.heap.size wa w3):=Below.grown HB2.o (w':=w3) (row:=some g1) ⟨hg3.os,hg3.tape,hg3.output,hg3.size,hg3.block⟩ HB2.o.size (fun k hk=>by have:=Option.some.inj hk;have:=HB.o.size;omega)
      clear ho3 hg3 hat3))
  all_goals
   have HCl:Hid (∀W,Below w3.heap.size w3 W→∀i,i<m.tl+m.ql→W.cell? ⟨g2,i,none⟩=some (iV (if i<m.tl then m.t i else m.q (i-m.tl)))):=fun W hW i hi=>by
    have hc:w3.cell? ⟨g2,i,none⟩=(intL m.t m.tl++intL m.q m.ql)[i]?:=HO3.o.cellAt i (by omega)
    have hv:(intL m.t m.tl++intL m.q m.ql)[i]?=some (iV (if i<m.tl then m.t i else m.q (i-m.tl))):=by
     rw[List.getElem?_append];have e1:(intL m.t m.tl).length=m.tl:=by simp[intL]
     rw[e1]
     by_cases h:i<m.tl
     ·rw[if_pos h,if_pos h];simp[intL,h]
     ·rw[if_neg h,if_neg h];simp[intL,show i-m.tl<m.ql by omega]
    rw[hv]at hc;exact (hW.cell (lt_of_cell hc)).trans hc
   clear y4 y5 a4 a5 b5 HO2 HB2 HO3 HOw HBo HTs HTn HQs HQn;go_wp2_with fail
   go_loopw [7] (fun x wr=>∃i:Nat,i≤m.tl+m.ql∧x=iV (i:Int)∧(∀j,j<i→InH m.hl (if j<m.tl then m.t j else m.q (j-m.tl)))∧Below w3.heap.size w3 wr) (fun x _=>m.tl+m.ql-(intOf x).toNat)
   case atStart=>exact ⟨0,Nat.zero_le _,rfl,fun j hj=>absurd hj (Nat.not_lt_zero j),Below.refl _ _⟩
   obtain ⟨i,hi,rfl,hk,hb⟩:=hrel;have HK:Hid (∀j,j<i→InH m.hl (if j<m.tl then m.t j else m.q (j-m.tl))):=hk
   have HBr:Hid (Below w3.heap.size w3 wr):=hb;have HB4:Hid (Below wa.heap.size wa wr):=HB3.o.trans (hb.mono HB3.o.size);clear hk hb
   by_cases hil:i<m.tl+m.ql
   case pos=>
    have hiI:(i:Int)<((m.tl+m.ql:Nat):Int):=by omega
    have hiJ:(i:Int)<(m.tl:Int)+(m.ql:Int):=by omega
    have c0:=HCl.o wr HBr.o i hil
    have HNo:Hid (¬InH m.hl (if i<m.tl then m.t i else m.q (i-m.tl))→¬ThP m):=fun h h'=>h (by
     by_cases e:i<m.tl
     ·rw[if_pos e];exact h'.2.2.1 i e
     ·rw[if_neg e];exact h'.2.2.2 _ (by omega))
    have HYe:Hid (InH m.hl (if i<m.tl then m.t i else m.q (i-m.tl))→∀j,j<i+1→InH m.hl (if j<m.tl then m.t j else m.q (j-m.tl))):=fun h j hj=>by
     by_cases e:j<i
     ·exact HK.o j e
     ·obtain rfl:j=i:=by omega
      exact h
    generalize (if i<m.tl then m.t i else m.q (i-m.tl))=x at*
    by_cases h2:0≤x∧x<m.hl
    ·have HBt:Hid (∀W,Calls Tryz.prog 28 #[iV x,iV 0,iV ((m.hl:Int)-1)] W fun e w'=>e=.returned (.bool true)∧w'=W):=fun W=>btw_at (by simp;omega) W
     have HOk:Hid (InH m.hl x):=h2;clear h2;go_wp2_with fail;refine (HBt.o _).mono ?_;rintro e w1 ⟨rfl,hw1⟩;rw[hw1];clear hw1;go_wp2_with fail;go_roundw
     case rel=>exact ⟨i+1,by omega,by go_num,HYe.o HOk.o,HBr.o⟩
     case measure=>simp[intOf];omega
    ·have HBt:Hid (∀W,Calls Tryz.prog 28 #[iV x,iV 0,iV ((m.hl:Int)-1)] W fun e w'=>e=.returned (.bool false)∧w'=W):=fun W=>btw_at (by simp;omega) W
     have HOk:Hid (¬InH m.hl x):=h2;clear h2;go_wp2_with fail;refine (HBt.o _).mono ?_;rintro e w1 ⟨rfl,hw1⟩;rw[hw1];clear hw1;go_wp2_with fail;go_ret;exact ⟨false,rfl,⟨fun h=>absurd h (by decide),fun h=>absurd h (HNo.o HOk.o)⟩,(HXX.o _ HB4.o).2.2⟩
   have hiI: ¬((i:Int)<((m.tl+m.ql:Nat):Int)):=by omega
   have hiJ: ¬((i:Int)<(m.tl:Int)+(m.ql:Int)):=by omega
   have HFin:Hid (ThP m):=by
    refine ⟨HKh.o,HKg.o,fun j hj=>?_,fun j hj=>?_⟩
    ·have:=HK.o j (by omega)
     rw[if_pos hj]at this;exact this
    ·have:=HK.o (m.tl+j) (by omega)
     rw[if_neg (by omega),show m.tl+j-m.tl=j by omega]at this;exact this
   go_wp2_with fail;go_ret;exact ⟨true,rfl,⟨fun _=>HFin.o,fun _=>rfl⟩,(HXX.o _ HB4.o).2.2⟩
end
end Go.Proofs.YtmggaclaoefdaabGreat
