/- Part of the proof. -/
import Derived.Test.YtmggaclaoefdaabGreatGBV
namespace Go.Proofs.YtmggaclaoefdaabGreat
open Go.RowKit Go.Shelf Go.Proofs.Tryz
set_option linter.unusedVariables false
set_option linter.unusedSimpArgs false
set_option maxRecDepth 100000
set_option maxHeartbeats 8000000
structure Ue (m:Mi) (F:FM) (qs:List Nat):Prop where
 hl:m.hl=F.m.h.length
 h:m.h=ah F.m.h
 gl:m.gl=F.m.gs.length
 g: ∀(i:Nat) (g:Gq),F.m.gs[i]?=some g->m.g i=⟨g.at_,g.cut,g.nx⟩
 cl:m.cl=F.m.cs.length
 c: ∀(i:Nat) (c:jo),F.m.cs[i]?=some c->m.c i=⟨c.goal,c.cl,c.hp,c.tr,c.gs⟩
 tl:m.tl=F.m.tr.length
 t: ∀(i x:Nat),F.m.tr[i]?=some x->m.t i=x
 ql:m.ql=qs.length
 q: ∀(i x:Nat),qs[i]?=some x->m.q i=x
 first:m.first=F.m.first
 st:m.st=F.st
 fin:m.fin=F.m.fin
theorem MC.mof {lo:Nat} {w:World} {r:Rn} {F:FM} {qs:List Nat} {an:List Tm} (M:MC lo w r F qs an) (hg:HG (ah F.m.h) F.m.h.length) (hb:F.m.gs.length<=17592186043904/\F.m.cs.length<=17592186043904/\F.m.tr.length<=17592186043904/\qs.length<=17592186043904): ∃m:Mi,m.cells=mC r/\vv w m/\Ue m F qs:=by
 obtain ⟨a0,c0,e0,k0,_,_⟩:=ak M.hp;obtain ⟨a1,c1,e1,k1,_,s1⟩:=ak M.go;obtain ⟨a3,c3,e3,k3,_,s3⟩:=ak M.ch;obtain ⟨a4,c4,e4,k4,_,s4⟩:=ak M.tl;obtain ⟨a5,c5,e5,k5,_,s5⟩:=ak M.qu;obtain ⟨a8,c8,e8,k8,_,s8⟩:=ak M.anr;have M0:=M.hp;have M1:=M.go;have M3:=M.ch;have M4:=M.tl;have M5:=M.qu;rw[e0]at M0;rw[e1]at M1;rw[e3]at M3;rw[e4]at M4;rw[e5]at M5;refine ⟨⟨a0,F.m.h.length,c0,ah F.m.h,a1,F.m.gs.length,c1,fun i=>(F.m.gs[i]?.map fun g=>(⟨g.at_,g.cut,g.nx⟩:Gi)).getD ⟨0,0,0⟩,r.first,a3,F.m.cs.length,c3,fun i=>(F.m.cs[i]?.map fun c=>(⟨c.goal,c.cl,c.hp,c.tr,c.gs⟩:Ci)).getD sj,a4,F.m.tr.length,c4,fun i=>(F.m.tr[i]?.map fun x:Nat=>(x:Int)).getD 0,a5,qs.length,c5,fun i=>(qs[i]?.map fun x:Nat=>(x:Int)).getD 0,r.st,r.fin,a8,an.length,c8⟩,?_,?_,?_⟩
 .unfold Mi.cells mC
  simp only;rw[e0,e1,e3,e4,e5,e8]
 .refine ⟨j3.hin M0 rfl hg.nmZ,k0,fun i hi=>?_,fun i hi=>?_,fun i hi=>?_,fun i hi=>?_,hb⟩
  .have hi':i<F.m.gs.length:=hi
   have hk:=yn F.m.gs i _ (gE hi');have hln:=ym F.m.gs;simp only[gE hi',Option.map_some,Option.getD_some]
   cases a1 with
   |none=>rcases M1.2 with ⟨_,h⟩| ⟨_,_,_,h,_⟩
          .omega
          .cases h
   |some ad=>
    obtain ⟨g,rfl⟩:=s1 ad rfl;refine ⟨g,0,rfl,?_,?_,?_⟩ <;> simp only[Nat.zero_add]
    .exact (M1.cellAt (i*3) (by omega)).trans hk.1
    .exact (M1.cellAt (i*3+1) (by omega)).trans hk.2.1
    .exact (M1.cellAt (i*3+2) (by omega)).trans hk.2.2
  .have hi':i<F.m.cs.length:=hi
   have hk:=yl F.m.cs i _ (gE hi');simp only[gE hi',Option.map_some,Option.getD_some]
   cases a3 with
   |none=>rcases M3.2 with ⟨_,h⟩| ⟨_,_,_,h,_⟩
          .omega
          .cases h
   |some ad=>
    obtain ⟨g,rfl⟩:=s3 ad rfl;refine ⟨g,0,rfl,?_,?_,?_,?_,?_⟩ <;> simp only[Nat.zero_add]
    .exact (M3.cellAt (i*5) (by omega)).trans hk.1
    .exact (M3.cellAt (i*5+1) (by omega)).trans hk.2.1
    .exact (M3.cellAt (i*5+2) (by omega)).trans hk.2.2.1
    .exact (M3.cellAt (i*5+3) (by omega)).trans hk.2.2.2.1
    .exact (M3.cellAt (i*5+4) (by omega)).trans hk.2.2.2.2
  .have hi':i<F.m.tr.length:=hi
   simp only[gE hi',Option.map_some,Option.getD_some]
   cases a4 with
   |none=>rcases M4.2 with ⟨_,h⟩| ⟨_,_,_,h,_⟩
          .omega
          .cases h
   |some ad=>
    obtain ⟨g,rfl⟩:=s4 ad rfl;refine ⟨g,0,rfl,?_⟩;simp only[Nat.zero_add];exact (M4.cellAt i (by omega)).trans (by simp[fg,hi'])
  .have hi':i<qs.length:=hi
   simp only[gE hi',Option.map_some,Option.getD_some]
   cases a5 with
   |none=>rcases M5.2 with ⟨_,h⟩| ⟨_,_,_,h,_⟩
          .omega
          .cases h
   |some ad=>
    obtain ⟨g,rfl⟩:=s5 ad rfl;refine ⟨g,0,rfl,?_⟩;simp only[Nat.zero_add];exact (M5.cellAt i (by omega)).trans (by simp[fg,hi'])
 .exact ⟨rfl,rfl,rfl,fun i g h=>by simp only[h,Option.map_some,Option.getD_some],rfl,fun i c h=>by simp only[h,Option.map_some,Option.getD_some],rfl,fun i x h=>by simp only[h,Option.map_some,Option.getD_some],rfl,fun i x h=>by simp only[h,Option.map_some,Option.getD_some],M.first,M.st,M.fin⟩
theorem O1 {m:Mi} {j:Nat}: ∀(k:Nat),(∀i,i<k->m.t i=(j:Int)->(i:Int)<=lk m k j):=by
 intro k
 induction k with
 |zero=>intro i hi;exact absurd hi (nL i)
 |succ k ih=>
  intro i hi e;unfold lk
  by_cases h:m.t k=(j:Int)
  .rw[if_pos h];omega
  .rw[if_neg h]
   by_cases h2:i=k
   .subst h2;exact absurd e h
   .exact ih i (by omega) e
theorem Cg {P:Pg} {m:Mi} {F:FM} {qs:List Nat} (hP:ck P=0) (O:Ue m F qs) (hM:jm P.len qs F.m) (hs:F.st<=400) (hg5:F.m.gs.length<=5000) (hq:qs.length<=12) (hf:0<=F.m.fin/\F.m.fin<=4):Qd P m 0:=by
 have gAt: ∀i,i<m.gl->∃g,F.m.gs[i]?=some g:=fun i hi=>⟨_,gE (show i<F.m.gs.length by rw[<-O.gl];exact hi)⟩
 have cAt: ∀i,i<m.cl->∃c,F.m.cs[i]?=some c:=fun i hi=>⟨_,gE (show i<F.m.cs.length by rw[<-O.cl];exact hi)⟩
 have tAt: ∀i,i<m.tl->∃x,F.m.tr[i]?=some x:=fun i hi=>⟨_,gE (show i<F.m.tr.length by rw[<-O.tl];exact hi)⟩
 have qAt: ∀i,i<m.ql->∃x,qs[i]?=some x:=fun i hi=>⟨_,gE (show i<qs.length by rw[<-O.ql];exact hi)⟩
 have hnb: ∀x:Nat,x<m.hl->(!fb m.hl (x:Int))=true:=fun x hx=>by unfold fb;simp;omega
 have hpt:zi m 0:=by
  refine .inr ⟨?_,.inr ⟨?_,.inr ⟨?_,rfl⟩⟩⟩
  .rw[O.h,O.hl];exact hM.s.hg.chk
  .rw[O.gl,O.ql];omega
  .unfold ii
   rw[Bool.and_eq_true,Bool.and_eq_true];refine ⟨dm.2 fun i hi=>?_,dm.2 fun i hi=>?_,dm.2 fun i hi=>?_⟩
   .obtain ⟨g,hg⟩:=gAt i hi
    rw[O.g i g hg];exact hnb _ (by rw[O.hl];exact (hM.s.go i g hg).1)
   .obtain ⟨x,hx⟩:=tAt i hi
    rw[O.t i x hx];exact hnb _ (by rw[O.hl];exact hM.s.tl x (List.mem_of_getElem? hx))
   .obtain ⟨x,hx⟩:=qAt i hi
    rw[O.q i x hx];exact hnb _ (by rw[O.hl];exact hM.s.qu x (List.mem_of_getElem? hx))
 refine .inr ⟨hP,.inr ⟨hpt,.inr ⟨⟨⟨fun i hi=>?_,?_,?_⟩,fun k hk=>?_,fun hL=>?_⟩,.inr ⟨⟨⟨?_,?_⟩,?_⟩,rfl⟩⟩⟩⟩
 .obtain ⟨g,hg⟩:=gAt i hi
  rw[O.g i g hg];have:=(hM.s.go i g hg).2;simp only;omega
 .rw[O.first];omega
 .rw[O.first,O.gl];have:=hM.fst;omega
 .obtain ⟨c,hc⟩:=cAt k hk
  have hC:=hM.ch c (List.mem_of_getElem? hc)
  have hprev:(je m k).hp<=(c.hp:Int)/\(je m k).tr<=(c.tr:Int)/\(je m k).gs<=(c.gs:Int):=by
   cases k with
   |zero=>simp only[je,sj];omega
   |succ k=>
    obtain ⟨d,hd⟩:=cAt k (by omega)
    simp only[je];rw[O.c k d hd];obtain ⟨h1,e1⟩:=List.getElem?_eq_some_iff.1 hd;obtain ⟨h2,e2⟩:=List.getElem?_eq_some_iff.1 hc;have:=(List.pairwise_iff_getElem.1 hM.mono) k (k+1) h1 h2 (by omega)
    rw[e1,e2]at this;have:=this.1;have:=this;unfold Tb at*;simp only;omega
  have:=hC.hp;have:=hC.tr;have:=hC.gs;have:=hC.goal;have:=hC.cl;refine ⟨?_,?_,?_,?_,?_⟩ <;> simp only[O.c k c hc,O.hl,O.tl,O.gl] <;> omega
 .have hcx: ∀k,k<m.cl->∃c,m.c k=⟨c.goal,c.cl,c.hp,c.tr,c.gs⟩/\Jn P.len qs F.m c:=fun k hk=>by
   obtain ⟨c,hc⟩:=cAt k hk;exact ⟨c,O.c k c hc,hM.ch c (List.mem_of_getElem? hc)⟩
  rcases hL with ⟨i,hi,k,hk,h1,h2⟩| ⟨i,hi,k,hk,h1,h2⟩| ⟨i,hi,k,hk,h1⟩| ⟨j,hj,k,hk,h1,h2,h3⟩
  .obtain ⟨c,ec,hC⟩:=hcx k hk
   obtain ⟨g,hg⟩:=gAt i hi;rw[ec]at h1 h2;rw[O.g i g hg]at h1;simp only at h1 h2;have:=(hC.ok.go i g (by show (F.m.gs.take c.gs)[i]?=_;rw[List.getElem?_take,if_pos (by omega)];exact hg)).1
   rw[fy hC.hp]at this;omega
  .obtain ⟨c,ec,hC⟩:=hcx k hk
   obtain ⟨x,hx⟩:=tAt i hi;rw[ec]at h1 h2;rw[O.t i x hx]at h1;simp only at h1 h2
   have:=hC.ok.tl x (by
    show x∈F.m.tr.take c.tr
    exact List.mem_of_getElem? (i:=i) (by rw[List.getElem?_take,if_pos (by omega)];exact hx))
   rw[fy hC.hp]at this;omega
  .obtain ⟨c,ec,hC⟩:=hcx k hk
   obtain ⟨x,hx⟩:=qAt i hi;rw[ec]at h1;rw[O.q i x hx]at h1;simp only at h1;have:=hC.ok.qu x (List.mem_of_getElem? hx);rw[fy hC.hp]at this;omega
  .obtain ⟨c,ec,hC⟩:=hcx k hk
   rw[ec]at h1 h2 h3;simp only at h1 h2 h3;have hjc:j<c.hp:=by omega
   have hnd:j ∉ F.m.tr.drop c.tr:=fun hd=>by
    obtain ⟨q,hq⟩:=List.getElem?_of_mem hd;rw[List.getElem?_drop]at hq;have hlt:c.tr+q<m.tl:=by rw[O.tl];exact (List.getElem?_eq_some_iff.1 hq).1
    have:=O1 (m:=m) (j:=j) m.tl (c.tr+q) hlt (O.t _ _ hq);omega
   have hat:ah (am c F.m).h j=ah F.m.h j:=by rw[na hC.hp hjc,if_neg hnd]
   have hG:=hC.ok.hg;rw[fy hC.hp]at hG;rw[O.h]at h1;unfold Dm at h1
   rcases hG.kind j hjc with hk1|hk2
   .rw[hat]at hk1
    rw[if_neg (by omega)]at h1
    have h0:=hG.ok.n0 j hjc
    have:=hG.ok.inn j hjc ((ah (am c F.m).h j).n.toNat) (by
     unfold leads;rw[hat];simp[hk1];omega)
    rw[hat]at this h0;omega
   .rw[hat]at hk2
    rw[if_pos hk2]at h1;have h0:=hG.ok.n0 j hjc;rw[hat]at h0
    by_cases hz:(ah F.m.h j).n=0
    .omega
    .have:=(hG.kids j hjc (by rw[hat];exact hk2) ((ah F.m.h j).n.toNat-1) (by rw[hat];omega)).1
     omega
 .rw[O.st];omega
 .rw[O.st];omega
 .rw[O.fin];exact hf
section
attribute [local go_sem] Oper.semAt_some
theorem Jw (g j:Nat):(⟨g,0,none⟩:Addr).add j=⟨g,j,none⟩:=by unfold Addr.add;split <;> simp_all
theorem Ev:(prog.info? 81).map (fun i=>(i.zero,i.size,i.bytes))=some (some (.agg #[iV 0,iV 0,.string ByteArray.empty]),3,32):=by kernel_rfl
theorem M8 (x:Option Addr) (n c:Nat) (w:World):(binOp .eql 25 (.slice x n c) (.slice none 0 0)).run prog w=.ok (.bool x.isNone) w:=by
 cases x <;> kernel_rfl
theorem Ix (x:Option Addr) (n c:Nat) (w:World) (p q:Operand):(eqGuard .eql 25 p q (.slice x n c) (.slice none 0 0)).run prog w=.ok () w:=by
 cases x <;> kernel_rfl
theorem xa {lo n:Nat} {v:Value} {xs:List Value} (w:World) (h:w.ownsRow lo 81 3 v n xs) (h1: ∀u∈xs,u.oneCell'=true) (hl:n<=4000000):
 Calls prog 76 #[v] w fun e w'=>∃v',e=.returned v'/\w'.ownsRow w.heap.size 81 3 v' n xs/\Below w.heap.size w w':=by
 obtain ⟨a,cap,rfl,hcp,hnone,hsome⟩:=ak h;have hq1:=fun W=>M8 a n cap W
 have hq2:=fun W=>Ix a n cap W
 have hxl:=h.1
 cases a with
 |none=>
  obtain ⟨rfl,rfl⟩:=hnone rfl;obtain rfl:xs= []:=List.eq_nil_of_length_eq_zero (by omega)
  clear h h1 hnone hsome hxl
  go_enter Tryz.func76,Tryz.ntmps76
  go_wp2_with fail;go_ret;exact ⟨nZ,rfl,World.ownsRow_nil _ _ _ _,bR⟩
 |some ad=>
  obtain ⟨g,rfl⟩:=hsome ad rfl;obtain ⟨i0,hi,hi0,hi1,hi2⟩:=info_parts Ev;have HO:Hid ((w.alloc (.cells #[] 81)).ownsRow w.heap.size 81 3 (sZ w.heap.size 0 0) 0 []):=World.ownsRow_lit w #[] 0 lZ (by unfold maxLen;omega) rfl
  have HB:Hid (Below w.heap.size w (w.alloc (.cells #[] 81))):=bA
  have HN:Hid (∀j u,xs[j]?=some u->(w.alloc (.cells #[] 81)).cell? ((dZ g 0).add j)=some u):=fun j u hu=>by
   have hj:j<xs.length:=(List.getElem?_eq_some_iff.1 hu).1;have hc:=(h.cellAt j (by omega)).trans hu
   rw[Jw];exact (HB.o.cell (p:=(dZ g j)) (ag hc)).trans hc
  have HL:=hid hxl;have H1:=hid h1;clear h hxl h1 hnone hsome
  go_enter Tryz.func76,Tryz.ntmps76
  go_wp2_with (at_builtin;refine wpList_append_own_at _ rfl (.tmp 5) (.tmp 6) 25 rfl w.heap.size 81 i0 (.agg #[iV 0,iV 0,.string ByteArray.empty]) 3 32 Tryz.underlying25 hi hi0 hi1 hi2 rfl (by decide) (sZ w.heap.size 0 0) 0 [] rfl HO.o (dZ g 0) n cap xs rfl HL.o HN.o H1.o (by unfold maxLen;omega) (by omega) (by simp) ?_;intro v' w6 hown' hgrow hnil hat)
  go_ret;refine ⟨v',rfl,?_,HB.o.grown hgrow (by simp) (fun k hk=>by have:w.heap.size=k:=oj hk;omega)⟩
  simpa using hown'
theorem Eu:(prog.info? 76).map (fun i=>(i.zero,i.size,i.bytes))=some (some (.agg #[iV 0,iV 0,iV 0]),3,24):=by kernel_rfl
theorem M6 (x:Option Addr) (n c:Nat) (w:World):(binOp .eql 26 (.slice x n c) (.slice none 0 0)).run prog w=.ok (.bool x.isNone) w:=by
 cases x <;> kernel_rfl
theorem Iw (x:Option Addr) (n c:Nat) (w:World) (p q:Operand):(eqGuard .eql 26 p q (.slice x n c) (.slice none 0 0)).run prog w=.ok () w:=by
 cases x <;> kernel_rfl
theorem wy {lo n:Nat} {v:Value} {xs:List Value} (w:World) (h:w.ownsRow lo 76 3 v n xs) (h1: ∀u∈xs,u.oneCell'=true) (hl:n<=4000000):
 Calls prog 77 #[v] w fun e w'=>∃v',e=.returned v'/\w'.ownsRow w.heap.size 76 3 v' n xs/\Below w.heap.size w w':=by
 obtain ⟨a,cap,rfl,hcp,hnone,hsome⟩:=ak h;have hq1:=fun W=>M6 a n cap W
 have hq2:=fun W=>Iw a n cap W
 have hxl:=h.1
 cases a with
 |none=>
  obtain ⟨rfl,rfl⟩:=hnone rfl;obtain rfl:xs= []:=List.eq_nil_of_length_eq_zero (by omega)
  clear h h1 hnone hsome hxl
  go_enter Tryz.func77,Tryz.ntmps77
  go_wp2_with fail;go_ret;exact ⟨nZ,rfl,World.ownsRow_nil _ _ _ _,bR⟩
 |some ad=>
  obtain ⟨g,rfl⟩:=hsome ad rfl;obtain ⟨i0,hi,hi0,hi1,hi2⟩:=info_parts Eu;have HO:Hid ((w.alloc (.cells #[] 76)).ownsRow w.heap.size 76 3 (sZ w.heap.size 0 0) 0 []):=World.ownsRow_lit w #[] 0 lZ (by unfold maxLen;omega) rfl
  have HB:Hid (Below w.heap.size w (w.alloc (.cells #[] 76))):=bA
  have HN:Hid (∀j u,xs[j]?=some u->(w.alloc (.cells #[] 76)).cell? ((dZ g 0).add j)=some u):=fun j u hu=>by
   have hj:j<xs.length:=(List.getElem?_eq_some_iff.1 hu).1;have hc:=(h.cellAt j (by omega)).trans hu
   rw[Jw];exact (HB.o.cell (p:=(dZ g j)) (ag hc)).trans hc
  have HL:=hid hxl;have H1:=hid h1;clear h hxl h1 hnone hsome
  go_enter Tryz.func77,Tryz.ntmps77
  go_wp2_with (at_builtin;refine wpList_append_own_at _ rfl (.tmp 5) (.tmp 6) 26 rfl w.heap.size 76 i0 (.agg #[iV 0,iV 0,iV 0]) 3 24 Tryz.underlying26 hi hi0 hi1 hi2 rfl (by decide) (sZ w.heap.size 0 0) 0 [] rfl HO.o (dZ g 0) n cap xs rfl HL.o HN.o H1.o (by unfold maxLen;omega) (by omega) (by simp) ?_;intro v' w6 hown' hgrow hnil hat)
  go_ret;refine ⟨v',rfl,?_,HB.o.grown hgrow (by simp) (fun k hk=>by have:w.heap.size=k:=oj hk;omega)⟩
  simpa using hown'
theorem An:(prog.info? 78).map (fun i=>(i.zero,i.size,i.bytes))=some (some (.agg #[iV 0,iV 0,iV 0,iV 0,iV 0]),5,40):=by kernel_rfl
theorem E4 (x:Option Addr) (n c:Nat) (w:World):(binOp .eql 27 (.slice x n c) (.slice none 0 0)).run prog w=.ok (.bool x.isNone) w:=by
 cases x <;> kernel_rfl
theorem C8 (x:Option Addr) (n c:Nat) (w:World) (p q:Operand):(eqGuard .eql 27 p q (.slice x n c) (.slice none 0 0)).run prog w=.ok () w:=by
 cases x <;> kernel_rfl
theorem se {lo n:Nat} {v:Value} {xs:List Value} (w:World) (h:w.ownsRow lo 78 5 v n xs) (h1: ∀u∈xs,u.oneCell'=true) (hl:n<=4000000):
 Calls prog 78 #[v] w fun e w'=>∃v',e=.returned v'/\w'.ownsRow w.heap.size 78 5 v' n xs/\Below w.heap.size w w':=by
 obtain ⟨a,cap,rfl,hcp,hnone,hsome⟩:=ak h;have hq1:=fun W=>E4 a n cap W
 have hq2:=fun W=>C8 a n cap W
 have hxl:=h.1
 cases a with
 |none=>
  obtain ⟨rfl,rfl⟩:=hnone rfl;obtain rfl:xs= []:=List.eq_nil_of_length_eq_zero (by omega)
  clear h h1 hnone hsome hxl
  go_enter Tryz.func78,Tryz.ntmps78
  go_wp2_with fail;go_ret;exact ⟨nZ,rfl,World.ownsRow_nil _ _ _ _,bR⟩
 |some ad=>
  obtain ⟨g,rfl⟩:=hsome ad rfl;obtain ⟨i0,hi,hi0,hi1,hi2⟩:=info_parts An;have HO:Hid ((w.alloc (.cells #[] 78)).ownsRow w.heap.size 78 5 (sZ w.heap.size 0 0) 0 []):=World.ownsRow_lit w #[] 0 lZ (by unfold maxLen;omega) rfl
  have HB:Hid (Below w.heap.size w (w.alloc (.cells #[] 78))):=bA
  have HN:Hid (∀j u,xs[j]?=some u->(w.alloc (.cells #[] 78)).cell? ((dZ g 0).add j)=some u):=fun j u hu=>by
   have hj:j<xs.length:=(List.getElem?_eq_some_iff.1 hu).1;have hc:=(h.cellAt j (by omega)).trans hu
   rw[Jw];exact (HB.o.cell (p:=(dZ g j)) (ag hc)).trans hc
  have HL:=hid hxl;have H1:=hid h1;clear h hxl h1 hnone hsome
  go_enter Tryz.func78,Tryz.ntmps78
  go_wp2_with (at_builtin;refine wpList_append_own_at _ rfl (.tmp 5) (.tmp 6) 27 rfl w.heap.size 78 i0 (.agg #[iV 0,iV 0,iV 0,iV 0,iV 0]) 5 40 Tryz.underlying27 hi hi0 hi1 hi2 rfl (by decide) (sZ w.heap.size 0 0) 0 [] rfl HO.o (dZ g 0) n cap xs rfl HL.o HN.o H1.o (by unfold maxLen;omega) (by omega) (by simp) ?_;intro v' w6 hown' hgrow hnil hat)
  go_ret;refine ⟨v',rfl,?_,HB.o.grown hgrow (by simp) (fun k hk=>by have:w.heap.size=k:=oj hk;omega)⟩
  simpa using hown'
theorem In:(prog.info? 3).map (fun i=>(i.zero,i.size,i.bytes))=some (some (iV 0),1,8):=by kernel_rfl
theorem Ph (x:Option Addr) (n c:Nat) (w:World):(binOp .eql 28 (.slice x n c) (.slice none 0 0)).run prog w=.ok (.bool x.isNone) w:=by
 cases x <;> kernel_rfl
theorem M7 (x:Option Addr) (n c:Nat) (w:World) (p q:Operand):(eqGuard .eql 28 p q (.slice x n c) (.slice none 0 0)).run prog w=.ok () w:=by
 cases x <;> kernel_rfl
theorem qg {lo n:Nat} {v:Value} {xs:List Value} (w:World) (h:w.ownsRow lo 3 1 v n xs) (h1: ∀u∈xs,u.oneCell'=true) (hl:n<=4000000):
 Calls prog 79 #[v] w fun e w'=>∃v',e=.returned v'/\w'.ownsRow w.heap.size 3 1 v' n xs/\Below w.heap.size w w':=by
 obtain ⟨a,cap,rfl,hcp,hnone,hsome⟩:=ak h;have hq1:=fun W=>Ph a n cap W
 have hq2:=fun W=>M7 a n cap W
 have hxl:=h.1
 cases a with
 |none=>
  obtain ⟨rfl,rfl⟩:=hnone rfl;obtain rfl:xs= []:=List.eq_nil_of_length_eq_zero (by omega)
  clear h h1 hnone hsome hxl
  go_enter Tryz.func79,Tryz.ntmps79
  go_wp2_with fail;go_ret;exact ⟨nZ,rfl,World.ownsRow_nil _ _ _ _,bR⟩
 |some ad=>
  obtain ⟨g,rfl⟩:=hsome ad rfl;obtain ⟨i0,hi,hi0,hi1,hi2⟩:=info_parts In;have HO:Hid ((w.alloc (.cells #[] 3)).ownsRow w.heap.size 3 1 (sZ w.heap.size 0 0) 0 []):=World.ownsRow_lit w #[] 0 lZ (by unfold maxLen;omega) rfl
  have HB:Hid (Below w.heap.size w (w.alloc (.cells #[] 3))):=bA
  have HN:Hid (∀j u,xs[j]?=some u->(w.alloc (.cells #[] 3)).cell? ((dZ g 0).add j)=some u):=fun j u hu=>by
   have hj:j<xs.length:=(List.getElem?_eq_some_iff.1 hu).1;have hc:=(h.cellAt j (by omega)).trans hu
   rw[Jw];exact (HB.o.cell (p:=(dZ g j)) (ag hc)).trans hc
  have HL:=hid hxl;have H1:=hid h1;clear h hxl h1 hnone hsome
  go_enter Tryz.func79,Tryz.ntmps79
  go_wp2_with (at_builtin;refine wpList_append_own_at _ rfl (.tmp 5) (.tmp 6) 28 rfl w.heap.size 3 i0 (iV 0) 1 8 Tryz.underlying28 hi hi0 hi1 hi2 rfl (by decide) (sZ w.heap.size 0 0) 0 [] rfl HO.o (dZ g 0) n cap xs rfl HL.o HN.o H1.o (by unfold maxLen;omega) (by omega) (by simp) ?_;intro v' w6 hown' hgrow hnil hat)
  go_ret;refine ⟨v',rfl,?_,HB.o.grown hgrow (by simp) (fun k hk=>by have:w.heap.size=k:=oj hk;omega)⟩
  simpa using hown'
theorem Ao:(prog.info? 87).map (fun i=>(i.zero,i.size,i.bytes))=some (some (.slice none 0 0),1,24):=by kernel_rfl
theorem E5 (x:Option Addr) (n c:Nat) (w:World):(binOp .eql 29 (.slice x n c) (.slice none 0 0)).run prog w=.ok (.bool x.isNone) w:=by
 cases x <;> kernel_rfl
theorem C9 (x:Option Addr) (n c:Nat) (w:World) (p q:Operand):(eqGuard .eql 29 p q (.slice x n c) (.slice none 0 0)).run prog w=.ok () w:=by
 cases x <;> kernel_rfl
theorem si {lo n:Nat} {v:Value} {xs:List Value} (w:World) (h:w.ownsRow lo 87 1 v n xs) (h1: ∀u∈xs,u.oneCell'=true) (hl:n<=4000000):
 Calls prog 80 #[v] w fun e w'=>∃v',e=.returned v'/\w'.ownsRow w.heap.size 87 1 v' n xs/\Below w.heap.size w w':=by
 obtain ⟨a,cap,rfl,hcp,hnone,hsome⟩:=ak h;have hq1:=fun W=>E5 a n cap W
 have hq2:=fun W=>C9 a n cap W
 have hxl:=h.1
 cases a with
 |none=>
  obtain ⟨rfl,rfl⟩:=hnone rfl;obtain rfl:xs= []:=List.eq_nil_of_length_eq_zero (by omega)
  clear h h1 hnone hsome hxl
  go_enter Tryz.func80,Tryz.ntmps80
  go_wp2_with fail;go_ret;exact ⟨nZ,rfl,World.ownsRow_nil _ _ _ _,bR⟩
 |some ad=>
  obtain ⟨g,rfl⟩:=hsome ad rfl;obtain ⟨i0,hi,hi0,hi1,hi2⟩:=info_parts Ao;have HO:Hid ((w.alloc (.cells #[] 87)).ownsRow w.heap.size 87 1 (sZ w.heap.size 0 0) 0 []):=World.ownsRow_lit w #[] 0 lZ (by unfold maxLen;omega) rfl
  have HB:Hid (Below w.heap.size w (w.alloc (.cells #[] 87))):=bA
  have HN:Hid (∀j u,xs[j]?=some u->(w.alloc (.cells #[] 87)).cell? ((dZ g 0).add j)=some u):=fun j u hu=>by
   have hj:j<xs.length:=(List.getElem?_eq_some_iff.1 hu).1;have hc:=(h.cellAt j (by omega)).trans hu
   rw[Jw];exact (HB.o.cell (p:=(dZ g j)) (ag hc)).trans hc
  have HL:=hid hxl;have H1:=hid h1;clear h hxl h1 hnone hsome
  go_enter Tryz.func80,Tryz.ntmps80
  go_wp2_with (at_builtin;refine wpList_append_own_at _ rfl (.tmp 5) (.tmp 6) 29 rfl w.heap.size 87 i0 nZ 1 24 Tryz.underlying29 hi hi0 hi1 hi2 rfl (by decide) (sZ w.heap.size 0 0) 0 [] rfl HO.o (dZ g 0) n cap xs rfl HL.o HN.o H1.o (by unfold maxLen;omega) (by omega) (by simp) ?_;intro v' w6 hown' hgrow hnil hat)
  go_ret;refine ⟨v',rfl,?_,HB.o.grown hgrow (by simp) (fun k hk=>by have:w.heap.size=k:=oj hk;omega)⟩
  simpa using hown'
theorem Et:(prog.info? 67).map (fun i=>(i.zero,i.size,i.bytes))=some (some (.agg #[iV 0,.string ByteArray.empty,.slice none 0 0]),3,48):=by kernel_rfl
theorem M2 (x:Option Addr) (n c:Nat) (w:World):(binOp .eql 24 (.slice x n c) (.slice none 0 0)).run prog w=.ok (.bool x.isNone) w:=by
 cases x <;> kernel_rfl
theorem Iv (x:Option Addr) (n c:Nat) (w:World) (p q:Operand):(eqGuard .eql 24 p q (.slice x n c) (.slice none 0 0)).run prog w=.ok () w:=by
 cases x <;> kernel_rfl
theorem I4 (T:Tm): ∀(n d:Nat) (w:World),ay w T->kids T<=n->kids T<=d->n<=44739242->d<=65536->
 Calls prog 105 #[iV (n:Int),iV (d:Int),.slice T.a T.len T.cap] w fun e w'=>e=.returned (iV ((n-kids T:Nat):Int))/\Below w.heap.size w w':=by
 induction T with
 |nil=>intro n d w h;exact absurd h id
 |mk v nm a len cap f ih=>
  intro n d w hT hn hd hnB hdB;have HT:Hid (∀W,Below w.heap.size w W->∀i,i<len->fe W a i (f i)/\ay W (f i)):=fun W hW i hi=>(hT.below hW).2.2 i hi
  have hlen:=hT.2.1;unfold maxLen at hlen
  have hln:len<=kids (.mk v nm a len cap f):=by
   have h1: ∀k,k<=bj (fun i=>cnt (f i)) k:=by
    intro k
    induction k with
    |zero=>exact oZ
    |succ k ihk=>show k+1<=bj _ k+cnt (f k);have:=om (f k);omega
   exact h1 len
  have HK:Hid (kids (.mk v nm a len cap f)=bj (fun i=>cnt (f i)) len):=rfl
  have HKn:Hid (kids (.mk v nm a len cap f)<=n/\kids (.mk v nm a len cap f)<=d):=⟨hn,hd⟩;have HI:Hid (∀(i n d:Nat) (w:World),ay w (f i)->kids (f i)<=n->kids (f i)<=d->n<=44739242->d<=65536->Calls prog 105 #[iV (n:Int),iV (d:Int),.slice (f i).a (f i).len (f i).cap] w fun e w'=>e=.returned (iV ((n-kids (f i):Nat):Int))/\Below w.heap.size w w'):=fun i=>ih i
  show Calls _ _ #[iV (n:Int),iV (d:Int),.slice a len cap] _ _
  have hlI:(len:Int)<=44739242:=by omega
  clear hT ih hn hd
  go_enter Tryz.func105,Tryz.ntmps105
  go_wp2_with fail
  go_loopw [0,11] (fun x y wr=>∃i k:Nat,i<=len/\y=iV (i:Int)/\x=iV (k:Int)/\k+bj (fun i=>cnt (f i)) i=n/\Below w.heap.size w wr) (fun _ y _=>len-(intOf y).toNat)
  case atStart=>exact ⟨0,n,oZ,rfl,rfl,rfl,bR⟩
  case round=>
   obtain ⟨i,k,hi,rfl,rfl,hs,hb⟩:=hrel;have HB:=hid hb;have HS:=hid hs;have hkn:k<=n:=by omega
   clear hb hs
   by_cases hlt:i<len
   case neg=>
    have hI: ¬((i:Int)<(len:Int)):=by omega
    obtain rfl:i=len:=by omega
    go_wp2_with fail;go_ret;refine ⟨?_,HB.o⟩;have h1:=HS.o;rw[HK.o];rw[show n-bj (fun i=>cnt (f i)) i=k from by omega]
    rfl
   have hI:(i:Int)<(len:Int):=by omega
   obtain ⟨⟨b,o,rfl,c0,c1,c2⟩,hti⟩:=HT.o wr HB.o i hlt;have hstep:bj (fun i=>cnt (f i)) (i+1)=bj (fun i=>cnt (f i)) i+cnt (f i):=rfl
   have hle:=ml (fun i=>cnt (f i)) (show i+1<=len by omega)
   have hce:=om (f i);obtain ⟨k',rfl⟩: ∃k',k=k'+1:=⟨k-1,by have:=HS.o;have:=HKn.o.1;have:=HK.o;omega⟩
   obtain ⟨d',rfl⟩: ∃d',d=d'+1:=⟨d-1,by have:=HKn.o.2;have:=HK.o;omega⟩
   have hq1:kids (f i)<=k':=by have:=HS.o;have:=HKn.o.1;have:=HK.o;omega
   have hq2:kids (f i)<=d':=by have:=HKn.o.2;have:=HK.o;omega
   have HBa:Hid (Below wr.heap.size wr (wr.alloc (.cells #[iV (f i).v,.string (f i).nm,.slice (f i).a (f i).len (f i).cap] 67))):=bA;obtain ⟨a0,a1,a2,_⟩:=ae (hZ wr (.cells #[iV (f i).v,.string (f i).nm,.slice (f i).a (f i).len (f i).cap] 67));have HC:=hid (HI.o i k' d' _ (hti.below HBa.o) hq1 hq2 (by omega) (by omega))
   have hz1:((k':Int)+1==0)=false:=bF (by omega)
   have hz2:((d':Int)+1==0)=false:=bF (by omega)
   have hz3:(k':Int)+1-1=(k':Int):=by omega
   have hz4:(d':Int)+1-1=(d':Int):=by omega
   obtain ⟨r,hr⟩: ∃r,r=k'-kids (f i):=⟨_,rfl⟩;have HR:Hid (r+bj (fun i=>cnt (f i)) (i+1)=n):=by rw[Hid];have:=HS.o;omega
   rw[<-hr]at HC;have hr0: ¬((r:Int)<0):=by omega
   clear hstep hle hce hq1 hq2 hti hr;go_wp2_with fail;refine HC.o.mono ?_;rintro e w1 ⟨rfl,hb1⟩;have HB1:=hid (HB.o.trans ((HBa.o.trans (hb1.mono HBa.o.size)).mono HB.o.size));clear hb1 HC c0 c1 c2 a0 a1 a2;go_wp2_with fail;refine ⟨?_,?measure⟩
   ·(repeat apply Exists.intro)
    first|exact ⟨⟨i+1,r,by omega,by go_num,rfl,HR.o,HB1.o⟩,rfl⟩|exact ⟨⟨i+1,r,by omega,by go_num,rfl,HR.o,HB1.o⟩,rfl,rfl⟩|exact ⟨⟨i+1,r,by omega,by go_num,rfl,HR.o,HB1.o⟩,rfl,rfl,rfl⟩|exact ⟨⟨i+1,r,by omega,by go_num,rfl,HR.o,HB1.o⟩,rfl,rfl,rfl,rfl⟩|exact ⟨⟨i+1,r,by omega,by go_num,rfl,HR.o,HB1.o⟩,rfl,rfl,rfl,rfl,rfl⟩|exact ⟨⟨i+1,r,by omega,by go_num,rfl,HR.o,HB1.o⟩,rfl,rfl,rfl,rfl,rfl,rfl⟩|exact ⟨⟨i+1,r,by omega,by go_num,rfl,HR.o,HB1.o⟩,rfl,rfl,rfl,rfl,rfl,rfl,rfl⟩
   case measure=>simp[intOf];omega
theorem Hx {w:World} {lo g cap n:Nat} {ts:List Tm} (h:w.ownsRow lo 67 3 (.slice (some ⟨g,0,none⟩) n cap) n (cy ts)) (hl:ts.length=n) {i:Nat} (hi:i<ts.length) (X:Tm) (hv:X.v=ts[i].v) (hn:X.nm=ts[i].nm):
 (w.setCell ⟨g,i*3+2,none⟩ (.slice X.a X.len X.cap)).ownsRow lo 67 3 (.slice (some ⟨g,0,none⟩) n cap) n (cy (ts.set i X)):=by
 have hf:=km ts i hi
 have e1:(cy ts).set (i*3) (iV X.v)=cy ts:=by
  apply List.ext_getElem?
  intro j;rw[List.getElem?_set]
  by_cases e:i*3=j
  .subst e
   rw[if_pos rfl,hf.1,hv];have:=(List.getElem?_eq_some_iff.1 hf.1).1;simp[this]
  .rw[if_neg e]
 have e2:(cy ts).set (i*3+1) (.string X.nm)=cy ts:=by
  apply List.ext_getElem?
  intro j;rw[List.getElem?_set]
  by_cases e:i*3+1=j
  .subst e
   rw[if_pos rfl,hf.2.1,hn];have:=(List.getElem?_eq_some_iff.1 hf.2.1).1;simp[this]
  .rw[if_neg e]
 have e3:=ur X ts i hi;rw[e1,e2]at e3;obtain ⟨h1,h2⟩:=h
 rcases h2 with ⟨h2,_⟩| ⟨g',cap',cur,hv',hlo,hg,hnc,hcm,hsz,htk⟩
 .cases h2
 cases hv';refine ⟨?_,.inr ⟨g,cap,cur.setIfInBounds (i*3+2) (.slice X.a X.len X.cap),rfl,hlo,?_,hnc,hcm,?_,?_⟩⟩
 .rw[<-e3];simp[h1]
 .simp only[World.setCell,Array.getElem?_modify]
  simp[hg]
 .simp[hsz]
 .rw[<-e3,<-htk]
  simp[List.take_set]
theorem xb (T:Tm) (w:World) (hT:ay w T) (hl:T.len<=1000000):
 Calls prog 106 #[.slice T.a T.len T.cap] w fun e w'=>∃a cap,e=.returned (.slice a T.len cap)/\w'.ownsRow w.heap.size 67 3 (.slice a T.len cap) T.len (cy ((List.range T.len).map T.f))/\Below w.heap.size w w':=by
 cases T with
 |nil=>exact absurd hT id
 |mk v nm a n cap f=>
 show Calls _ _ #[.slice a n cap] _ fun e w'=>∃a cap,e=.returned (.slice a n cap)/\w'.ownsRow w.heap.size 67 3 (.slice a n cap) n (cy ((List.range n).map f))/\Below w.heap.size w w'
 have hl':n<=1000000:=hl;have hq1:=fun W=>M2 a n cap W
 have hq2:=fun W=>Iv a n cap W
 cases a with
 |none=>
  have h0:n=0:=by
   by_cases e:n=0
   .exact e
   .obtain ⟨b,o,h,_⟩:=(hT.2.2 0 (by omega)).1
    cases h
  subst h0;clear hT hl hl'
  go_enter Tryz.func106,Tryz.ntmps106
  go_wp2_with fail;go_ret;exact ⟨none,0,rfl,World.ownsRow_nil _ _ _ _,bR⟩
 |some ad=>
  obtain ⟨i0,hi,hi0,hi1,hi2⟩:=info_parts Et;have HO:Hid ((w.alloc (.cells #[] 67)).ownsRow w.heap.size 67 3 (sZ w.heap.size 0 0) 0 []):=World.ownsRow_lit w #[] 0 lZ (by unfold maxLen;omega) rfl
  have HB:Hid (Below w.heap.size w (w.alloc (.cells #[] 67))):=bA;have HL:Hid ((cy ((List.range n).map f)).length=n*3):=by rw[Hid,ru];simp
  have HN:Hid (∀j u,(cy ((List.range n).map f))[j]?=some u->(w.alloc (.cells #[] 67)).cell? (ad.add j)=some u):=fun j u hu=>by
   have hj:j<n*3:=by have:=(List.getElem?_eq_some_iff.1 hu).1;have:=HL.o;omega
   obtain ⟨b,o,had,c0,c1,c2⟩:=((hT.below HB.o).2.2 (j / 3) (by omega)).1
   cases had;have hg:=km ((List.range n).map f) (j / 3) (by simp;omega)
   simp only[List.getElem_map,List.getElem_range]at hg;have hadd:(dZ b o).add j=(dZ b (o+j)):=by unfold Addr.add;split <;> simp_all
   rw[hadd]
   rcases (show j=j / 3*3\/j=j / 3*3+1\/j=j / 3*3+2 by omega)with e|e|e
   .rw[e]at hu |-
    rw[hg.1]at hu;rw[<-hu];exact c0
   .rw[e]at hu |-
    rw[hg.2.1]at hu;rw[<-hu];exact c1
   .rw[e]at hu |-
    rw[hg.2.2]at hu;rw[<-hu];exact c2
  have H1:Hid (∀u∈cy ((List.range n).map f),u.oneCell'=true):=fun u hu=>by
   obtain ⟨c,_,hc⟩:=List.mem_flatMap.1 hu;simp[cells3]at hc
   rcases hc with rfl|rfl|rfl <;> rfl
  clear hT
  go_enter Tryz.func106,Tryz.ntmps106
  go_wp2_with (at_builtin;refine wpList_append_own_at _ rfl (.tmp 5) (.tmp 6) 24 rfl w.heap.size 67 i0 (.agg #[iV 0,.string ByteArray.empty,nZ]) 3 48 Tryz.underlying24 hi hi0 hi1 hi2 rfl (by decide) (sZ w.heap.size 0 0) 0 [] rfl HO.o ad n cap (cy ((List.range n).map f)) rfl HL.o HN.o H1.o (by unfold maxLen;omega) (by omega) (by simp) ?_;intro v' w6 hown' hgrow hnil hat)
  go_ret;have hown:w6.ownsRow w.heap.size 67 3 v' n (cy ((List.range n).map f)):=by simpa using hown'
  obtain ⟨a',cp',e',_⟩:=ak hown;subst e';exact ⟨a',cp',rfl,hown,HB.o.grown hgrow (by simp) (fun k hk=>by have:w.heap.size=k:=oj hk;omega)⟩
end
end Go.Proofs.YtmggaclaoefdaabGreat
