/- Part of the proof. Part of the proof. Part of the proof. -/
import Derived.Test.YtmggaclaoefdaabGreatSq0
import Derived.Test.YtmggaclaoefdaabGreatGBM
import Derived.Test.YtmggaclaoefdaabGreatGBL
namespace Go.Proofs.YtmggaclaoefdaabGreat
open Go.RowKit
set_option linter.unusedVariables false
set_option linter.unusedSimpArgs false
structure RnI (P:Pg) (n:Nat) (qs:List Nat) (F:FM):Prop where
 fs: ∃Y,FSim P n qs F Y
 tr:F.m.tr.length≤8000*F.st+4000*F.an.length
 cs:F.m.cs.length≤F.st
 an:F.an.length≤40
section
variable {P:Pg} {n:Nat} {qs:List Nat} {limit:Nat} {F:FM}
theorem answer_an:F.m.fin=0→F.an.length<40→(answerM P qs F).an.length≤40∧((answerM P qs F).m.fin=0→(answerM P qs F).an.length<40):=by
 intro _ h4;unfold answerM
 split
 ·exact ⟨by show F.an.length≤40;omega,fun h=>absurd (show (3:Int)=0 from h) (by decide)⟩
 ·split
  ·exact ⟨by show (F.an++ [_]).length≤40;simp;omega,fun h=>absurd (show (1:Int)=0 from h) (by decide)⟩
  ·exact ⟨by show (F.an++ [_]).length≤40;simp;omega,fun _=>by show (F.an++ [_]).length<40;simp;omega⟩
theorem mrun_len: ∀(f:Nat) (F:FM),F.an.length≤40→(F.m.fin=0→F.an.length<40)→(mrun P qs limit f F).an.length≤40:=by
 intro f
 induction f with
 |zero=>intro F h _;exact h
 |succ f ih=>
  intro F h h4
  by_cases hf:F.m.fin≠0
  ·rw[mrun_fin hf];exact h
  have hf0:F.m.fin=0:=Classical.not_not.1 hf
  by_cases h0:F.m.first=0
  ·rw[mrun_ans hf h0]
   have:=answer_an (P:=P) (qs:=qs) hf0 (h4 hf0);exact ih _ this.1 this.2
  by_cases hs:F.st=limit
  ·rw[mrun_end hf h0 hs];exact h
  ·rw[mrun_step hf h0 hs]
   exact ih _ h (fun _=>h4 hf0)
theorem RnI.answer (hC:ClOk P) (R:RnI P n qs F) (hf:F.m.fin=0) (h0:F.m.first=0):RnI P n qs (answerM P qs F)∧(answerM P qs F).st=F.st:=by
 obtain ⟨Y,S⟩:=R.fs;have hf0:Y.fin=0:=by have:=S.m.fin;omega
 have hfew:=S.few hf0;rw[←S.an]at hfew;obtain ⟨h1,h2⟩:=answer_sim hC S hf0 h0;have h3:=answer_an (P:=P) (qs:=qs) hf hfew;have hO:=answer_out hC S.ok (S.sz.gs5 S.s4);refine ⟨⟨⟨_,h1⟩,?_,by rw[hO.st];exact Nat.le_trans hO.cs R.cs,h3.1⟩,hO.st⟩
 rw[hO.st];have hR:=R.tr;have hB:=backM_out hC S.ok (S.sz.gs5 S.s4);unfold answerM
 split
 ·exact hR
 ·split
  ·show F.m.tr.length≤8000*F.st+4000*(F.an++ [_]).length
   rw[List.length_append,List.length_singleton,Nat.mul_succ,←Nat.add_assoc];exact Nat.le_trans hR (Nat.le_add_right _ 4000)
  ·show (backM P F.m).tr.length≤8000*F.st+4000*(F.an++ [_]).length
   rw[List.length_append,List.length_singleton,Nat.mul_succ,←Nat.add_assoc];exact Nat.le_trans hB.tr (Nat.add_le_add_right hR 4000)
theorem RnI.settle (hC:ClOk P): ∀(k:Nat) (F:FM),RnI P n qs F→RnI P n qs (settleM P qs k F):=by
 intro k
 induction k with
 |zero=>intro F R;exact R
 |succ k ih=>
  intro F R;rw[settleM]
  by_cases hc:F.m.fin=0∧F.m.first=0
  ·rw[if_pos hc];exact ih _ (R.answer hC hc.1 hc.2).1
  ·rw[if_neg hc];exact R
theorem RnI.step (hC:ClOk P) (R:RnI P n qs F) (hs:F.m.fin=0→F.m.first≠0→F.st<400):RnI P n qs (stepM P qs F):=by
 unfold stepM
 by_cases hc:F.m.fin=0∧F.m.first≠0
 ·rw[if_pos hc]
  refine RnI.settle hC 41 _ ?_;obtain ⟨Y,S⟩:=R.fs;have hf0:Y.fin=0:=by have:=S.m.fin;omega
  have:=hs hc.1 hc.2;have hst:=S.st;obtain ⟨h1,_⟩:=step_sim hC S hf0 hc.2 (by omega)
  have hfl:=S.ok.fst
  have hO:OkM P.len qs { F.m with left:=4000}:=S.ok.same rfl rfl rfl S.ok.fst rfl
  have hT:=takeM_out (X:= { F.m with left:=4000}) (i:=F.m.first-1) hC hO (S.sz.gs5 S.s4) (by show F.m.first=_;omega) (by show F.m.first-1<F.m.gs.length;omega) hc.1 ⟨4000,rfl,Nat.le_refl _⟩
  have ht:(takeM P { F.m with left:=4000}).tr.length≤F.m.tr.length+8000:=hT.tr
  have hcs:(takeM P { F.m with left:=4000}).cs.length≤F.m.cs.length+1:=hT.cs
  have hR:=R.tr;have hR2:=R.cs
  exact ⟨⟨_,h1⟩,by
   show (takeM P { F.m with left:=4000}).tr.length≤8000*(F.st+1)+4000*F.an.length
   rw[Nat.mul_succ];generalize 4000*F.an.length=x at*;generalize 8000*F.st=y at*
   omega,by show (takeM P { F.m with left:=4000}).cs.length≤F.st+1;omega,R.an⟩
 ·rw[if_neg hc];exact RnI.settle hC 41 _ R
theorem RnI.few (R:RnI P n qs F) (hf:F.m.fin=0):F.an.length<40:=by
 obtain ⟨Y,S⟩:=R.fs;have hf0:Y.fin=0:=by have:=S.m.fin;omega
 rw[S.an];exact S.few hf0
theorem settle_first (h4:F.m.fin=0→F.an.length<40) (hf:(settleM P qs 41 F).m.fin=0):(settleM P qs 41 F).m.first≠0:=
 (settle_done (P:=P) (qs:=qs) 41 F (.inr (by omega)) h4).1.resolve_left (fun x=>x hf)
theorem step_first (h4:F.m.fin=0→F.an.length<40) (hf:(stepM P qs F).m.fin=0):(stepM P qs F).m.first≠0:=by
 unfold stepM at hf ⊢
 by_cases hc:F.m.fin=0∧F.m.first≠0
 ·rw[if_pos hc]at hf ⊢
  exact settle_first (fun _=>h4 hc.1) hf
 ·rw[if_neg hc]at hf ⊢
  exact settle_first h4 hf
theorem RnI.walk (R:RnI P n qs F):OkM P.len qs F.m∧F.m.gs.length≤5000∧F.m.tr.length≤7700000∧F.m.cs.length≤999000∧F.st≤400:=by
 obtain ⟨Y,S⟩:=R.fs;have h1:=S.st;have h2:=S.s4;have h3:=R.tr;have h4:=R.an;have h5:=R.cs;exact ⟨S.ok,S.sz.gs5 S.s4,by omega,by omega,by omega⟩
theorem start_rni {Q:Tm} (hQ:queryV Q=0) (hv:varsV Q=(n:Int)) (hn:n≤12):RnI P n (List.range n) ⟨startX Q n,[],0⟩:=⟨⟨_,start_fsim hQ hv hn⟩,by show (0:Nat)≤_;omega,Nat.le_refl _,by show (0:Nat)≤40;omega⟩
theorem run_sol {Q:Tm} (hC:ClOk P) (hQ:queryV Q=0) (hv:varsV Q=(n:Int)) (hn:n≤12) (hl:limit≤400):
 let G:=endM (runM P (List.range n) limit (limit+1) (settleM P (List.range n) 41 ⟨startX Q n,[],0⟩))
 G.m.fin=((solP P Q limit).fin:Int)∧G.an=(solP P Q limit).ans∧G.st=(solP P Q limit).st∧G.an.length≤40∧G.m.fin≠0:=by
 intro G;have hG:G=mrun P (List.range n) limit 442 ⟨startX Q n,[],0⟩:=run_all rfl rfl hl;have hS:=mrun_sim (P:=P) (n:=n) (qs:=List.range n) hC hl 442 ⟨startX Q n,[],0⟩ (ps0 Q n) (start_fsim hQ hv hn) (Nat.zero_le _)
 have hsol:runP (cls P) n limit 442 (ps0 Q n)=solP P Q limit:=by
  unfold solP;rw[hv,Int.toNat_natCast]
 rw[hsol]at hS;refine ⟨by rw[hG];exact hS.1,by rw[hG];exact hS.2.1,by rw[hG];exact hS.2.2,?_,?_⟩
 ·rw[hG]
  exact mrun_len 442 _ (by show (0:Nat)≤40;omega) (fun _=>by show (0:Nat)<40;omega)
 ·show (endM (runM P (List.range n) limit (limit+1) (settleM P (List.range n) 41 ⟨startX Q n,[],0⟩))).m.fin≠0
  unfold endM
  by_cases h:(runM P (List.range n) limit (limit+1) (settleM P (List.range n) 41 ⟨startX Q n,[],0⟩)).m.fin=0
  ·rw[if_pos h];show (2:Int)≠0;decide
  ·rw[if_neg h];exact h
end
end Go.Proofs.YtmggaclaoefdaabGreat

namespace Go.Proofs.YtmggaclaoefdaabGreat
open Go.RowKit Go.Shelf
set_option linter.unusedVariables false
set_option linter.unusedSimpArgs false
attribute [local go_sem] Oper.semAt_some
theorem mwithin_any (n a b:Int) (w:World):Calls Tryz.prog 37 #[iV n,iV a,iV b] w fun e w'=>e=.returned (.bool (decide (a≤n)&&decide (n≤b)))∧w'=w:=by
 by_cases h1:a≤n
 ·by_cases h2:n≤b
  all_goals
   go_enter Tryz.func37,Tryz.ntmps37
   go_wp2_with fail;go_ret;exact ⟨by simp[h1,h2],rfl⟩
 ·go_enter Tryz.func37,Tryz.ntmps37
  go_wp2_with fail;go_ret;exact ⟨by rw[decide_eq_false (show¬a≤n by omega)];rfl,rfl⟩
section
set_option maxRecDepth 100000 in
set_option maxHeartbeats 8000000 in
theorem mrun_any (P:Pg) (Q:Tm) (steps:Int) (w:World) (hP:PIn w P) (hc:P.len≤P.cap) (hQ:TIn w Q):
 Calls Tryz.prog 17 #[.slice P.a P.len P.cap,.slice Q.a Q.len Q.cap,iV steps] w (VRes P Q steps w):=by
 have HZ:Hid ((w.alloc (.cells #[.slice none 0 0,iV 0,iV 0] 44)).heap[w.heap.size]?=some (.cells #[.slice none 0 0,iV 0,iV 0] 44)):=heap_alloc_new w _;have HBz:Hid (Below w.heap.size w (w.alloc (.cells #[.slice none 0 0,iV 0,iV 0] 44))):=(Below.refl _ _).alloc (Nat.le_refl _) _;have HSt:=hid (mstart_any P Q _ (hP.below HBz.o) hc (hQ.below HBz.o));clear hP hQ
 go_enter Tryz.func17,Tryz.ntmps17
 go_wp2_with fail;generalize w.alloc (.cells #[.slice none 0 0,iV 0,iV 0] 44)=wz at*;have hzz:w.heap.size<wz.heap.size:=(Array.getElem?_eq_some_iff.1 HZ.o).1;refine HSt.o.mono ?_;rintro e w1 ⟨hb1,⟨hE,rfl⟩| ⟨hE,n,s,r,hvn,hn12,rfl,hM1,hrP,hrst,hPr⟩⟩
 ·have HBw1:=hid (HBz.o.trans (hb1.mono HBz.o.size))
  have HZ1:=hid ((hb1.block _ hzz).trans HZ.o);have heb:=bne_iff_ne.2 hE
  have HE:Hid (solveE P Q steps=startE P Q∧solveE P Q steps≠0):=by
   have:solveE P Q steps=startE P Q:=by
    unfold startE at hE ⊢;unfold solveE
    by_cases hp:progV P≠0
    ·rw[if_pos hp,if_pos hp]
    ·rw[if_neg hp]at hE
     rw[if_neg hp,if_neg hp,if_pos hE]
   exact ⟨this,by rw[this];exact hE⟩
  obtain ⟨z0,z1,z2,zf0,zf1,zf2⟩:=block_cells HZ1.o;generalize startE P Q=ev at*;clear hE hb1 HSt;go_wp2_with fail;obtain ⟨W',hW',g0,g1,g2,hB',_⟩:=fin3s (r:=w.heap.size) (Nat.le_refl _) HZ1.o HBw1.o (.slice none 0 0) (iV 0) (iV 0);rw[hW'];refine bodyPost_ret (v:=.tuple #[rsV none 0 0 0 0,iV ev]) ?_ rfl ⟨hB',.inl ⟨HE.o.2,by rw[HE.o.1]⟩⟩
  simp[results,Tryz.results17,go_sem,g0,g1,g2,rsV]
 have HBw1:=hid (HBz.o.trans (hb1.mono HBz.o.size));have HB1:=hid hb1;have HM1:=hid hM1;have HrP:=hid hrP;have Hrst:=hid hrst;have HPr:=hid hPr;have HZ1:=hid ((hb1.block _ hzz).trans HZ.o)
 have hpq:progV P=0∧queryV Q=0:=by
  unfold startE at hE
  by_cases hp:progV P≠0
  ·rw[if_pos hp]at hE;exact absurd hE hp
  ·rw[if_neg hp]at hE;exact ⟨Classical.not_not.1 hp,hE⟩
 have HPQ:=hid hpq;have HC:=hid ((progV_ok hpq.1).2);have Hvn:=hid hvn;clear hE hb1 HSt hM1 hrP hrst hPr hpq hvn
 by_cases hsr:0≤steps∧steps≤400
 case neg=>
  have HE:Hid (solveE P Q steps=3):=by
   rw[Hid];unfold solveE;rw[if_neg (by simpa using HPQ.o.1),if_neg (by simpa using HPQ.o.2),if_pos (by omega)]
  have HWi:Hid (Calls Tryz.prog 37 #[iV steps,iV 0,iV 400] w1 fun e w'=>e=.returned (.bool false)∧w'=w1):=(mwithin_any steps 0 400 w1).mono fun e w' ⟨he,hw⟩=>⟨by rw[he];congr 2;simp;omega,hw⟩
  obtain ⟨z0,z1,z2,zf0,zf1,zf2⟩:=block_cells HZ1.o;clear hsr;go_wp2_with fail;refine HWi.o.mono ?_;rintro e w2 ⟨rfl,rfl⟩;go_wp2_with fail;obtain ⟨W',hW',g0,g1,g2,hB',_⟩:=fin3s (r:=w.heap.size) (Nat.le_refl _) HZ1.o HBw1.o (.slice none 0 0) (iV 0) (iV 0);rw[hW'];refine bodyPost_ret (v:=.tuple #[rsV none 0 0 0 0,iV 3]) ?_ rfl ⟨hB',.inl ⟨by rw[HE.o];decide,by rw[HE.o]⟩⟩
  simp[results,Tryz.results17,go_sem,g0,g1,g2,rsV]
 have HE:Hid (solveE P Q steps=0):=by
  rw[Hid];unfold solveE;rw[if_neg (by simpa using HPQ.o.1),if_neg (by simpa using HPQ.o.2),if_neg (by omega)]
 have HWi:Hid (Calls Tryz.prog 37 #[iV steps,iV 0,iV 400] w1 fun e w'=>e=.returned (.bool true)∧w'=w1):=(mwithin_any steps 0 400 w1).mono fun e w' ⟨he,hw⟩=>⟨by rw[he];congr 2;simp;omega,hw⟩
 obtain ⟨L,hL⟩: ∃L:Nat,steps=(L:Int):=⟨steps.toNat,by omega⟩
 have hL4:L≤400:=by omega
 subst hL;have hR0:=start_rni (P:=P) HPQ.o.2 Hvn.o hn12;have hW0:=hR0.walk
 have HSe:Hid (Calls Tryz.prog 47 #[.pointer (some ⟨s,0,none⟩)] w1 (AnR wz.heap.size w1 s r (List.range n) (settleM P (List.range n) 41 ⟨startX Q n,[],0⟩))):=by
  have h:=msettle_any (st0:=0) w1 HM1.o HB1.o.size (by rw[HrP.o];exact hW0.1) (by rw[HrP.o];exact HC.o) HPr.o hW0.2.1 (by show (0:Nat)≤7800000;omega) (by show (0:Nat)≤1000000;omega) (by simp;omega) (by simp)
  rw[HrP.o]at h;exact h
 have HRn:=hid (RnI.settle HC.o 41 _ hR0);have Hst1:Hid ((settleM P (List.range n) 41 ⟨startX Q n,[],0⟩).st=0):=settle_st 41 _;clear hsr hR0 hW0;go_wp2_with fail;refine HWi.o.mono ?_;rintro e w2 ⟨rfl,rfl⟩;go_wp2_with fail;refine HSe.o.mono ?_;rintro e w3 ⟨rfl,r3,an3,hM3,hA3,hK3,hB3⟩
 have HMl:Hid (∀k,MnR s r k→wz.heap.size≤k):=fun k hm=>by
  have M:=HM1.o.mn
  rcases hm with e|e|e|e|e|e
  ·rw[e];exact M.los
  ·exact (M.hp.lt k e).1
  ·exact (M.go.lt k e).1
  ·exact (M.ch.lt k e).1
  ·exact (M.tl.lt k e).1
  ·exact (M.anr.lt k e).1
 have HM3:=hid hM3;have HA3:=hid hA3;have HK3:=hid hK3;have HB3:=hid hB3;have HP3:=hid (HPr.o.nextA hB3 hK3);have Hs3:=hid (hK3.st.trans Hrst.o);clear hM3 hA3 hK3 hB3;go_wp2_with fail;generalize hF1:settleM P (List.range n) 41 ⟨startX Q n,[],0⟩=F1 at*;have HF1:=hid hF1;clear hF1
 go_loopg [] (L+1) (fun fu wr=>∃(r1:Rn) (F:FM) (an1:List Tm),MX wz.heap.size wr s r1 F.m (List.range n) an1∧an1.map ansC=F.an∧r1.st=(F.st:Int)∧r1.P=P∧(∀k,k<w2.heap.size→MnR s r1 k→MnR s r k)∧Bw (MnR s r) w2.heap.size w2 wr∧PrgM wr s r1∧RnI P n (List.range n) F∧runM P (List.range n) L (L+1) F1=runM P (List.range n) L fu F∧L-F.st<fu∧F.st≤L∧(F.m.fin=0→F.m.first≠0))
 case atStart=>exact ⟨r3,F1,an3,HM3.o,HA3.o,by rw[Hs3.o,Hst1.o];rfl,HK3.o.P.trans HrP.o,HK3.o.own,HB3.o,HP3.o,HRn.o,rfl,by omega,by rw[Hst1.o];exact Nat.zero_le _,fun h=>by rw[←HF1.o]at h ⊢;exact settle_first (fun _=>by show (0:Nat)<40;omega) h⟩
 case round=>
  obtain ⟨r1,F,an1,hM,hA,hst,hPq,hown,hB,hPr1,hR,hE1,hfu,hFl,hne⟩:=hrel;have Hne:=hid hne;clear hne;have HM:=hid hM;have HA:=hid hA;have Hst:=hid hst;have HPq:=hid hPq;have Hown:=hid hown;have HB:=hid hB;have HPr1:=hid hPr1;have HR:=hid hR;have HE1:=hid hE1;obtain ⟨f,rfl⟩: ∃f,gk=f+1:=⟨gk-1,by omega⟩
  obtain ⟨_,⟨y6,y7,y8,_⟩,yf⟩:=hM.mn.blk.get;rw[hM.fin]at y7;rw[hst]at y6;have yf7:=yf 7;have hws:=hB.size;have hlen1:an1.length=F.an.length:=by rw[←hA,List.length_map]
  have hL40:an1.length≤40:=by rw[hlen1];exact hR.an
  have Hl40:=hid hL40;clear hM hA hst hPq hown hB hPr1 hR hE1 yf hlen1 hL40
  by_cases hc:F.m.fin=0∧F.st<L
  case neg=>
   have HG:Hid (runM P (List.range n) L (L+1) F1=F):=by rw[Hid,HE1.o,runM,if_neg hc]
   obtain ⟨sa,ca,hav,hle,hAR⟩:=ans_form HM.o.mn.anr (fun A hA=>(HM.o.mn.all A hA).1)
   have HZr0:Hid (wr.heap[w.heap.size]?=some (.cells #[.slice none 0 0,iV 0,iV 0] 44)):=(HB.o.block _ (by have:=HB1.o.size;omega) (fun hm=>by have:=HMl.o _ hm;omega)).trans HZ1.o
   have HBr0:Hid (Below w.heap.size w wr):=⟨HB.o.os.trans HBw1.o.os,HB.o.tape.trans HBw1.o.tape,HB.o.output.trans HBw1.o.output,Nat.le_trans HBw1.o.size HB.o.size,fun k hk=>(HB.o.block k (by have:=HBw1.o.size;omega) (fun hm=>by have:=HMl.o _ hm;omega)).trans (HBw1.o.block k hk)⟩
   have HAR0:Hid (AR wr sa an1∧(∀b o,sa=some ⟨b,o,none⟩→b≠w.heap.size)∧∀A∈an1,NB w.heap.size A):=⟨hAR,fun b o e hb=>by
    have:=HM.o.mn.anr.lt b (by rw[hav,e];rfl)
    omega,fun A hA=>nb_res HZr0.o (HM.o.mn.all A hA).1⟩
   have hsol:=run_sol (n:=n) (limit:=L) HC.o HPQ.o.2 Hvn.o hn12 hL4;rw[HF1.o,HG.o]at hsol;have Hsol:=hid hsol;rw[hav]at y8;have Hav:Hid (r1.av=.slice sa an1.length ca):=hav;have hsne:s≠w.heap.size:=by have:=HM1.o.mn.los;omega
   clear hsol hav hAR
   by_cases hfin:F.m.fin=0
   ·have hfb:(F.m.fin==0)=true:=beq_iff_eq.2 hfin
    have hstL: ¬((F.st:Int)<(L:Int)):=fun h=>hc ⟨hfin,by omega⟩
    have HSo:Hid ((0:Int)<2∧(solP P Q ((L:Int)).toNat).ans=an1.map ansC∧(solP P Q ((L:Int)).toNat).fin=(2:Int).toNat∧(solP P Q ((L:Int)).toNat).st=((F.st:Int)).toNat):=by
     obtain ⟨q1,q2,q3,_⟩:=Hsol.o;unfold endM at q1 q2 q3;rw[if_pos hfin]at q1 q2 q3;have q1':(2:Int)=((solP P Q L).fin:Int):=q1;have q2':F.an=(solP P Q L).ans:=q2;have q3':F.st=(solP P Q L).st:=q3;rw[Hid,Int.toNat_natCast,Int.toNat_natCast,←q2',←q3',HA.o];exact ⟨by decide,rfl,by show _=2;omega,rfl⟩
    have hM7:=HM.o.mn.int 7 2 (r':= { r1 with fin:=2}) rfl ⟨rfl,rfl,rfl,rfl,rfl,rfl⟩
    have hg7:=grown_set (W:=wr) s 7 (iV 2);have HZr:Hid ((wr.setCell ⟨s,7,none⟩ (iV 2)).heap[w.heap.size]?=some (.cells #[.slice none 0 0,iV 0,iV 0] 44)):=(hg7.block _ (by have:=HBr0.o.size;have:=HB1.o.size;omega) (fun e=>by have:=Option.some.inj e;omega)).trans HZr0.o
    have HBr:Hid (Below w.heap.size w (wr.setCell ⟨s,7,none⟩ (iV 2))):=HBr0.o.grown hg7 HBr0.o.size (fun k e=>by have:=Option.some.inj e;have:=HM1.o.mn.los;omega)
    have HAR:Hid (AR (wr.setCell ⟨s,7,none⟩ (iV 2)) sa an1∧(∀b o,sa=some ⟨b,o,none⟩→b≠w.heap.size)∧∀A∈an1,NB w.heap.size A):=⟨HAR0.o.1.at hg7 (fun b o e hb=>by subst hb;exact HM.o.mn.apart.h1.2.2.2.2.2 (by rw[Hav.o,e];rfl)) (fun A hA=>(HM.o.mn.all A hA).2.nb (.inl rfl)),HAR0.o.2⟩
    obtain ⟨_,⟨x6,x7,x8,_⟩,_⟩:=hM7.blk.get;have x6':(wr.setCell ⟨s,7,none⟩ (iV 2)).cell? ⟨s,6,none⟩=some (iV (F.st:Int)):=by rw[x6];show some (iV r1.st)=_;rw[Hst.o]
    have x7':=x7;have x8':(wr.setCell ⟨s,7,none⟩ (iV 2)).cell? ⟨s,8,none⟩=some (.slice sa an1.length ca):=by rw[x8];show some r1.av=_;rw[Hav.o]
    clear hfin hc x6 x7 x8 hM7 hg7;go_wp2_with fail;generalize wr.setCell ⟨s,7,none⟩ (iV 2)=wf at*;clear y6 y7 y8 yf7;obtain ⟨z0,z1,z2,zf0,zf1,zf2⟩:=block_cells HZr.o;go_wp2_with fail
    go_region
    all_goals
     obtain ⟨W',hW',g0,g1,g2,hB',hG'⟩:=fin3s (r:=w.heap.size) (Nat.le_refl _) HZr.o HBr.o (.slice sa an1.length ca) (iV 2) (iV (F.st:Int));have HB2:=hid hB'.drew;have HAr2:Hid (AR W'.drew sa an1):=(HAR.o.1.at hG' HAR.o.2.1 HAR.o.2.2).below ((Below.refl _ _).drew);go_wp2_with fail;rw[hW'];refine bodyPost_ret (v:=.tuple #[rsV sa an1.length ca 2 (F.st:Int),iV 0]) ?_ rfl ⟨HB2.o,.inr ⟨HE.o,sa,ca,an1,2,(F.st:Int),rfl,HAr2.o,hle,Hl40.o,HSo.o.1,Int.natCast_nonneg _,HSo.o.2⟩⟩;simp[results,Tryz.results17,go_sem,g0,g1,g2,rsV]
   ·have hfb:=beq_eq_false_iff_ne.2 hfin
    have HSo:Hid (0<F.m.fin∧(solP P Q ((L:Int)).toNat).ans=an1.map ansC∧(solP P Q ((L:Int)).toNat).fin=F.m.fin.toNat∧(solP P Q ((L:Int)).toNat).st=((F.st:Int)).toNat):=by
     obtain ⟨q1,q2,q3,_⟩:=Hsol.o;unfold endM at q1 q2 q3;rw[if_neg hfin]at q1 q2 q3;rw[Hid,Int.toNat_natCast,Int.toNat_natCast,←q2,←q3,HA.o];exact ⟨by omega,rfl,by omega,rfl⟩
    have HZr:=hid HZr0.o;have HBr:=hid HBr0.o;have HAR:=hid HAR0.o;clear hfin hc;obtain ⟨z0,z1,z2,zf0,zf1,zf2⟩:=block_cells HZr.o;go_wp2_with fail
    go_region
    all_goals
     obtain ⟨W',hW',g0,g1,g2,hB',hG'⟩:=fin3s (r:=w.heap.size) (Nat.le_refl _) HZr.o HBr.o (.slice sa an1.length ca) (iV F.m.fin) (iV (F.st:Int));have HB2:=hid hB'.drew;have HAr2:Hid (AR W'.drew sa an1):=(HAR.o.1.at hG' HAR.o.2.1 HAR.o.2.2).below ((Below.refl _ _).drew);go_wp2_with fail;rw[hW'];refine bodyPost_ret (v:=.tuple #[rsV sa an1.length ca F.m.fin (F.st:Int),iV 0]) ?_ rfl ⟨HB2.o,.inr ⟨HE.o,sa,ca,an1,F.m.fin,(F.st:Int),rfl,HAr2.o,hle,Hl40.o,HSo.o.1,Int.natCast_nonneg _,HSo.o.2⟩⟩;simp[results,Tryz.results17,go_sem,g0,g1,g2,rsV]
  have hfb:=beq_iff_eq.2 hc.1;have hstL:(F.st:Int)<(L:Int):=by have:=hc.2;omega
  have HF:Hid (runM P (List.range n) L (L+1) F1=runM P (List.range n) L f (stepM P (List.range n) F)):=by rw[Hid,HE1.o,runM,if_pos hc]
  have hwk:=HR.o.walk
  have HSp:Hid (Calls Tryz.prog 42 #[.pointer (some ⟨s,0,none⟩)] wr (StR wz.heap.size wr s r1 (List.range n) (stepM P (List.range n) F))):=by
   have h:=mstep_any (st0:=F.st) wr HM.o (by have:=HB1.o.size;omega) (by rw[HPq.o];exact hwk.1) (by rw[HPq.o];exact HC.o) HPr1.o hwk.2.1 hwk.2.2.1 hwk.2.2.2.1 (by simp;omega) (by have:=Hl40.o;omega) Hst.o (by omega)
   rw[HPq.o,HA.o]at h;exact h
  have HRs:Hid (RnI P n (List.range n) (stepM P (List.range n) F)):=HR.o.step HC.o (fun _ _=>by omega)
  have hst9:(stepM P (List.range n) F).st≤F.st+1∧(F.m.first≠0→(stepM P (List.range n) F).st=F.st+1):=by
   unfold stepM
   by_cases hx:F.m.fin=0∧F.m.first≠0
   ·rw[if_pos hx,settle_st];exact ⟨Nat.le_refl _,fun _=>rfl⟩
   ·rw[if_neg hx,settle_st];exact ⟨Nat.le_succ _,fun h=>absurd ⟨hc.1,h⟩ hx⟩
  have Hst9:=hid hst9;have hcl:=hc.2;clear hwk hst9 hc;go_wp2_with fail;refine HSp.o.mono ?_;rintro e w5 ⟨rfl,r5,an5,hM5,hA5,hs5,hq5,hP5,ho5,hB5⟩;have HM5:=hid hM5;have HA5:=hid hA5;have Hs5:=hid hs5;have HP5:=hid (hP5.trans HPq.o);have Ho5:Hid (∀k,k<w2.heap.size→MnR s r5 k→MnR s r k):=fun k hk hm=>Hown.o k hk (ho5 k (by omega) hm)
  have HB5:Hid (Bw (MnR s r) w2.heap.size w2 w5):=HB.o.trans ((hB5.mono hws).wide fun k hk hm=>Hown.o k hk hm)
  have HPr5:Hid (PrgM w5 s r5):=by
   have h:=HPr1.o.nextA (r':= { r5 with st:=r1.st}) hB5 ⟨hq5,rfl,hP5,ho5⟩
   exact ⟨h.pin,h.cap,h.few,h.blk,h.hd,h.bd⟩
  clear hM5 hA5 hs5 hq5 hP5 ho5 hB5 HSp y6 y7 y8 yf7;go_wp2_with fail
  go_roundg f
  case measure=>omega
  case rel=>
   refine ⟨r5,stepM P (List.range n) F,an5,HM5.o,HA5.o,Hs5.o,HP5.o,Ho5.o,HB5.o,HPr5.o,HRs.o,HF.o,?_,?_,step_first HR.o.few⟩
   ·have:=Hst9.o.2 (Hne.o (beq_iff_eq.1 hfb));omega
   ·have:=Hst9.o.1;omega
end
end Go.Proofs.YtmggaclaoefdaabGreat

namespace Go.Proofs.YtmggaclaoefdaabGreat
open Go.RowKit Go.Shelf
set_option linter.unusedVariables false
set_option linter.unusedSimpArgs false
attribute [local go_sem] Oper.semAt_some
def mC (r:Rn):Array Value:= #[r.hv,r.gv,iV r.first,r.cv,r.tv,r.qv,iV r.st,iV r.fin,r.av]
def mV (r:Rn):Value:=.agg (mC r)
structure MC (lo:Nat) (w:World) (r:Rn) (F:FM) (qs:List Nat) (an:List Tm):Prop where
 hp:CRw lo w r.hv F.m.h
 go:w.ownsRow lo 76 3 r.gv F.m.gs.length (flatG F.m.gs)
 ch:w.ownsRow lo 78 5 r.cv F.m.cs.length (flatK F.m.cs)
 tl:w.ownsRow lo 3 1 r.tv F.m.tr.length (natL F.m.tr)
 qu:w.ownsRow lo 3 1 r.qv qs.length (natL qs)
 anr:w.ownsRow lo 87 1 r.av an.length (an.map slA)
 all: ∀A∈an,TIn w A
 ans:an.map ansC=F.an
 first:r.first=(F.m.first:Int)
 fin:r.fin=F.m.fin
 st:r.st=(F.st:Int)
theorem MX.mc {lo:Nat} {w:World} {s:Nat} {r:Rn} {F:FM} {qs:List Nat} {an:List Tm} (M:MX lo w s r F.m qs an) (ha:an.map ansC=F.an) (hs:r.st=(F.st:Int)):MC lo w r F qs an:=
 ⟨M.mn.hp,M.mn.go,M.mn.ch,M.mn.tl,M.mn.qu,M.mn.anr,fun A hA=>(M.mn.all A hA).1,ha,M.first,M.fin,hs⟩
theorem MC.grown {lo:Nat} {w w':World} {r:Rn} {F:FM} {qs:List Nat} {an:List Tm} (M:MC lo w r F qs an) {k:Nat} {c:Array Value} {t:TypeId} (hk:w.heap[k]?=some (.cells c t)) (hg:w.grownBy w' (some k)) (ht:t≠81∧t≠76∧t≠78∧t≠3∧t≠87) (hn: ∀A∈an,NB k A):MC lo w' r F qs an:=by
 have hb: ∀{n z:Nat} {tt:TypeId} {v:Value} {xs:List Value},w.ownsRow lo tt z v n xs→t≠tt→w'.ownsRow lo tt z v n xs:=fun hr hne=>owns_block hr fun g e=>hg.block g (hr.lt g e).2 (fun e'=>by
  have:=Option.some.inj e';subst this;obtain ⟨c',hc'⟩:=row_blk hr e;rw[hk]at hc';cases hc';exact hne rfl)
 exact ⟨hb M.hp ht.1,hb M.go ht.2.1,hb M.ch ht.2.2.1,hb M.tl ht.2.2.2.1,hb M.qu ht.2.2.2.1,hb M.anr ht.2.2.2.2,fun A hA=>(M.all A hA).grown hg (fun q hq=>by obtain rfl:=Option.some.inj hq;exact hn A hA),M.ans,M.first,M.fin,M.st⟩
theorem MC.below {lo:Nat} {w w':World} {r:Rn} {F:FM} {qs:List Nat} {an:List Tm} (M:MC lo w r F qs an) (hB:Below w.heap.size w w'):MC lo w' r F qs an:=by
 have hb: ∀{n z:Nat} {tt:TypeId} {v:Value} {xs:List Value},w.ownsRow lo tt z v n xs→w'.ownsRow lo tt z v n xs:=fun hr=>owns_block hr fun g e=>hB.block g (hr.lt g e).2
 exact ⟨hb M.hp,hb M.go,hb M.ch,hb M.tl,hb M.qu,hb M.anr,fun A hA=>(M.all A hA).below hB,M.ans,M.first,M.fin,M.st⟩
theorem nb_ty {w:World} {k:Nat} {c:Array Value} {t:TypeId} (h:w.heap[k]?=some (.cells c t)) (h1: ∀o:Nat,¬((∃x,c[o]?=some (iV x))∧(∃y,c[o+1]?=some (.string y)))) {T:Tm} (hT:TIn w T):NB k T:=by
 induction T with
 |nil=>trivial
 |mk v nm a len cap f ih=>
  refine ⟨fun h0=>?_,fun i hi=>ih i (hT.2.2 i hi).2⟩
  obtain ⟨b,o,e,c0,c1,_⟩:=(hT.2.2 0 h0).1;refine ⟨b,o,e,fun hb=>?_⟩
  subst hb;rw[cell_of_row _ _ _ _ _ _ h]at c0 c1;exact h1 (o+0*3) ⟨⟨_,c0⟩,⟨_,c1⟩⟩
theorem noStr (r:Rn) (hr: ∀v∈ [r.hv,r.gv,r.cv,r.tv,r.qv,r.av],∃a n c,v=.slice a n c): ∀o:Nat,¬((∃x,(mC r)[o]?=some (iV x))∧(∃y,(mC r)[o+1]?=some (.string y))):=by
 intro o ⟨_,y,hy⟩
 have hs: ∀v∈ [r.hv,r.gv,r.cv,r.tv,r.qv,r.av],v≠.string y:=fun v hv e=>by
  obtain ⟨a,n,c,e'⟩:=hr v hv;rw[e']at e;cases e
 unfold mC at hy
 rcases o with _|_|_|_|_|_|_|_|o
 ·simp at hy;exact hs _ (by simp) hy
 ·simp at hy
 ·simp at hy;exact hs _ (by simp) hy
 ·simp at hy;exact hs _ (by simp) hy
 ·simp at hy;exact hs _ (by simp) hy
 ·simp at hy
 ·simp at hy
 ·simp at hy;exact hs _ (by simp) hy
 ·simp at hy
def set9 (W:World) (k:Nat) (r:Rn):World:=((((((((W.setCell ⟨k,0,none⟩ r.hv).setCell ⟨k,1,none⟩ r.gv).setCell ⟨k,2,none⟩ (iV r.first)).setCell ⟨k,3,none⟩ r.cv).setCell ⟨k,4,none⟩ r.tv).setCell ⟨k,5,none⟩ r.qv).setCell ⟨k,6,none⟩ (iV r.st)).setCell ⟨k,7,none⟩ (iV r.fin)).setCell ⟨k,8,none⟩ r.av
theorem set9_blk {W:World} {k:Nat} {r0 r:Rn} {t:TypeId} (h:W.heap[k]?=some (.cells (mC r0) t)):(set9 W k r).heap[k]?=some (.cells (mC r) t)∧W.grownBy (set9 W k r) (some k):=by
 refine ⟨?_,?_⟩
 ·unfold set9
  simp only[World.setCell,Array.getElem?_modify];simp[h,mC]
 ·exact G.trans (G.trans (G.trans (G.trans (G.trans (G.trans (G.trans (G.trans (grown_set k 0 _) (grown_set k 1 _)) (grown_set k 2 _)) (grown_set k 3 _)) (grown_set k 4 _)) (grown_set k 5 _)) (grown_set k 6 _)) (grown_set k 7 _)) (grown_set k 8 _)
theorem mC_cells {W:World} {k:Nat} {r:Rn} {t:TypeId} (h:W.heap[k]?=some (.cells (mC r) t)):(W.cell? ⟨k,0,none⟩=some r.hv∧W.cell? ⟨k,1,none⟩=some r.gv∧W.cell? ⟨k,2,none⟩=some (iV r.first)∧W.cell? ⟨k,3,none⟩=some r.cv∧W.cell? ⟨k,4,none⟩=some r.tv)∧(W.cell? ⟨k,5,none⟩=some r.qv∧W.cell? ⟨k,6,none⟩=some (iV r.st)∧W.cell? ⟨k,7,none⟩=some (iV r.fin)∧W.cell? ⟨k,8,none⟩=some r.av)∧∀i,W.frozen? ⟨k,i,none⟩=false:=by
 refine ⟨⟨?_,?_,?_,?_,?_⟩,⟨?_,?_,?_,?_⟩,fun i=>?_⟩ <;> simp[World.cell?,World.frozen?,h,mC]
def rnZ:Rn:=⟨.slice none 0 0,.slice none 0 0,0,.slice none 0 0,.slice none 0 0,.slice none 0 0,0,0,.slice none 0 0,⟨none,0,0,fun _=> .nil,fun _=> .nil⟩,0⟩
def SttR (P:Pg) (Q:Tm) (w:World) (e:Ending) (w':World):Prop:=Below w.heap.size w w'∧((startE P Q≠0∧e=.returned (.tuple #[mV rnZ,iV (startE P Q)]))∨(startE P Q=0∧∃(n:Nat) (r:Rn),varsV Q=(n:Int)∧n≤12∧e=.returned (.tuple #[mV r,iV 0])∧MC w.heap.size w' r ⟨startX Q n,[],0⟩ (List.range n) []))
set_option maxRecDepth 100000 in
set_option maxHeartbeats 8000000 in
theorem mStart_any (P:Pg) (Q:Tm) (w:World) (hP:PIn w P) (hc:P.len≤P.cap) (hQ:TIn w Q):
 Calls Tryz.prog 8 #[.slice P.a P.len P.cap,.slice Q.a Q.len Q.cap] w (SttR P Q w):=by
 have HZ:Hid ((w.alloc (.cells (mC rnZ) 31)).heap[w.heap.size]?=some (.cells (mC rnZ) 31)):=heap_alloc_new w _;have HBz:Hid (Below w.heap.size w (w.alloc (.cells (mC rnZ) 31))):=(Below.refl _ _).alloc (Nat.le_refl _) _;have HSt:=hid (mstart_any P Q _ (hP.below HBz.o) hc (hQ.below HBz.o));clear hP hQ
 go_enter Tryz.func8,Tryz.ntmps8
 go_wp2_with fail;rw[show w.alloc (.cells #[.slice none 0 0,.slice none 0 0,iV 0,.slice none 0 0,.slice none 0 0,.slice none 0 0,iV 0,iV 0,.slice none 0 0] 31)=w.alloc (.cells (mC rnZ) 31)from rfl]
 generalize w.alloc (.cells (mC rnZ) 31)=wz at*;have hzz:w.heap.size<wz.heap.size:=(Array.getElem?_eq_some_iff.1 HZ.o).1;refine HSt.o.mono ?_;rintro e w1 ⟨hb1,⟨hE,rfl⟩| ⟨hE,n,s,r,hvn,hn12,rfl,hM1,hrP,hrst,hPr⟩⟩
 ·have HBw1:=hid (HBz.o.trans (hb1.mono HBz.o.size))
  have HZ1:=hid ((hb1.block _ hzz).trans HZ.o);have heb:=bne_iff_ne.2 hE;have HE:=hid hE;obtain ⟨⟨z0,z1,z2,z3,z4⟩,⟨z5,z6,z7,z8⟩,zf⟩:=mC_cells HZ1.o;have zf0:=zf 0;have zf1:=zf 1;have zf2:=zf 2;have zf3:=zf 3;have zf4:=zf 4;have zf5:=zf 5;have zf6:=zf 6;have zf7:=zf 7;have zf8:=zf 8;clear hE hb1 HSt zf;go_wp2_with fail;obtain ⟨hW1,hW2⟩:=set9_blk (r:=rnZ) HZ1.o;obtain ⟨⟨g0,g1,g2,g3,g4⟩,⟨g5,g6,g7,g8⟩,_⟩:=mC_cells hW1;have hB':Below w.heap.size w (set9 w1 w.heap.size rnZ):=HBw1.o.grown hW2 HBw1.o.size (fun k e=>by have:=Option.some.inj e;omega)
  show bodyPost _ _ _ _ _ (set9 w1 w.heap.size rnZ)
  generalize set9 w1 w.heap.size rnZ=W' at*;refine bodyPost_ret (v:=.tuple #[mV rnZ,iV (startE P Q)]) ?_ rfl ⟨hB',.inl ⟨HE.o,rfl⟩⟩;simp[results,Tryz.results8,go_sem,g0,g1,g2,g3,g4,g5,g6,g7,g8,mV,mC]
 have HBw1:=hid (HBz.o.trans (hb1.mono HBz.o.size));have HZ1:=hid ((hb1.block _ hzz).trans HZ.o);have HE:=hid hE;have HMc:Hid (MC wz.heap.size w1 r ⟨startX Q n,[],0⟩ (List.range n) []):=MX.mc (F:=⟨startX Q n,[],0⟩) hM1 rfl (by rw[hrst];rfl)
 have Hvn:=hid hvn;obtain ⟨⟨z0,z1,z2,z3,z4⟩,⟨z5,z6,z7,z8⟩,zf⟩:=mC_cells HZ1.o;have zf0:=zf 0;have zf1:=zf 1;have zf2:=zf 2;have zf3:=zf 3;have zf4:=zf 4;have zf5:=zf 5;have zf6:=zf 6;have zf7:=zf 7;have zf8:=zf 8;obtain ⟨⟨x0,x1,x2,x3,x4,x5⟩,⟨x6,x7,x8,_⟩,_⟩:=hM1.mn.blk.get;obtain ⟨a0,l0,c0,e0⟩: ∃a l c,r.hv=.slice a l c:=by obtain ⟨a,c,e,_⟩:=row_nil hM1.mn.hp;exact ⟨a,_,c,e⟩
 obtain ⟨a1,l1,c1,e1⟩: ∃a l c,r.gv=.slice a l c:=by obtain ⟨a,c,e,_⟩:=row_nil hM1.mn.go;exact ⟨a,_,c,e⟩
 obtain ⟨a3,l3,c3,e3⟩: ∃a l c,r.cv=.slice a l c:=by obtain ⟨a,c,e,_⟩:=row_nil hM1.mn.ch;exact ⟨a,_,c,e⟩
 obtain ⟨a4,l4,c4,e4⟩: ∃a l c,r.tv=.slice a l c:=by obtain ⟨a,c,e,_⟩:=row_nil hM1.mn.tl;exact ⟨a,_,c,e⟩
 obtain ⟨a5,l5,c5,e5⟩: ∃a l c,r.qv=.slice a l c:=by obtain ⟨a,c,e,_⟩:=row_nil hM1.mn.qu;exact ⟨a,_,c,e⟩
 obtain ⟨a8,l8,c8,e8⟩: ∃a l c,r.av=.slice a l c:=by obtain ⟨a,c,e,_⟩:=row_nil hM1.mn.anr;exact ⟨a,_,c,e⟩
 rw[e0]at x0;rw[e1]at x1;rw[e3]at x3;rw[e4]at x4;rw[e5]at x5;rw[e8]at x8;have HEs:Hid (r.hv=.slice a0 l0 c0∧r.gv=.slice a1 l1 c1∧r.cv=.slice a3 l3 c3∧r.tv=.slice a4 l4 c4∧r.qv=.slice a5 l5 c5∧r.av=.slice a8 l8 c8):=⟨e0,e1,e3,e4,e5,e8⟩;clear hE hb1 HSt zf hM1 hrP hrst hPr hvn e0 e1 e3 e4 e5 e8;go_wp2_with fail;obtain ⟨e0,e1,e3,e4,e5,e8⟩:=HEs.o;rw[←e0,←e1,←e3,←e4,←e5,←e8];obtain ⟨hW1,hW2⟩:=set9_blk (r:=r) HZ1.o;obtain ⟨⟨g0,g1,g2,g3,g4⟩,⟨g5,g6,g7,g8⟩,_⟩:=mC_cells hW1;have hB':Below w.heap.size w (set9 w1 w.heap.size r):=HBw1.o.grown hW2 HBw1.o.size (fun k e=>by have:=Option.some.inj e;omega)
 have hMC:MC wz.heap.size (set9 w1 w.heap.size r) r ⟨startX Q n,[],0⟩ (List.range n) []:=HMc.o.grown HZ1.o hW2 (by decide) (fun A hA=>by cases hA)
 show bodyPost _ _ _ _ _ (set9 w1 w.heap.size r)
 generalize set9 w1 w.heap.size r=W' at*;refine bodyPost_ret (v:=.tuple #[mV r,iV 0]) ?_ rfl ⟨hB',.inr ⟨HE.o,n,r,Hvn.o,hn12,rfl,?_⟩⟩
 ·simp[results,Tryz.results8,go_sem,g0,g1,g2,g3,g4,g5,g6,g7,g8,mV,mC,e0,e1,e3,e4,e5,e8]
 ·exact ⟨ownsRow_mono hMC.hp (by omega),ownsRow_mono hMC.go (by omega),ownsRow_mono hMC.ch (by omega),ownsRow_mono hMC.tl (by omega),ownsRow_mono hMC.qu (by omega),ownsRow_mono hMC.anr (by omega),hMC.all,hMC.ans,hMC.first,hMC.fin,hMC.st⟩
end Go.Proofs.YtmggaclaoefdaabGreat
