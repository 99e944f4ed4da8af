/- Part of the proof. -/
import Derived.Test.YtmggaclaoefdaabGreatGAN
namespace Go.Proofs.YtmggaclaoefdaabGreat
open Go.RowKit Go.Proofs.Tryz
set_option linter.unusedVariables false
set_option linter.unusedSimpArgs false
set_option maxRecDepth 100000
set_option maxHeartbeats 8000000
theorem i6.bw {M:Nat->Prop} {lo:Nat} {w w':World} {v:Value} {ts us:List Tm} (h:i6 lo w v ts us) (hb:Bw M w.heap.size w w') (hM: ∀k,M k->k<lo):i6 lo w' v ts us:=by
 refine ⟨⟨h.own.1,?_⟩,fun T hT=>⟨(h.all T hT).1.bw hb lZ ((h.all T hT).2.1.nm hM),(h.all T hT).2⟩,h.len,h.sim⟩
 rcases h.own.2 with hn| ⟨g,cap,cur,rfl,hb',hg,rest⟩
 .exact .inl hn
 .exact .inr ⟨g,cap,cur,rfl,hb',(hb.block g (aZ hg) (fun e=>by have:=hM g e;omega)).trans hg,rest⟩
def Jj (T:Tm) (j:Nat):List Int:=((List.range j).map fun i=>cz (T.f i)).flatten
theorem t6 (T:Tm) (j:Nat):Jj T (j+1)=Jj T j++cz (T.f j):=by
 unfold Jj;rw[List.range_succ,List.map_append,List.flatten_append];simp
theorem zk {T:Tm} (h:T.v=0):cz T=Jj T T.len:=by
 cases T with
 |nil=>rfl
 |mk v nm a len cap f=>
  have h:v=0:=h;rw[cz,if_pos h];rfl
theorem yr {t:sd} (ht:qq t) {g:Nat} {caps:Array Value} {T:Tm} (hv:T.v=0) (h4:T.len<=4) (hk: ∀i,i<T.len->EG t g caps (T.f i)):EG t g caps T:=by
 intro s w hB0 hI hT hM;have HO:=hid ht
 have HC:Hid (∀i,i<T.len->∀(s:t.S) (W:World),Bw t.M w.heap.size w W->t.I s W->Calls prog 151 #[.agg #[iV (T.f i).v,.string (T.f i).nm,.slice (T.f i).a (T.f i).len (T.f i).cap],.func (.func g) #[] caps] W (XP t W (tl t s (cz (T.f i))) (fun s'=>ap (t.O s') (T.f i)))):=fun i hi s W hW hIW=>
  hk i hi s W (lT hB0 hW.size) hIW ((hT.kid hi).bw hW lZ (hM.kid hi)) (hM.kid hi)
 have HKid:Hid (∀i,i<T.len->∀W,Bw t.M w.heap.size w W->fe W T.a i (T.f i)):=fun i hi W hW=>by
  obtain ⟨b,o,e,c0,c1,c2⟩:=hT.row hi;obtain ⟨b',o',e',hb'⟩:=hM.root (by omega)
  rw[e]at e';cases e';have hl:=ag c0;have hx:=hW.block b hl hb';exact ⟨b,o,e,(cB hx).trans c0,(cB hx).trans c1,(cB hx).trans c2⟩
 have HV:=hid (zk hv);have HAp:Hid (∀s',ap (t.O s') T=.mk 0 T.nm none T.len 0 (fun i=>if i<T.len then ap (t.O s') (T.f i)else .nil)):=fun s'=>kv _ hv
 have HI0:Hid (∀W,Below t.B w W->t.I s W):=fun W hW=>ht.keep _ _ _ hI hW
 have hlen:=hT.len;have hnm:=hT.name;have hvb:(T.v !=0)=false:=by rw[hv];rfl
 obtain ⟨i0,hi,hz0,hz1,hz2⟩:=info_parts Tryz.info67;clear hk hT hM hI hv;generalize hua:T.a=ua at*
 show Calls prog 151 #[.agg #[iV T.v,.string T.nm,.slice T.a T.len T.cap],.func (.func g) #[] caps] w _
 rw[hua]
 go_enter Tryz.func151,Tryz.ntmps151
 go_wp2_with fail;obtain ⟨a1,a2,aB⟩:=Rk w (.cells #[iV T.v,.string T.nm,.slice ua T.len T.cap] 67) (.cells #[iV 0,.string ⟨#[]⟩,nZ] 67) (.cells #[iV 0,.string T.nm,nZ] 67)
 go_loopw [21] (fun i wr=>∃(j:Nat) (ts:List Tm) (v:Value),j<=T.len/\i=iV j/\i6 (w.heap.size+3) wr v ts ts/\ts.length=j/\wr.heap[w.heap.size+2]?=some (.cells #[iV 0,.string T.nm,v] 67)/\wr.heap[w.heap.size+1]?=some (.cells #[iV 0,.string ⟨#[]⟩,nZ] 67)/\w.heap.size+3<=wr.heap.size/\Bw t.M w.heap.size w wr/\t.I (tl t s (Jj T j)) wr/\(∀i,i<j->∀s'',t.le (tl t s (Jj T j)) s''->a9 (ts.getD i .nil)=ap (t.O s'') (T.f i))) (fun i _=>T.len-(intOf i).toNat)
 case atStart=>exact ⟨0,[],_,oZ,rfl,⟨World.ownsRow_nil _ _ _ _,fun c hc=>absurd hc (by simp),rfl,fun i hi=>absurd hi (nL i)⟩,rfl,a2,a1,by simp,Bw.ofBelow aB,HI0.o _ (aB.mono hB0),fun i hi=>absurd hi (nL i)⟩
 case round=>
  clear a1 a2 aB;obtain ⟨j,ts,v,hj,rfl,hL,hTL,hC2,hZ1,hsz,hB,hIj,hVal⟩:=hrel;have HL:=hid hL;have HC2:=hid hC2;have HZ1:=hid hZ1;have HB:=hid hB;have HIj:=hid hIj;have HVal:=hid hVal;have HTL:=hid hTL;have hts4:ts.length<=4:=by omega
  have HML:Hid (∀k,t.M k->k<w.heap.size):=fun k hk=>lL (HO.o.lt k hk) hB0
  clear hL hC2 hZ1 hB hTL hIj hVal
  by_cases hlt:j<T.len
  case neg=>
   have hje:j=T.len:=by omega
   obtain ⟨Q,hvQ,hQ,hQA,hQS⟩:=HL.o.terms;have hQl:Q.len=T.len:=by rw[hQS.1,HTL.o,hje]
   have HQ:Hid (ay wr Q/\bl (w.heap.size+3) Q/\Q.len=T.len/\∀i,i<T.len->a9 (Q.f i)=a9 (ts.getD i .nil)):=⟨hQ,hQA,hQl,fun i hi=>sq (hQS.2 i (by omega))⟩
   have HIe:Hid (t.I (tl t s (cz T)) wr):=by rw[Hid,HV.o,<-hje];exact HIj.o
   have HVe:Hid (∀i,i<T.len->∀s'',t.le (tl t s (cz T)) s''->a9 (ts.getD i .nil)=ap (t.O s'') (T.f i)):=fun i hi s'' h=>HVal.o i (by omega) s'' (by rw[hje,<-HV.o];exact h)
   subst hvQ;clear hQ hQA hQS hje hQl;obtain ⟨c0,c1,c2,_,_,_⟩:=ae HC2.o;obtain ⟨y0,y1,y2,f0,f1,f2⟩:=ae HZ1.o;go_wp2_with fail;obtain ⟨W',hW',z0,z1,z2,hB',hgr⟩:=tm (r:=w.heap.size+1) (by omega) HZ1.o HB.o (iV 0) (.string T.nm) (.slice Q.a Q.len Q.cap)
   rw[hW'];have hT':ay W' Q:=HQ.o.1.grown hgr (fun k hk=>by obtain rfl:=oj hk;exact HQ.o.2.1.nb (by omega))
   have hBB:Below t.B wr W':=bR.grown hgr (by omega) (fun k hk=>by have:=oj hk;omega)
   refine bodyPost_ret (v:=Tm.val (.mk 0 T.nm Q.a Q.len Q.cap Q.f)) ?_ rfl ⟨.mk 0 T.nm Q.a Q.len Q.cap Q.f,rfl,hB',HO.o.keep _ _ _ HIe.o hBB,hT'.retop hnm,(HQ.o.2.1.mono (by omega)).retop,fun s'' h=>?_⟩
   .simp[results,Tryz.results151,go_sem,z0,z1,z2,Tm.val,Tm.v,Tm.nm,Tm.a,Tm.len,Tm.cap]
   .show a9 (Tm.mk 0 T.nm Q.a Q.len Q.cap Q.f)=ap (t.O s'') T
    rw[HAp.o]
    show Tm.mk 0 T.nm none Q.len 0 (fun i=>if i<Q.len then a9 (Q.f i)else .nil)=_
    rw[HQ.o.2.2.1]
    congr 1
    funext i
    by_cases hi:i<T.len
    .rw[if_pos hi,if_pos hi,HQ.o.2.2.2 i hi];exact HVe.o i hi s'' h
    .rw[if_neg hi,if_neg hi]
  have hr:=HKid.o j hlt wr HB.o;obtain ⟨bb,o,ha,c0,c1,c2⟩:=hr;subst ha;have HBe:Hid (Below wr.heap.size wr (wr.alloc (.cells #[iV (T.f j).v,.string (T.f j).nm,.slice (T.f j).a (T.f j).len (T.f j).cap] 67))):=bA;have HBa:=hid (HB.o.trans (Bw.ofBelow (HBe.o.mono HB.o.size)));have HAa:Hid ((wr.alloc (.cells #[iV (T.f j).v,.string (T.f j).nm,.slice (T.f j).a (T.f j).len (T.f j).cap] 67)).heap[wr.heap.size]?=some (.cells #[iV (T.f j).v,.string (T.f j).nm,.slice (T.f j).a (T.f j).len (T.f j).cap] 67)):=hZ wr _;have HIa:=hid (HO.o.keep _ _ _ HIj.o (HBe.o.mono (by omega)))
  go_wp2_with fail;generalize wr.alloc (.cells #[iV (T.f j).v,.string (T.f j).nm,.slice (T.f j).a (T.f j).len (T.f j).cap] 67)=wa at*;obtain ⟨d0,d1,d2,k0,k1,k2⟩:=ae ((HBe.o.block _ (by omega)).trans HC2.o)
  obtain ⟨e0,e1,e2,_,_,_⟩:=ae HAa.o;have hwa:wr.heap.size<wa.heap.size:=ag e0;have tok1:True:=trivial
  go_region_law (first
   | (have _t:=tok1
      go_simp
      go_at_call 151
      refine (HC.o j hlt _ _ (by first|exact HBa.o|exact HBa.o.drew|exact HBa.o.drew.drew|exact HBa.o.drew.drew.drew) (by first|exact HIa.o|exact HO.o.keep _ _ _ HIa.o bR.drew|exact HO.o.keep _ _ _ HIa.o bR.drew.drew|exact HO.o.keep _ _ _ HIa.o bR.drew.drew.drew)).mono ?_
      rintro e w5 ⟨X,rfl,hb5,hI5,hX5,hA5,hS5⟩;have HB5:Hid (Bw t.M wa.heap.size wa w5):=Bw.trans (Bw.ofBelow (by repeat (first|exact bR|refine Below.drew ?_))) (hb5.mono lZ)
      have HX5:Hid (ay w5 X/\bl wa.heap.size X/\t.I (tl t s (Jj T (j+1))) w5/\∀s'',t.le (tl t s (Jj T (j+1))) s''->a9 X=ap (t.O s'') (T.f j)):=⟨hX5,hA5,by rw[t6,qw];exact hI5,fun s'' h=>hS5 s'' (by rw[<-qw,<-t6];exact h)⟩
      have g2:w5.cell? (dZ (w.heap.size+2) 2)=some v:=(HB5.o.cell (p:=(dZ (w.heap.size+2) 2)) (by show w.heap.size+2<wa.heap.size;omega) (fun e=>by have h:w.heap.size+2<w.heap.size:=HML.o _ e;omega)).trans d2
      have gf2:w5.frozen? (dZ (w.heap.size+2) 2)=false:=(HB5.o.frozen (p:=(dZ (w.heap.size+2) 2)) (by show w.heap.size+2<wa.heap.size;omega) (fun e=>by have h:w.heap.size+2<w.heap.size:=HML.o _ e;omega)).trans k2
      have HL5:Hid (i6 (w.heap.size+3) (w5.alloc (.cells #[iV X.v,.string X.nm,.slice X.a X.len X.cap] 67)) v ts ts):=((HL.o.keep HBe.o).bw HB5.o (fun k hk=>by have:=HML.o k hk;omega)).keep bA
      rw[show X.val=.agg #[iV X.v,.string X.nm,.slice X.a X.len X.cap]from rfl]
      have g2b:(w5.alloc (.cells #[iV X.v,.string X.nm,.slice X.a X.len X.cap] 67)).cell? (dZ (w.heap.size+2) 2)=some v:=(((Below.refl _ w5).alloc lZ (.cells #[iV X.v,.string X.nm,.slice X.a X.len X.cap] 67)).cell (p:=(dZ (w.heap.size+2) 2)) (ag g2)).trans g2;clear hb5 hX5 hA5 hS5 hI5 tok1)
   | (refine dz rfl (.tmp 26) (.tmp 30) 24 rfl (w.heap.size+3) 67 i0 (.agg #[iV 0,.string ByteArray.empty,nZ]) 3 48 Tryz.underlying24 hi hz0 hz1 hz2 rfl (by decide) v ts.length (cy ts) (by simp[Act.eval]) HL5.o.own (dZ w5.heap.size 0) 1 1 (cy [X]) (by simp[Act.eval]) rfl (Fi w5 X) (mw _) (by unfold maxLen;omega) (by omega) (by have:=HB5.o.size;simp;omega) (by omega) ?_
      intro g cap' w6 hown6 hg6 hat6;have HO6:=hid hown6;have HG6:=hid hg6;have HA6:=hid hat6;have hne6:some (w.heap.size+2)≠v.ownBlock:=fun e=>by have:=(HL.o.own.lt _ e.symm).1;omega
      have q2:w6.cell? (dZ (w.heap.size+2) 2)=some v:=hg6.cell ((((Below.refl _ w5).alloc lZ (.cells #[iV X.v,.string X.nm,.slice X.a X.len X.cap] 67)).cell (p:=(dZ (w.heap.size+2) 2)) (ag g2)).trans g2) hne6;have qf2:w6.frozen? (dZ (w.heap.size+2) 2)=false:=(World.frozen?_of_block (hg6.block _ (by have:=ag g2;simp;have h:w.heap.size+2<w5.heap.size:=this;omega) hne6)).trans ((((Below.refl _ w5).alloc lZ (.cells #[iV X.v,.string X.nm,.slice X.a X.len X.cap] 67)).frozen (p:=(dZ (w.heap.size+2) 2)) (ag g2)).trans gf2)
      clear hown6 hg6 hat6))
  all_goals
   have hgs:=af (W:=w6) (w.heap.size+2) 2 (sZ g (ts.length+1) cap');have hwr5:=(Bw.ofBelow HBe.o).trans (HB5.o.mono (Nat.le_of_lt hwa));have hB6:Bw t.M w.heap.size w w6:=((HB.o.trans (hwr5.mono HB.o.size)).trans (Bw.ofBelow (bR.alloc (by have:=hwr5.size;omega) _))).grown HG6.o (by have:=hwr5.size;simp;omega) (fun q hq=>by have:=(HL.o.own.lt q hq).1;exact .inl (by omega))
   have HBF:Hid (Bw t.M w.heap.size w (w6.setCell (dZ (w.heap.size+2) 2) (sZ g (ts.length+1) cap'))):=hB6.grown hgs (by have:=hwr5.size;have:=HG6.o.size;simp at this;omega) (fun q hq=>by have:=oj hq;exact .inl (by omega))
   have HIF:Hid (t.I (tl t s (Jj T (j+1))) (w6.setCell (dZ (w.heap.size+2) 2) (sZ g (ts.length+1) cap'))):=HO.o.keep _ _ _ HX5.o.2.2.1 ((((Below.refl t.B w5).alloc (by have:=hwr5.size;omega) _).grown HG6.o (by have:=hwr5.size;simp;omega) (fun q hq=>by have:=(HL.o.own.lt q hq).1;omega)).grown hgs (by have:=hwr5.size;have:=HG6.o.size;simp at this;omega) (fun q hq=>by have:=oj hq;omega))
   have hL6:i6 (w.heap.size+3) w6 (sZ g (ts.length+1) cap') (ts++ [X]) (ts++ [X]):=HL5.o.more (HX5.o.1.below bA) (HX5.o.2.1.mono (by omega)) (fun q hq=>HX5.o.2.1.nb (by have:=(HL.o.own.lt q hq).2;omega)) (Ff.refl X) HO6.o HG6.o (by
    rcases HA6.o with e|e
    .exact .inl e
    .exact .inr (by rw[e];rfl))
   have HLF:Hid (i6 (w.heap.size+3) (w6.setCell (dZ (w.heap.size+2) 2) (sZ g (ts.length+1) cap')) (sZ g (ts.length+1) cap') (ts++ [X]) (ts++ [X])):=by
    refine ⟨hL6.own.kept hgs (.inr (fun e=>by have h1:=(hL6.own.lt g rfl).1;have h2:g=w.heap.size+2:=oj e;omega)),fun U hU=>?_,hL6.len,hL6.sim⟩
    obtain ⟨h1,h2,h3⟩:=hL6.all U hU;exact ⟨h1.grown hgs (fun q hq=>by obtain rfl:=oj hq;exact h2.nb (by omega)),h2,h3⟩
   have hne6:some (w.heap.size+2)≠v.ownBlock:=fun e=>by have:=(HL.o.own.lt _ e.symm).1;omega
   have hne7:some (w.heap.size+1)≠v.ownBlock:=fun e=>by have:=(HL.o.own.lt _ e.symm).1;omega
   have h56: ∀q,q<wr.heap.size->some q≠v.ownBlock->¬t.M q->w6.heap[q]?=wr.heap[q]?:=fun q hq hn hm=>(HG6.o.block q (by have:=hwr5.size;simp;omega) hn).trans ((jZ _ _ (by have:=hwr5.size;omega)).trans (hwr5.block q hq hm))
   have HCF:Hid ((w6.setCell (dZ (w.heap.size+2) 2) (sZ g (ts.length+1) cap')).heap[w.heap.size+2]?=some (.cells #[iV 0,.string T.nm,sZ g (ts.length+1) cap'] 67)):=Jt ((h56 _ (by omega) hne6 (fun e=>by have:=HML.o _ e;omega)).trans HC2.o)
   have HZF:Hid ((w6.setCell (dZ (w.heap.size+2) 2) (sZ g (ts.length+1) cap')).heap[w.heap.size+1]?=some (.cells #[iV 0,.string ⟨#[]⟩,nZ] 67)):=(hgs.block _ (by have:=hwr5.size;have:=HG6.o.size;simp at this;omega) (by simp)).trans ((h56 _ (by omega) hne7 (fun e=>by have:=HML.o _ e;omega)).trans HZ1.o)
   have hszF:w.heap.size+3<=(w6.setCell (dZ (w.heap.size+2) 2) (sZ g (ts.length+1) cap')).heap.size:=by have:=hwr5.size;have:=HG6.o.size;have:=hgs.size;simp at*;omega
   have HVF:Hid (∀i,i<j+1->∀s'',t.le (tl t s (Jj T (j+1))) s''->a9 ((ts++ [X]).getD i .nil)=ap (t.O s'') (T.f i)):=fun i hi s'' h=>by
    have hj':=HTL.o
    by_cases h2:i<j
    .have e:(ts++ [X]).getD i .nil=ts.getD i .nil:=by simp[List.getD,List.getElem?_append_left (show i<ts.length by omega)]
     rw[e];exact HVal.o i h2 s'' (HO.o.trans _ _ _ (by rw[t6,qw];exact R8 HO.o _ _) h)
    .obtain rfl:i=j:=by omega
     have e:(ts++ [X]).getD i .nil=X:=by rw[<-hj'];simp[List.getD]
     rw[e];exact HX5.o.2.2.2 s'' h
   have hlF:(ts++ [X]).length=j+1:=by rw[List.length_append,HTL.o];rfl
   clear hgs hwr5 hB6 hL6 hne6 hne7 h56;go_wp2_with fail;go_roundw
   case rel=>exact ⟨j+1,ts++ [X],_,by omega,by go_num,HLF.o,hlF,HCF.o,HZF.o,hszF,HBF.o,HIF.o,HVF.o⟩
   case measure=>simp[intOf];omega
def Fo:Tm->Prop
 | .nil=>True
 | .mk _ _ _ len _ f=>len<=4/\∀i,i<len->Fo (f i)
theorem d9.fo {N:Int} {T:Tm} (h:d9 N T):Fo T:=by
 induction T with
 |nil=>trivial
 |mk v nm a len cap f ih=>exact ⟨h.2.2.2.1,fun i hi=>ih i (h.2.2.2.2 i hi)⟩
theorem Ce {t:sd} (ht:qq t) {g:Nat} (hE:Rr g) {caps:Array Value} (T:Tm) (h4:Fo T) (hC: ∀v∈cz T,TC t g caps v):EG t g caps T:=by
 induction T with
 |nil=>exact yr ht rfl oZ (fun i hi=>absurd hi (nL i))
 |mk v nm a len cap f ih=>
  by_cases hv:v=0
  .refine yr ht hv h4.1 (fun i hi=>ih i (h4.2 i hi) (fun u hu=>hC u ?_))
   rw[zk (T:=.mk v nm a len cap f) hv];exact List.mem_flatten.2 ⟨_,List.mem_map.2 ⟨i,List.mem_range.2 hi,rfl⟩,hu⟩
  .exact I2 ht hE hv (hC v (by rw[cz,if_neg hv];simp))
theorem Rx {σ:Sg} {T:Tm} (hv:T.v≠0) (d:Nat):ex σ d T=ex σ d (vT T.v)/\(ph σ d T->ph σ d (vT T.v)):=by
 cases d with
 |zero=>exact ⟨rfl,fun h=>h⟩
 |succ d=>
  cases hs:σ T.v with
  |none=>
   have e1:wha σ T=T:=gh hs;have e2:=gh (T:=vT T.v) hs;refine ⟨?_,fun _ i hi=>?_⟩
   .rw[ex,ex,e1,e2,if_neg hv,if_neg (show¬(vT T.v).v=0 from hv)];rfl
   .rw[e2]at hi;exact absurd hi (nL i)
  |some U=>
   have e:wha σ T=wha σ (vT T.v):=by
    unfold wha
    show wh σ (T.v.toNat+1) T=wh σ (T.v.toNat+1) (vT T.v)
    rw[wh,wh,if_neg hv,if_neg (show¬(vT T.v).v=0 from hv),hs,show σ (vT T.v).v=some U from hs]
   refine ⟨by rw[ex,ex,e],fun hF i hi=>?_⟩
   rw[<-e]at hi |-;exact hF i hi
theorem J5 {T U:Tm} (h:a9 T=a9 U):cz T=cz U:=by rw[<-sm T,<-sm U,h]
theorem P6 {θ:Int->Tm} {T U:Tm} (h:a9 T=a9 U):ap θ T=ap θ U:=by rw[<-mj θ T,<-mj θ U,h]
theorem L8 {α β:Type} (f:α->List β) (l:List (List α)):((l.flatten).map f).flatten=(l.map fun x=>(x.map f).flatten).flatten:=by
 induction l with
 |nil=>rfl
 |cons x l ih=>simp only[List.flatten_cons,List.map_append,List.flatten_append,List.map_cons,ih]
theorem Cc {σ:Sg} {D:Nat} (θ:Int->Tm): ∀(d:Nat) (T:Tm),ph σ d T->(∀v∈cz T,ph σ D (vT v))->
 cz (ex σ d T)=((cz T).map fun v=>cz (ex σ D (vT v))).flatten/\ap (fun v=>ap θ (ex σ D (vT v))) T=ap θ (ex σ d T):=by
 intro d
 induction d with
 |zero=>intro T h;exact h.elim
 |succ d ih=>
  intro T hF hV
  by_cases hv:T.v=0
  .have e:wha σ T=T:=ld hv
   have hx:ex σ (d+1) T=.mk 0 T.nm none T.len 0 (fun i=>ex σ d (T.f i)):=by rw[ex,e,if_pos hv]
   have hk: ∀i,i<T.len->ph σ d (T.f i):=fun i hi=>by
    have:=hF i (by rw[e];exact hi)
    rwa [e]at this
   have hvk: ∀i,i<T.len->∀v∈cz (T.f i),ph σ D (vT v):=fun i hi v h=>hV v (by
    rw[zk hv];exact List.mem_flatten.2 ⟨_,List.mem_map.2 ⟨i,List.mem_range.2 hi,rfl⟩,h⟩)
   constructor
   .rw[hx,cz,if_pos rfl,zk hv,Jj,L8,List.map_map]
    congr 1
    apply List.map_congr_left
    intro i hi;have hi:=List.mem_range.1 hi;exact (ih (T.f i) (hk i hi) (hvk i hi)).1
   .rw[hx,kv _ hv,ap,if_pos rfl]
    congr 1
    funext i
    by_cases hi:i<T.len
    .rw[if_pos hi,if_pos hi];exact (ih (T.f i) (hk i hi) (hvk i hi)).2
    .rw[if_neg hi,if_neg hi]
  .have hvs:cz T= [T.v]:=by
    cases T with
    |nil=>exact absurd rfl hv
    |mk v nm a len cap f=>
     have hv: ¬v=0:=hv;rw[cz,if_neg hv];rfl
   obtain ⟨e1,e2⟩:=Rx (σ:=σ) hv (d+1);have hsame:a9 (ex σ (d+1) (vT T.v))=a9 (ex σ D (vT T.v)):=Pe (e2 hF) (hV T.v (by rw[hvs];simp))
   refine ⟨?_,?_⟩
   .rw[hvs,e1,J5 hsame];simp
   .rw[jf _ hv,e1];exact P6 hsame.symm
def Jl (t:List Int):Int->Option Int:=fun i=>if i+1∈t then some (jz t (i+1))else none
structure ob (w:World) (lo nb nm:Nat) (v:Value) (t:List Int):Prop where
 blk:w.heap[nb]?=some (.cells #[.map (some nm),v] 191)
 mp:IM w nm (Jl t)
 row:w.ownsRow lo 3 1 v t.length (t.map fun x:Int=>iV (x-1))
 nd:t.Nodup/\∀x∈t,1<=x/\x<=1000001
 lo:lo<=nb/\lo<=nm
theorem ob.few {w:World} {lo nb nm:Nat} {v:Value} {t:List Int} (h:ob w lo nb nm v t):t.length<=1000002:=by
 have h1:(t.map Int.toNat).Nodup:=by
  rw[List.nodup_iff_pairwise_ne,List.pairwise_map];have h0:=List.nodup_iff_pairwise_ne.1 h.nd.1;exact h0.imp_of_mem (fun ha hb hab e=>hab (by have:=h.nd.2 _ ha;have:=h.nd.2 _ hb;omega))
 have h2:(t.map Int.toNat) ⊆ List.range 1000002:=fun x hx=>by
  obtain ⟨i,hi,rfl⟩:=List.mem_map.1 hx;have:=h.nd.2 i hi;exact List.mem_range.2 (by omega)
 have h3:=List.Nodup.length_le_of_subset h1 h2;rw[List.length_map,List.length_range]at h3;exact h3
def Mn (nb nm:Nat) (v:Value) (k:Nat):Prop:=k=nb\/k=nm\/v.ownBlock=some k
theorem ob.lt {w:World} {lo nb nm:Nat} {v:Value} {t:List Int} (h:ob w lo nb nm v t):nb<w.heap.size/\nm<w.heap.size/\∀g,v.ownBlock=some g->lo<=g/\g<w.heap.size:=
 ⟨(aZ h.blk),h.mp.lt,fun g hg=>h.row.lt g hg⟩
theorem ob.keep {w w':World} {lo nb nm:Nat} {v:Value} {t:List Int} (h:ob w lo nb nm v t) (hk: ∀k,Mn nb nm v k->w'.heap[k]?=w.heap[k]?):ob w' lo nb nm v t:=
 ⟨(hk _ (.inl rfl)).trans h.blk,h.mp.keep (hk _ (.inr (.inl rfl))),bc h.row (fun g hg=>hk _ (rZ hg)),h.nd,h.lo⟩
theorem ob.below {w w':World} {lo nb nm:Nat} {v:Value} {t:List Int} (h:ob w lo nb nm v t) (hb:Below w.heap.size w w'):ob w' lo nb nm v t:=
 h.keep fun k hk=>hb.block k (by
  have:=h.lt
  rcases hk with e|e|e
  .omega
  .omega
  .exact (this.2.2 k e).2)
theorem Ak (w:World):Calls prog 116 #[] w fun e w'=>∃nb nm,e=.returned (.pointer (some ⟨nb,0,none⟩))/\ob w' w.heap.size nb nm (.slice none 0 0) []/\Below w.heap.size w w':=by
 have HF:Hid (ob ((w.alloc (.map #[] 0)).alloc (.cells #[.map (some w.heap.size),nZ] 191)) w.heap.size (w.heap.size+1) w.heap.size nZ []/\Below w.heap.size w ((w.alloc (.map #[] 0)).alloc (.cells #[.map (some w.heap.size),nZ] 191))):=by
  have hB:Below w.heap.size w ((w.alloc (.map #[] 0)).alloc (.cells #[.map (some w.heap.size),nZ] 191)):=bA.alloc (by simp) _
  refine ⟨⟨?_,?_,World.ownsRow_nil _ _ _ _,⟨List.nodup_nil,fun x h=>by cases h⟩,by omega,lZ⟩,hB⟩
  .have:=hZ (w.alloc (.map #[] 0)) (.cells #[.map (some w.heap.size),nZ] 191)
   rwa [show (w.alloc (.map #[] 0)).heap.size=w.heap.size+1 from by simp]at this
  .have e:Jl []=fun _=>none:=by funext i;unfold Jl;rw[if_neg (by simp)]
   rw[e];exact (IM.made w).keep (jZ _ _ (by simp))
 have hmm:= @run_makeMap prog
 go_enter Tryz.func116,Tryz.ntmps116
 go_wp2_with fail;go_ret;exact ⟨_,_,rfl,HF.o.1,HF.o.2⟩
theorem Lv {t:List Int} {x:Int} (hx:x ∉ t):lv (Jl t) (x-1) ((t.length:Int)+1)=Jl (t++ [x]):=by
 funext i
 unfold lv Jl
 by_cases e:i=x-1
 .subst e
  rw[if_pos rfl,show x-1+1=x from by omega,if_pos (by simp)]
  unfold jz;rw[List.idxOf_append,if_neg hx];simp
 .rw[if_neg e]
  have hne:i+1≠x:=by omega
  by_cases hi:i+1∈t
  .rw[if_pos hi,if_pos (List.mem_append.2 (.inl hi)),sw (List.prefix_append t [x]) hi]
  .rw[if_neg hi,if_neg (by simp[hi,hne])]
theorem F5 {t:List Int} {x:Int}:(Jl t (x-1)).getD 0=if x∈t then jz t x else 0:=by
 unfold Jl;rw[show x-1+1=x from by omega]
 by_cases h:x∈t
 .rw[if_pos h,if_pos h];rfl
 .rw[if_neg h,if_neg h];rfl
def Ul (w:World) (lo nb nm:Nat) (v:Value) (t:List Int) (x:Int) (e:Ending) (w':World):Prop:=∃v',e=.returned (iV (jz (bg t [x]) x))/\ob w' lo nb nm v' (bg t [x])/\Bw (Mn nb nm v) w.heap.size w w'/\(v'.ownBlock=v.ownBlock\/∃g,v'.ownBlock=some g/\w.heap.size<=g)
theorem Lu {lo nb nm:Nat} {v:Value} {t:List Int} (z:Nat) (hz:z<=1000000) (w:World) (h:ob w lo nb nm v t) (hlo:lo<=w.heap.size):
 Calls prog 118 #[.pointer (some ⟨nb,0,none⟩),iV z] w (Ul w lo nb nm v t ((z:Int)+1)):=by
 have n0:w.cell? (dZ nb 0)=some (.map (some nm)):=by simp[World.cell?,h.blk]
 have n1:w.cell? (dZ nb 1)=some v:=by simp[World.cell?,h.blk]
 have nf:w.frozen? (dZ nb 1)=false:=by simp[World.frozen?,h.blk]
 have hlk:=h.mp.look1 (i:=(z:Int)) (by omega) (by omega)
 have hge:=F5 (t:=t) (x:=(z:Int)+1);rw[show (z:Int)+1-1=z from by omega]at hge
 rw[hge]at hlk;have hfw:=h.few;have hlt:=h.lt
 by_cases hm:(z:Int)+1∈t
 .rw[if_pos hm]at hlk
  have hadd:bg t [(z:Int)+1]=t:=by rw[kn,if_pos hm]
  have hnum:1<=jz t ((z:Int)+1):=by unfold jz;omega
  have hnz:(jz t ((z:Int)+1)==0)=false:=bF (by omega)
  have HF:=hid h;have HA:Hid (bg t [(z:Int)+1]=t):=hadd;clear h hge hm hadd
  go_enter Tryz.func118,Tryz.ntmps118
  go_wp2_with fail;go_ret;exact ⟨v,by rw[HA.o];rfl,by rw[HA.o];exact HF.o,Bw.refl _ _ _,.inl rfl⟩
 .rw[if_neg hm]at hlk
  have hadd:bg t [(z:Int)+1]=t++ [(z:Int)+1]:=by rw[kn,if_neg hm]
  obtain ⟨i0,hi,hi0,hi1,hi2⟩:=info_parts Tryz.info3;have hBa:Below w.heap.size w (w.alloc (.cells #[iV (z:Int)] 3)):=bA;obtain ⟨v6,w6,hrun,ho6,hg6,_,hat6⟩:=run_append_own_at (P:=prog) (w.alloc (.cells #[iV (z:Int)] 3)) lo 28 28 3 i0 (iV 0) 1 8 Tryz.underlying28 hi hi0 hi1 hi2 rfl (by decide) v t.length _ (bc h.row (fun g hg=>hBa.block g (hlt.2.2 g hg).2)) (dZ w.heap.size 0) 1 1 [iV (z:Int)] rfl (cell_one_new _ _ _) (by simp[Value.oneCell']) (by unfold maxLen;omega) (by omega) (by simp;omega)
  obtain ⟨g6,cap6,rfl⟩:=ownsRow_succ ho6
  have hnv:some nb≠v.ownBlock:=fun e=>by
   rcases h.row.2 with ⟨hv,_⟩| ⟨g,cap,cur,hv,_,hg,_⟩
   .subst hv;cases e
   .subst hv
    have:nb=g:=oj e;subst this;rw[h.blk]at hg;cases hg
  have hmv:some nm≠v.ownBlock:=fun e=>by
   rcases h.row.2 with ⟨hv,_⟩| ⟨g,cap,cur,hv,_,hg,_⟩
   .subst hv;cases e
   .subst hv
    have:nm=g:=oj e;subst this;exact h.mp.ne_block hg rfl
  have hb6:w6.heap[nb]?=some (.cells #[.map (some nm),v] 191):=(hg6.block nb (by simp;omega) hnv).trans ((hBa.block nb hlt.1).trans h.blk)
  have c60:w6.cell? (dZ nb 0)=some (.map (some nm)):=by simp[World.cell?,hb6]
  have c61:w6.cell? (dZ nb 1)=some v:=by simp[World.cell?,hb6]
  have cf6:w6.frozen? (dZ nb 1)=false:=by simp[World.frozen?,hb6]
  have hg7:=af (W:=w6) nb 1 (sZ g6 (t.length+1) cap6)
  have hb7:(w6.setCell (dZ nb 1) (sZ g6 (t.length+1) cap6)).heap[nb]?=some (.cells #[.map (some nm),sZ g6 (t.length+1) cap6] 191):=by
   simp only[World.setCell,Array.getElem?_modify];simp[hb6]
  have hs6:w.heap.size+1<=w6.heap.size:=by have:=hg6.size;simp at this;omega
  have hgn:g6≠nb:=fun e=>by
   rcases ho6.2 with ⟨hv,_⟩| ⟨g,cap,cur,hv,_,hg,_⟩
   .cases hv
   .cases hv
    rw[e,hb6]at hg;cases hg
  have hm7:IM (w6.setCell (dZ nb 1) (sZ g6 (t.length+1) cap6)) nm (Jl t):=h.mp.keep ((hg7.block nm (by omega) (fun e=>by have:=oj e;exact h.mp.ne_block h.blk this.symm)).trans ((hg6.block nm (by simp;omega) hmv).trans (hBa.block nm hlt.2.1)))
  have hgm:g6≠nm:=fun e=>by
   rcases ho6.2 with ⟨hv,_⟩| ⟨g,cap,cur,hv,_,hg,_⟩
   .cases hv
   .cases hv
    have hm6:IM w6 nm (Jl t):=h.mp.keep ((hg6.block nm (by simp;omega) hmv).trans (hBa.block nm hlt.2.1))
    exact hm6.ne_block hg e
  have ho7:(w6.setCell (dZ nb 1) (sZ g6 (t.length+1) cap6)).ownsRow lo 3 1 (sZ g6 (t.length+1) cap6) (t.length+1) ((t.map fun x:Int=>iV (x-1))++ [iV (z:Int)]):=ho6.kept hg7 (.inr (fun e=>hgn (oj e)))
  have c70:(w6.setCell (dZ nb 1) (sZ g6 (t.length+1) cap6)).cell? (dZ nb 0)=some (.map (some nm)):=by simp[World.cell?,hb7]
  have c71:(w6.setCell (dZ nb 1) (sZ g6 (t.length+1) cap6)).cell? (dZ nb 1)=some (sZ g6 (t.length+1) cap6):=by simp[World.cell?,hb7]
  obtain ⟨w8,hrun8,hm8,hg8⟩:=(hm7.keep (w':=(w6.setCell (dZ nb 1) (sZ g6 (t.length+1) cap6)).drew) rfl).store (i:=(z:Int)) (by omega) (by omega) ((t.length:Int)+1)
  have hm8':IM w8 nm (Jl (t++ [(z:Int)+1])):=by
   rw[<-Lv hm,show (z:Int)+1-1=z from by omega]
   exact hm8
  have hb8:w8.heap[nb]?=some (.cells #[.map (some nm),sZ g6 (t.length+1) cap6] 191):=(hg8.block nb (by simp;omega) (fun e=>by have:=oj e;exact h.mp.ne_block h.blk this)).trans hb7
  have c80:w8.cell? (dZ nb 0)=some (.map (some nm)):=by simp[World.cell?,hb8]
  have hlk8:=hm8'.look1 (i:=(z:Int)) (by omega) (by omega)
  have hge8:=F5 (t:=t++ [(z:Int)+1]) (x:=(z:Int)+1);rw[show (z:Int)+1-1=z from by omega,if_pos (by simp)]at hge8
  rw[hge8]at hlk8
  have HN:Hid (ob w8 lo nb nm (sZ g6 (t.length+1) cap6) (t++ [(z:Int)+1])):=by
   refine ⟨hb8,hm8',?_,⟨?_,fun x hx=>?_⟩,h.lo⟩
   .rw[List.length_append,List.map_append]
    refine bc ?_ (fun g hg=>hg8.block g (by have:=(ho7.lt g hg).2;exact this) (fun e=>hgm ((oj hg).trans (oj e))))
    have e:(List.map (fun x:Int=>iV (x-1)) [(z:Int)+1])= [iV (z:Int)]:=by simp
    rw[e];exact ho7
   .rw[List.nodup_append]
    exact ⟨h.nd.1,by simp,fun a ha c hc=>by rw[List.mem_singleton]at hc;subst hc;exact fun e=>hm (e▸ha)⟩
   .rcases List.mem_append.1 hx with h'|h'
    .exact h.nd.2 x h'
    .rw[List.mem_singleton]at h';subst h';omega
  have HBw:Hid (Bw (Mn nb nm v) w.heap.size w w8):=by
   refine (((Bw.ofBelow hBa).grown hg6 (by simp) (fun k e=> rZ (.inr e))).grown hg7 (by omega) (fun k e=> .inr (.inl (oj e).symm))).drew.grown hg8 (by simp;omega) (fun k e=> rZ (.inl (oj e).symm))
  have HAt:Hid ((sZ g6 (t.length+1) cap6).ownBlock=v.ownBlock\/∃g,(sZ g6 (t.length+1) cap6).ownBlock=some g/\w.heap.size<=g):=by
   rcases hat6 with e|e
   .exact .inl e
   .exact .inr ⟨_,e,by simp⟩
  have HA:=hid hadd;have Hhr8:=hid hrun8;clear h hge hge8 hm hadd hm7 hm8 hm8' ho6 ho7 hg6 hg7 hg8 hat6 hb7 hb8 hBa hrun8 hb6
  go_enter Tryz.func118,Tryz.ntmps118
  go_wp2_with (at_builtin;refine Rz _ rfl _ _ 28 rfl rfl rfl hrun ?_);have hrun8:=Hhr8.o
  go_region
  all_goals
   go_wp2_with fail;go_ret;exact ⟨_,by rw[HA.o];rfl,by rw[HA.o];exact HN.o,HBw.o,HAt.o⟩
end Go.Proofs.YtmggaclaoefdaabGreat
