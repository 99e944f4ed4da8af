/- Part of the proof. -/
import Derived.Test.YtmggaclaoefdaabGreatGAQ
namespace Go.Proofs.YtmggaclaoefdaabGreat
open Go.RowKit Go.Proofs.Tryz
set_option linter.unusedVariables false
set_option linter.unusedSimpArgs false
set_option maxRecDepth 100000
set_option maxHeartbeats 8000000
section
theorem de {w:World} {lo n s:Nat} {t:TypeId} {v:Value} {xs:List Value} (h:w.ownsRow lo t s v n xs) {g:Nat} (hg:v.ownBlock=some g): ∃cur,w.heap[g]?=some (.cells cur t (0,0)):=by
 rcases h.2 with ⟨hv,_⟩| ⟨k,cap,cur,hv,_,hk,_⟩
 .subst hv;cases hg
 .subst hv
  have e:k=g:=oj hg;subst e;exact ⟨cur,hk⟩
structure MW (lo:Nat) (w:World) (mb vb m:Nat) (bv:Value) (left:Int) (g cap:Nat) (l:List Cl) (σ:Int->Option Int) (bs:List Nat):Prop where
 mkg:MK w mb vb m bv left (some ⟨g,0,none⟩) l.length cap (ah l) σ
 row:j3 lo w (.slice (some ⟨g,0,none⟩) l.length cap) l
 bnd:w.ownsRow lo 3 1 bv bs.length (bs.map fun x:Nat=>iV (x:Int))
 low:lo<=w.heap.size
def MB (m mb g:Nat) (bv:Value) (k:Nat):Prop:=k=m\/k=mb\/k=g\/bv.ownBlock=some k
variable {lo:Nat} {w w':World} {mb vb m:Nat} {bv:Value} {left:Int} {g cap:Nat} {l:List Cl} {σ:Int->Option Int} {bs:List Nat}
theorem MW.gne (M:MW lo w mb vb m bv left g cap l σ bs):g≠mb/\g≠vb/\g≠m/\g<w.heap.size:=by
 obtain ⟨cur,hc⟩:=de M.row (g:=g) rfl;refine ⟨fun e=>?_,fun e=>?_,fun e=>?_,(aZ hc)⟩
 .subst e;rw[M.mkg.blk]at hc;injection hc with hc;injection hc with h1 h2;cases h2
 .subst e;rw[M.mkg.view.blk]at hc;injection hc with hc;injection hc with h1 h2;cases h2
 .subst e;exact M.mkg.view.mp.ne_block hc rfl
theorem MW.bne (M:MW lo w mb vb m bv left g cap l σ bs): ∀k,bv.ownBlock=some k->k≠mb/\k≠vb/\k≠m/\k≠g/\k<w.heap.size/\lo<=k:=by
 intro k hk;obtain ⟨cur,hc⟩:=de M.bnd hk;refine ⟨fun e=>?_,fun e=>?_,fun e=>?_,fun e=>?_,(aZ hc),(M.bnd.lt k hk).1⟩
 .subst e;rw[M.mkg.blk]at hc;injection hc with hc;injection hc with h1 h2;cases h2
 .subst e;rw[M.mkg.view.blk]at hc;injection hc with hc;injection hc with h1 h2;cases h2
 .subst e;exact M.mkg.view.mp.ne_block hc rfl
 .subst e
  obtain ⟨cur',hc'⟩:=de M.row (g:=k) rfl
  rw[hc]at hc';injection hc' with hc';injection hc' with h1 h2;cases h2
theorem MW.look {σ':Int->Option Int} {left':Int} (M:MW lo w mb vb m bv left g cap l σ bs) (K:MK w' mb vb m bv left' (some ⟨g,0,none⟩) l.length cap (ah l) σ') (hb:Bw (MM m mb) w.heap.size w w'):MW lo w' mb vb m bv left' g cap l σ' bs:=by
 refine ⟨K,bc M.row (fun k hk=>?_),bc M.bnd (fun k hk=>?_),lT M.low hb.size⟩
 .have:g=k:=oj hk
  subst this;have h9:=M.gne
  exact hb.block g h9.2.2.2 (fun e=>by rcases e with e|e;(·exact h9.2.2.1 e);(·exact h9.1 e))
 .have h9:=M.bne k hk
  exact hb.block k h9.2.2.2.2.1 (fun e=>by rcases e with e|e;(·exact h9.2.2.1 e);(·exact h9.1 e))
def jy (l:List Cl) (v t:Nat):Nat × Nat:=if (ah l t).k=1/\v<t then (t,v)else (v,t)
def ig (l:List Cl) (v t:Nat):List Cl:=l.set v (setN (ah l v) (t:Int))
theorem jw (l:List Cl) (v t:Nat):(ig l v t).length=l.length:=by unfold ig;simp
theorem tz {v t:Nat} (hv:v<l.length):ah (ig l v t)=gz (ah l) v t:=by
 unfold ig;rw[jg hv];exact Pb hv
theorem Gh {v t:Nat} (hv:v<l.length) (hm: ∀c∈l,c.nm.size<=maxLen): ∀c∈ig l v t,c.nm.size<=maxLen:=by
 intro c hc;unfold ig at hc
 rcases List.mem_or_eq_of_mem_set hc with h|h
 .exact hm c h
 .rw[h]
  show (ah l v).nm.size<=maxLen
  rw[jg hv];exact hm _ (List.getElem_mem hv)
theorem MW.stored (M:MW lo w mb vb m bv left g cap l σ bs) {v t:Nat} (hv:v<l.length) (hn:(ah l v).n=v) (hm: ∀c∈l,c.nm.size<=maxLen):MW lo (w.setCell ⟨g,v*3+1,none⟩ (iV (t:Int))) mb vb m bv left g cap (ig l v t) σ bs:=by
 have hg:=af (W:=w) g (v*3+1) (iV (t:Int));obtain ⟨g1,g2,g3,g4⟩:=M.gne
 have hR:j3 lo (w.setCell (dZ g (v*3+1)) (iV (t:Int))) (sZ g l.length cap) (ig l v t):=by
  have h9:=j3.setN M.row rfl hv (t:Int);unfold ig;rw[jg hv];exact h9
 have hbl: ∀k,k<w.heap.size->k≠g->(w.setCell (dZ g (v*3+1)) (iV (t:Int))).heap[k]?=w.heap[k]?:=fun k hk hne=>hg.block k hk (fun e=>hne (oj e))
 refine ⟨⟨(hbl _ M.mkg.lt (Ne.symm g1)).trans M.mkg.blk,?_⟩,?_,M.bnd.kept hg ?_,lT M.low hg.size⟩
 .have hh:=j3.hin hR (jw l v t).symm (Gh hv hm)
  refine ⟨?_,hh,M.mkg.view.mp.keep (hbl _ M.mkg.view.lt.2 (Ne.symm g3)),?_⟩
  .rw[jw];exact (hbl _ M.mkg.view.lt.1 (Ne.symm g2)).trans M.mkg.view.blk
  .rw[jw,tz hv];exact M.mkg.view.ends.bnd hn
 .rw[jw];exact hR
 .cases hb:bv.ownBlock with
  |none=>exact .inl rfl
  |some k=>exact .inr (fun e=>(M.bne k hb).2.2.2.1 (oj e))
theorem MW.noted (M:MW lo w mb vb m bv left g cap l σ bs) {v:Nat} {bv':Value} {w6:World} (ho:w6.ownsRow lo 3 1 bv' (bs.length+1) ((bs.map fun x:Nat=>iV (x:Int))++ [iV (v:Int)])) (hg:w.grownBy w6 bv.ownBlock) (hat:bv'.ownBlock=bv.ownBlock\/bv'.ownBlock=some w.heap.size):
 MW lo (w6.setCell ⟨mb,1,none⟩ bv') mb vb m bv' left g cap l σ (bs++ [v])/\w6.cell? ⟨mb,1,none⟩=some bv/\w6.frozen? ⟨mb,1,none⟩=false/\Bw (MB m mb g bv) w.heap.size w (w6.setCell ⟨mb,1,none⟩ bv'):=by
 have hbl: ∀k,k<w.heap.size->bv.ownBlock≠some k->w6.heap[k]?=w.heap[k]?:=fun k hk hne=>hg.block k hk (fun e=>hne e.symm)
 have hgs:=af (W:=w6) mb 1 bv';have h6:=hg.size;have hb6:=(hbl mb M.mkg.lt (fun e=>(M.bne mb e).1 rfl)).trans M.mkg.blk
 have h7: ∀k,k<w.heap.size->bv.ownBlock≠some k->k≠mb->(w6.setCell (dZ mb 1) bv').heap[k]?=w.heap[k]?:=fun k hk hne hnm=>(hgs.block k (by omega) (fun e=>hnm (oj e))).trans (hbl k hk hne)
 obtain ⟨g1,g2,g3,g4⟩:=M.gne;obtain ⟨n1,n2⟩:=M.mkg.ne;have hgo:bv.ownBlock≠some g:=fun e=>(M.bne g e).2.2.2.1 rfl
 have hvo:bv.ownBlock≠some vb:=fun e=>(M.bne vb e).2.1 rfl
 have hmo:bv.ownBlock≠some m:=fun e=>(M.bne m e).2.2.1 rfl
 refine ⟨⟨⟨?_,⟨(h7 vb M.mkg.view.lt.1 hvo (Ne.symm n2)).trans M.mkg.view.blk,⟨fun i hi=>?_,M.mkg.view.row.big,M.mkg.view.row.nm⟩,M.mkg.view.mp.keep (h7 m M.mkg.view.lt.2 hmo (Ne.symm n1)),M.mkg.view.ends⟩⟩,bc M.row (fun k hk=>?_),?_,by have:=M.low;simp;omega⟩,?_,?_,⟨?_,?_,?_,by simp;omega,fun k hk hm=>?_⟩⟩
 .simp only[World.setCell,Array.getElem?_modify]
  simp[hb6]
 .obtain ⟨b,o,e,c0,c1,c2⟩:=M.mkg.view.row.row i hi
  cases e;have hx: ∀j,(w6.setCell (dZ mb 1) bv').cell? (dZ g j)=w.cell? (dZ g j):=fun j=>cB (h7 g g4 hgo g1)
  exact ⟨g,0,rfl,(hx _).trans c0,(hx _).trans c1,(hx _).trans c2⟩
 .have:g=k:=oj hk
  subst this;exact h7 g g4 hgo g1
 .rw[List.length_append,List.map_append]
  refine ho.kept hgs ?_
  rcases hat with e|e
  .rw[e]
   cases hb:bv.ownBlock with
   |none=>exact .inl rfl
   |some k=>exact .inr (fun e=>(M.bne k hb).1 (oj e))
  .rw[e]
   exact .inr (fun e=>by have h8:w.heap.size=mb:=oj e;have:=M.mkg.lt;omega)
 .simp[World.cell?,hb6]
 .simp[World.frozen?,hb6]
 .exact hgs.os.trans hg.os
 .exact hgs.tape.trans hg.tape
 .exact hgs.output.trans hg.output
 .exact h7 k hk (fun e=>hm (rZ (.inr e))) (fun e=>hm (.inr (.inl e)))
end
theorem MW.below {lo:Nat} {w w':World} {mb vb m:Nat} {bv:Value} {left:Int} {g cap:Nat} {l:List Cl} {σ:Int->Option Int} {bs:List Nat} (M:MW lo w mb vb m bv left g cap l σ bs) (hb:Below w.heap.size w w'):MW lo w' mb vb m bv left g cap l σ bs:=
 ⟨M.mkg.below hb,M.row.kept (aq hb none) (.inr (by simp[Value.ownBlock])),bc M.bnd (fun k hk=>hb.block k (M.bne k hk).2.2.2.2.1),lT M.low hb.size⟩
theorem MW.cellN {lo:Nat} {w:World} {mb vb m:Nat} {bv:Value} {left:Int} {g cap:Nat} {l:List Cl} {σ:Int->Option Int} {bs:List Nat} (M:MW lo w mb vb m bv left g cap l σ bs) {i:Nat} (hi:i<l.length):w.cell? ⟨g,i*3,none⟩=some (iV (ah l i).k)/\w.cell? ⟨g,i*3+1,none⟩=some (iV (ah l i).n)/\w.cell? ⟨g,i*3+2,none⟩=some (.string (ah l i).nm)/\∀j,w.frozen? ⟨g,j,none⟩=false:=by
 obtain ⟨b,o,e,c0,c1,c2⟩:=M.mkg.view.row.row i hi;cases e;rw[Nat.zero_add]at c0 c1 c2;refine ⟨c0,c1,c2,fun j=>?_⟩
 obtain ⟨cur,hc⟩:=de M.row (g:=g) rfl;simp[World.frozen?,hc]
def Nr (w:World) (lo mb vb m:Nat) (bv:Value) (g cap:Nat) (l:List Cl) (bs:List Nat) (v t:Nat) (r:vy) (e:Ending) (w':World):Prop:=
 (r.yes=false/\e=.returned (.bool false)/\∃σ',MW lo w' mb vb m bv r.left g cap l σ' bs/\Bw (MB m mb g bv) w.heap.size w w')\/
 (r.yes=true/\e=.returned (.bool true)/\∃bv' σ',MW lo w' mb vb m bv' r.left g cap (ig l (jy l v t).1 (jy l v t).2) σ' (bs++ [(jy l v t).1])/\Bw (MB m mb g bv) w.heap.size w w'/\(bv'.ownBlock=bv.ownBlock\/∃q,bv'.ownBlock=some q/\w.heap.size<=q))
theorem np {lo:Nat} {mb vb m:Nat} {bv:Value} {n:Nat} {g cap:Nat} {l:List Cl} {σ:Int->Option Int} {bs:List Nat} {v t:Nat} (w:World) (hn:n<=1000000) (M:MW lo w mb vb m bv (n:Int) g cap l σ bs) (H:HG (ah l) l.length) (hv:v<l.length) (hnv:(ah l v).n=v) (ht:t<l.length) (hrt:(ah l t).k=1->(ah l t).n=t) (hm: ∀c∈l,c.nm.size<=maxLen) (hbs:bs.length<=1000000):
 Calls prog 172 #[.pointer (some ⟨mb,0,none⟩),iV (v:Int),iV (t:Int)] w (Nr w lo mb vb m bv g cap l bs v t (ja (ah l) l.length v n [t])):=by
 have HLa:Hid (Calls prog 175 #[pZ mb,iV (t:Int),iV (v:Int)] w (Tn w mb vb m bv (some (dZ g 0)) l.length cap (ah l) (ja (ah l) l.length v n [t]))):=Eo n hn mb vb m bv (some (dZ g 0)) l.length cap (ah l) σ t v w H (by have:=H.ok.few;omega) ht M.mkg
 have HM:=hid M;have Hnv:=hid hnv;have Hrt:=hid hrt;have Hm:=hid hm;have hfew:=H.ok.few;obtain ⟨j0,hj,hj0,hj1,hj2⟩:=info_parts Tryz.info3;generalize ja (ah l) l.length v n [t]=r at*;clear M H hnv hrt hm
 go_enter Tryz.func172,Tryz.ntmps172
 go_wp2_with fail;refine HLa.o.mono ?_;rintro e w1 ⟨rfl,⟨σ1,hK1⟩,hb1⟩;have hM1:=HM.o.look hK1 hb1;have HM1:=hid hM1
 have HB1:Hid (Bw (MB m mb g bv) w.heap.size w w1):=hb1.wide fun k _ hk=>by
  rcases hk with e|e
  .exact .inl e
  .exact .inr (.inl e)
 have hs1:=hb1.size;have k10:=hM1.mkg.cells.1;have v10:=hM1.mkg.view.cells.1;obtain ⟨t0,t1,t2,tf⟩:=hM1.cellN ht;have htI:(t:Int)<(l.length:Int):=by omega
 have hvI:(v:Int)<(l.length:Int):=by omega
 clear hK1 hb1 hM1 HLa
 cases hy:r.yes with
 |false=>
  go_wp2_with fail;go_ret;exact .inl ⟨hy,rfl,σ1,HM1.o,HB1.o⟩
 |true=>
  by_cases hk1:(ah l t).k=1
  case neg=>
   have hkb:=bF hk1;have HSw:Hid (jy l v t=(v,t)):=by rw[Hid];unfold jy;rw[if_neg (fun h=>hk1 h.1)]
   have f1:w1.frozen? (dZ g (v*3+1))=false:=(HM1.o.cellN hv).2.2.2 _;obtain ⟨y1,c1⟩: ∃y1,w1.cell? (dZ g (v*3+1))=some y1:=⟨_,(HM1.o.cellN hv).2.1⟩;have hM2:=HM1.o.stored (t:=t) hv Hnv.o Hm.o;have HM2:=hid hM2;have hG2:=af (W:=w1) g (v*3+1) (iV (t:Int));have HB2:Hid (Bw (MB m mb g bv) w.heap.size w (w1.setCell (dZ g (v*3+1)) (iV (t:Int)))):=HB1.o.grown hG2 hs1 (fun k e=> rZ (.inr (.inl (oj e).symm)))
   have hs2:=lT hs1 hG2.size;have m21:=hM2.mkg.cells.2.1;clear hM2 hG2;have hsw:(w1.setCell (dZ g (v*3+1)) (iV (t:Int))).heap.size=w1.heap.size:=by simp
   have HNc:Hid (∀j u,[iV (v:Int)][j]?=some u->((w1.setCell (dZ g (v*3+1)) (iV (t:Int))).alloc (.cells #[iV (v:Int)] 3)).cell? ((dZ w1.heap.size 0).add j)=some u):=by
    have h9:=cell_one_new (w1.setCell (dZ g (v*3+1)) (iV (t:Int))) (iV (v:Int)) 3;rw[hsw]at h9;exact h9
   have hB3:Below (w1.setCell (dZ g (v*3+1)) (iV (t:Int))).heap.size (w1.setCell (dZ g (v*3+1)) (iV (t:Int))) ((w1.setCell (dZ g (v*3+1)) (iV (t:Int))).alloc (.cells #[iV (v:Int)] 3)):=bA;have HM3:=hid (HM2.o.below hB3);have HB3:=hid (HB2.o.trans (Bw.ofBelow (hB3.mono hs2)));have hs3:w.heap.size<=((w1.setCell (dZ g (v*3+1)) (iV (t:Int))).alloc (.cells #[iV (v:Int)] 3)).heap.size:=by simp;omega
   clear hB3
   go_wp2_with (at_builtin;refine wpList_append_own_at _ rfl (.tmp 46) (.tmp 48) 28 rfl lo 3 j0 (iV 0) 1 8 Tryz.underlying28 hj hj0 hj1 hj2 rfl (by decide) bv bs.length (bs.map fun x:Nat=>iV (x:Int)) rfl HM3.o.bnd (dZ w1.heap.size 0) 1 1 [iV (v:Int)] rfl rfl HNc.o (by simp[Value.oneCell']) (by unfold maxLen;omega) (by omega) HM3.o.low ?_;intro bv' w6 hown' hgrow hnil hat;have hv': ∃g' cap',bv'=sZ g' (bs.length+1) cap':=(by rcases hown'.2 with ⟨_,h0⟩| ⟨g',cap',_,h,_⟩;(·omega);(·exact ⟨g',cap',h⟩));obtain ⟨g',cap',rfl⟩:=hv';have h9:=HM3.o.noted (v:=v) hown' hgrow hat;have HN9:Hid (MW lo (w6.setCell (dZ mb 1) (sZ g' (bs.length+1) cap')) mb vb m (sZ g' (bs.length+1) cap') r.left g cap (ig l v t) σ1 (bs++ [v])):=h9.1;have q1:=h9.2.1;have qf:=h9.2.2.1;have HB9:Hid (Bw (MB m mb g bv) w.heap.size w (w6.setCell (dZ mb 1) (sZ g' (bs.length+1) cap'))):=HB3.o.trans (h9.2.2.2.mono hs3);have Hat:Hid ((sZ g' (bs.length+1) cap').ownBlock=bv.ownBlock\/∃q,(sZ g' (bs.length+1) cap').ownBlock=some q/\w.heap.size<=q):=(by rcases hat with e|e;(·exact .inl e);(·exact .inr ⟨_,e,hs3⟩));clear h9 hown' hgrow hnil hat)
   go_ret;refine .inr ⟨hy,rfl,_,σ1,?_,HB9.o,Hat.o⟩;rw[HSw.o];exact HN9.o
  have hkb:=beq_iff_eq.2 hk1
  by_cases hvt:v<t
  case neg=>
   have hdb:=decide_eq_false (by omega)
   have HSw:Hid (jy l v t=(v,t)):=by rw[Hid];unfold jy;rw[if_neg (fun h=>hvt h.2)]
   have f1:w1.frozen? (dZ g (v*3+1))=false:=(HM1.o.cellN hv).2.2.2 _;obtain ⟨y1,c1⟩: ∃y1,w1.cell? (dZ g (v*3+1))=some y1:=⟨_,(HM1.o.cellN hv).2.1⟩;have hM2:=HM1.o.stored (t:=t) hv Hnv.o Hm.o;have HM2:=hid hM2;have hG2:=af (W:=w1) g (v*3+1) (iV (t:Int));have HB2:Hid (Bw (MB m mb g bv) w.heap.size w (w1.setCell (dZ g (v*3+1)) (iV (t:Int)))):=HB1.o.grown hG2 hs1 (fun k e=> rZ (.inr (.inl (oj e).symm)))
   have hs2:=lT hs1 hG2.size;have m21:=hM2.mkg.cells.2.1;clear hM2 hG2;have hsw:(w1.setCell (dZ g (v*3+1)) (iV (t:Int))).heap.size=w1.heap.size:=by simp
   have HNc:Hid (∀j u,[iV (v:Int)][j]?=some u->((w1.setCell (dZ g (v*3+1)) (iV (t:Int))).alloc (.cells #[iV (v:Int)] 3)).cell? ((dZ w1.heap.size 0).add j)=some u):=by
    have h9:=cell_one_new (w1.setCell (dZ g (v*3+1)) (iV (t:Int))) (iV (v:Int)) 3;rw[hsw]at h9;exact h9
   have hB3:Below (w1.setCell (dZ g (v*3+1)) (iV (t:Int))).heap.size (w1.setCell (dZ g (v*3+1)) (iV (t:Int))) ((w1.setCell (dZ g (v*3+1)) (iV (t:Int))).alloc (.cells #[iV (v:Int)] 3)):=bA;have HM3:=hid (HM2.o.below hB3);have HB3:=hid (HB2.o.trans (Bw.ofBelow (hB3.mono hs2)));have hs3:w.heap.size<=((w1.setCell (dZ g (v*3+1)) (iV (t:Int))).alloc (.cells #[iV (v:Int)] 3)).heap.size:=by simp;omega
   clear hB3
   go_wp2_with (at_builtin;refine wpList_append_own_at _ rfl (.tmp 46) (.tmp 48) 28 rfl lo 3 j0 (iV 0) 1 8 Tryz.underlying28 hj hj0 hj1 hj2 rfl (by decide) bv bs.length (bs.map fun x:Nat=>iV (x:Int)) rfl HM3.o.bnd (dZ w1.heap.size 0) 1 1 [iV (v:Int)] rfl rfl HNc.o (by simp[Value.oneCell']) (by unfold maxLen;omega) (by omega) HM3.o.low ?_;intro bv' w6 hown' hgrow hnil hat;have hv': ∃g' cap',bv'=sZ g' (bs.length+1) cap':=(by rcases hown'.2 with ⟨_,h0⟩| ⟨g',cap',_,h,_⟩;(·omega);(·exact ⟨g',cap',h⟩));obtain ⟨g',cap',rfl⟩:=hv';have h9:=HM3.o.noted (v:=v) hown' hgrow hat;have HN9:Hid (MW lo (w6.setCell (dZ mb 1) (sZ g' (bs.length+1) cap')) mb vb m (sZ g' (bs.length+1) cap') r.left g cap (ig l v t) σ1 (bs++ [v])):=h9.1;have q1:=h9.2.1;have qf:=h9.2.2.1;have HB9:Hid (Bw (MB m mb g bv) w.heap.size w (w6.setCell (dZ mb 1) (sZ g' (bs.length+1) cap'))):=HB3.o.trans (h9.2.2.2.mono hs3);have Hat:Hid ((sZ g' (bs.length+1) cap').ownBlock=bv.ownBlock\/∃q,(sZ g' (bs.length+1) cap').ownBlock=some q/\w.heap.size<=q):=(by rcases hat with e|e;(·exact .inl e);(·exact .inr ⟨_,e,hs3⟩));clear h9 hown' hgrow hnil hat)
   go_ret;refine .inr ⟨hy,rfl,_,σ1,?_,HB9.o,Hat.o⟩;rw[HSw.o];exact HN9.o
  have hdb:=decide_eq_true (by omega)
  have HSw:Hid (jy l v t=(t,v)):=by rw[Hid];unfold jy;rw[if_pos ⟨hk1,hvt⟩]
  have f1:w1.frozen? (dZ g (t*3+1))=false:=(HM1.o.cellN ht).2.2.2 _;obtain ⟨y1,c1⟩: ∃y1,w1.cell? (dZ g (t*3+1))=some y1:=⟨_,(HM1.o.cellN ht).2.1⟩;have hM2:=HM1.o.stored (t:=v) ht (Hrt.o hk1) Hm.o;have HM2:=hid hM2;have hG2:=af (W:=w1) g (t*3+1) (iV (v:Int));have HB2:Hid (Bw (MB m mb g bv) w.heap.size w (w1.setCell (dZ g (t*3+1)) (iV (v:Int)))):=HB1.o.grown hG2 hs1 (fun k e=> rZ (.inr (.inl (oj e).symm)))
  have hs2:=lT hs1 hG2.size;have m21:=hM2.mkg.cells.2.1;clear hM2 hG2;have hsw:(w1.setCell (dZ g (t*3+1)) (iV (v:Int))).heap.size=w1.heap.size:=by simp
  have HNc:Hid (∀j u,[iV (t:Int)][j]?=some u->((w1.setCell (dZ g (t*3+1)) (iV (v:Int))).alloc (.cells #[iV (t:Int)] 3)).cell? ((dZ w1.heap.size 0).add j)=some u):=by
   have h9:=cell_one_new (w1.setCell (dZ g (t*3+1)) (iV (v:Int))) (iV (t:Int)) 3;rw[hsw]at h9;exact h9
  have hB3:Below (w1.setCell (dZ g (t*3+1)) (iV (v:Int))).heap.size (w1.setCell (dZ g (t*3+1)) (iV (v:Int))) ((w1.setCell (dZ g (t*3+1)) (iV (v:Int))).alloc (.cells #[iV (t:Int)] 3)):=bA;have HM3:=hid (HM2.o.below hB3);have HB3:=hid (HB2.o.trans (Bw.ofBelow (hB3.mono hs2)));have hs3:w.heap.size<=((w1.setCell (dZ g (t*3+1)) (iV (v:Int))).alloc (.cells #[iV (t:Int)] 3)).heap.size:=by simp;omega
  clear hB3
  go_wp2_with (at_builtin;refine wpList_append_own_at _ rfl (.tmp 46) (.tmp 48) 28 rfl lo 3 j0 (iV 0) 1 8 Tryz.underlying28 hj hj0 hj1 hj2 rfl (by decide) bv bs.length (bs.map fun x:Nat=>iV (x:Int)) rfl HM3.o.bnd (dZ w1.heap.size 0) 1 1 [iV (t:Int)] rfl rfl HNc.o (by simp[Value.oneCell']) (by unfold maxLen;omega) (by omega) HM3.o.low ?_;intro bv' w6 hown' hgrow hnil hat;have hv': ∃g' cap',bv'=sZ g' (bs.length+1) cap':=(by rcases hown'.2 with ⟨_,h0⟩| ⟨g',cap',_,h,_⟩;(·omega);(·exact ⟨g',cap',h⟩));obtain ⟨g',cap',rfl⟩:=hv';have h9:=HM3.o.noted (v:=t) hown' hgrow hat;have HN9:Hid (MW lo (w6.setCell (dZ mb 1) (sZ g' (bs.length+1) cap')) mb vb m (sZ g' (bs.length+1) cap') r.left g cap (ig l t v) σ1 (bs++ [t])):=h9.1;have q1:=h9.2.1;have qf:=h9.2.2.1;have HB9:Hid (Bw (MB m mb g bv) w.heap.size w (w6.setCell (dZ mb 1) (sZ g' (bs.length+1) cap'))):=HB3.o.trans (h9.2.2.2.mono hs3);have Hat:Hid ((sZ g' (bs.length+1) cap').ownBlock=bv.ownBlock\/∃q,(sZ g' (bs.length+1) cap').ownBlock=some q/\w.heap.size<=q):=(by rcases hat with e|e;(·exact .inl e);(·exact .inr ⟨_,e,hs3⟩));clear h9 hown' hgrow hnil hat)
  go_ret;refine .inr ⟨hy,rfl,_,σ1,?_,HB9.o,Hat.o⟩;rw[HSw.o];exact HN9.o
abbrev MS:=Nat × List Cl × List Nat
inductive MR where
 |yes (s:MS)
 |no (left:Int) (l:List Cl) (bs:List Nat)
def MR.ok:MR->Bool
 | .yes _=>true
 | .no .. =>false
def MR.left:MR->Int
 | .yes s=>s.1
 | .no x _ _=>x
def MR.l:MR->List Cl
 | .yes s=>s.2.1
 | .no _ l _=>l
def MR.bs:MR->List Nat
 | .yes s=>s.2.2
 | .no _ _ bs=>bs
noncomputable def r6 (v t:Nat) (s:MS):MR:=match ja (ah s.2.1) s.2.1.length v s.1 [t]with
 | .ok k=> .yes (k,ig s.2.1 (jy s.2.1 v t).1 (jy s.2.1 v t).2,s.2.2++ [(jy s.2.1 v t).1])
 |q=> .no q.left s.2.1 s.2.2
def m8 (F:Nat->Nat->MS->MR) (a b:Nat):Nat->MS->MR
 |0,s=> .yes s
 |k+1,s=>match m8 F a b k s with
  | .yes s'=>F (a+1+k) (b+1+k) s'
  |r=>r
noncomputable def xc (F:Nat->Nat->MS->MR) (a b:Nat) (s:MS):MR:=
 if (ah s.2.1 a).k=1/\a=b then .yes s
 else if (ah s.2.1 a).k=1 then r6 a b s
 else if (ah s.2.1 b).k=1 then r6 b a s
 else if¬((ah s.2.1 a).n=(ah s.2.1 b).n/\(ah s.2.1 a).nm.toList=(ah s.2.1 b).nm.toList)then .no s.1 s.2.1 s.2.2
 else m8 F a b (ah s.2.1 a).n.toNat s
noncomputable def jn:Nat->Nat->Nat->MS->MR
 |0=>fun _ _ s=> .no (-1) s.2.1 s.2.2
 |f+1=>fun a b s=>match s.1 with
  |0=> .no (-1) s.2.1 s.2.2
  |n+1=>xc (jn f) (aj (ah s.2.1) s.2.1.length a) (aj (ah s.2.1) s.2.1.length b) (n,s.2.1,s.2.2)
structure MG (s:MS):Prop where
 hg:HG (ah s.2.1) s.2.1.length
 nm: ∀c∈s.2.1,c.nm.size<=maxLen
structure MR.Good (r:MR) (s:MS):Prop where
 hg:HG (ah r.l) r.l.length
 nm: ∀c∈r.l,c.nm.size<=maxLen
 len:r.l.length=s.2.1.length
 le:r.left<=s.1
 bs:r.ok=true->r.bs.length+r.left<=s.2.2.length+s.1
 bs':r.bs.length<=s.2.2.length+s.1
 kk: ∀i,(ah r.l i).k=(ah s.2.1 i).k/\(ah r.l i).nm=(ah s.2.1 i).nm/\((ah s.2.1 i).k≠1->(ah r.l i).n=(ah s.2.1 i).n)
theorem MG.self {s:MS} (h:MG s):(MR.yes s).Good s:=⟨h.hg,h.nm,rfl,Int.le_refl _,fun _=>Int.le_refl _,by show s.2.2.length<=_;omega,fun i=>⟨rfl,rfl,fun _=>rfl⟩⟩
theorem MG.not {s:MS} (h:MG s) {x:Int} (hx:x<=s.1):(MR.no x s.2.1 s.2.2).Good s:=⟨h.hg,h.nm,rfl,hx,fun e=>(by cases e),by show s.2.2.length<=_;omega,fun i=>⟨rfl,rfl,fun _=>rfl⟩⟩
theorem mr {h:Nat->Cl} {len i:Nat} (H:HG h len) (hi:i<len) (he:aj h len i=i) (hk:(h i).k=1):(h i).n=i:=by
 rcases H.end_or hi with ⟨_,h2⟩|h2
 .rw[he]at h2;exact h2
 .rw[he]at h2;omega
theorem Co {s:MS} (G:MG s) {v t:Nat} (hv:v<s.2.1.length) (ht:t<s.2.1.length) (hev:aj (ah s.2.1) s.2.1.length v=v) (het:aj (ah s.2.1) s.2.1.length t=t) (hk:(ah s.2.1 v).k=1) (hne:t≠v) (h1:0<s.1\/True):(r6 v t s).Good s:=by
 obtain ⟨n,l,bs⟩:=s;have hG:=G.hg;unfold r6;have hle:=zr (ah l) l.length v n [t];have hnot:=F9 hG hev n [t]
 have hlt: ∀k,ja (ah l) l.length v n [t]=.ok k->k<n:=fun k e=>by
  rw[F8]at e
  cases n with
  |zero=>cases e
  |succ n=>
   have e':(if aj (ah l) l.length t=v then vy.hit n else ja (ah l) l.length v n (leads (ah l) (aj (ah l) l.length t)))=.ok k:=e
   split at e'
   .cases e'
   .have:=(zr (ah l) l.length v n _).1 k e';omega
 show (match ja (ah l) l.length v n [t]with| .ok k=>MR.yes (k,ig l (jy l v t).1 (jy l v t).2,bs++ [(jy l v t).1])|q=>MR.no q.left l bs).Good (n,l,bs)
 cases hq:ja (ah l) l.length v n [t]with
 |hit k=>exact G.not (x:=(k:Int)) (by have:=hle.2 k hq;show (k:Int)<=(n:Int);omega)
 |over=>exact G.not (x:= -1) (by show (-1:Int)<=(n:Int);omega)
 |ok k=>
  have hR:=hnot k hq t (by simp) ht
  have hkn:=hlt k hq;have hnv:=mr hG hv hev hk
  have key: ∃v' t',jy l v t=(v',t')/\v'<l.length/\t'<l.length/\t'≠v'/\(ah l v').k=1/\¬vu (ah l) v' t':=by
   unfold jy
   by_cases hc:(ah l t).k=1/\v<t
   .rw[if_pos hc]
    refine ⟨t,v,rfl,ht,hv,Ne.symm hne,hc.1,fun r=>?_⟩
    cases r with
    |here=>exact hne rfl
    |step hj _=>
     unfold leads at hj;rw[if_pos hk,if_pos hnv]at hj;cases hj
   .rw[if_neg hc]
    exact ⟨v,t,rfl,hv,ht,hne,hk,hR⟩
  obtain ⟨v',t',hsw,hv',ht',hne',hk',hR'⟩:=key
  show (MR.yes (k,ig l (jy l v t).1 (jy l v t).2,bs++ [(jy l v t).1])).Good (n,l,bs)
  rw[hsw];have hb:ah (ig l v' t')=gz (ah l) v' t':=tz hv';refine ⟨?_,Gh hv' G.nm,jw l v' t',?_,fun _=>?_,?_,fun i=>?_⟩
  .show HG (ah (ig l v' t')) (ig l v' t').length
   rw[hb,jw];exact hG.bind hv' hk' ht' hne' hR'
  .show (k:Int)<=(n:Int);omega
  .show ((bs++ [v']).length:Int)+(k:Int)<=(bs.length:Int)+(n:Int)
   simp;omega
  .show (bs++ [v']).length<=bs.length+n
   simp;omega
  .show (ah (ig l v' t') i).k=_/\(ah (ig l v' t') i).nm=_/\(_->(ah (ig l v' t') i).n=_)
   rw[hb];refine ⟨(lg _ _ _ i).1,(lg _ _ _ i).2,fun h=>?_⟩
   rw[dt (fun e=>by subst e;exact h hk')]
theorem MR.Good.trans {q:MR} {s s':MS} (h:(MR.yes s').Good s) (h':q.Good s'):q.Good s:=by
 refine ⟨h'.hg,h'.nm,h'.len.trans h.len,?_,fun e=>?_,?_,fun i=>?_⟩
 .exact Int.le_trans h'.le h.le
 .have h1:=h'.bs e
  have h2:=h.bs rfl;have h3:(s'.2.2.length:Int)+(s'.1:Int)<=s.2.2.length+s.1:=h2;omega
 .have h1:=h'.bs'
  have h3:(s'.2.2.length:Int)+(s'.1:Int)<=s.2.2.length+s.1:=h.bs rfl;omega
 .obtain ⟨a1,a2,a3⟩:=h'.kk i
  obtain ⟨b1,b2,b3⟩:=h.kk i;exact ⟨a1.trans b1,a2.trans b2,fun e=>(a3 (fun e'=>e (b1▸e'))).trans (b3 e)⟩
theorem MR.Good.mg {s s':MS} (h:(MR.yes s').Good s):MG s':=⟨h.hg,h.nm⟩
theorem p7 {F:Nat->Nat->MS->MR} {a b N:Nat} {s:MS} (G:MG s) (hF: ∀k,k<N->∀s',(MR.yes s').Good s->(F (a+1+k) (b+1+k) s').Good s'): ∀k,k<=N->(m8 F a b k s).Good s:=by
 intro k
 induction k with
 |zero=>intro _;exact G.self
 |succ k ih=>
  intro hk;have h1:=ih (by omega)
  unfold m8
  cases hq:m8 F a b k s with
  |yes s'=>
   rw[hq]at h1;exact h1.trans (hF k (by omega) s' h1)
  |no x l bs=>rw[hq]at h1;exact h1
theorem gj: ∀(f a b:Nat) (s:MS),MG s->a<s.2.1.length->b<s.2.1.length->(jn f a b s).Good s:=by
 intro f
 induction f with
 |zero=>intro a b s G _ _;exact G.not (x:= -1) (by omega)
 |succ f ih=>
  intro a b s G ha hb;obtain ⟨n,l,bs⟩:=s
  cases n with
  |zero=>exact G.not (x:= -1) (by show (-1:Int)<=0;omega)
  |succ n=>
   have hG:=G.hg;have ha':=hG.end_lt ha;have hb':=hG.end_lt hb;have hea:=hG.end_end ha;have heb:=hG.end_end hb
   show (xc (jn f) (aj (ah l) l.length a) (aj (ah l) l.length b) (n,l,bs)).Good (n+1,l,bs)
   generalize aj (ah l) l.length a=x at*;generalize aj (ah l) l.length b=y at*;have G1:MG (n,l,bs):=⟨G.hg,G.nm⟩
   have up: ∀r:MR,r.Good (n,l,bs)->r.Good (n+1,l,bs):=fun r h=>by
    refine ⟨h.hg,h.nm,h.len,?_,fun e=>?_,?_,h.kk⟩
    .have h9:=h.le
     show r.left<=((n+1:Nat):Int);omega
    .have h9:(r.bs.length:Int)+r.left<=(bs.length:Int)+(n:Int):=h.bs e
     show (r.bs.length:Int)+r.left<=(bs.length:Int)+((n+1:Nat):Int);omega
    .have h9:r.bs.length<=bs.length+n:=h.bs'
     show r.bs.length<=bs.length+(n+1);omega
   refine up _ ?_;unfold xc
   show MR.Good (if (ah l x).k=1/\x=y then _ else if (ah l x).k=1 then r6 x y (n,l,bs)else if (ah l y).k=1 then r6 y x (n,l,bs)else if¬((ah l x).n=(ah l y).n/\(ah l x).nm.toList=(ah l y).nm.toList)then _ else m8 (jn f) x y (ah l x).n.toNat (n,l,bs)) (n,l,bs)
   by_cases h1:(ah l x).k=1/\x=y
   .rw[if_pos h1];exact G1.self
   rw[if_neg h1]
   by_cases h2:(ah l x).k=1
   .rw[if_pos h2];exact Co G1 ha' hb' hea heb h2 (fun e=>h1 ⟨h2,e.symm⟩) (.inr trivial)
   rw[if_neg h2]
   by_cases h3:(ah l y).k=1
   .rw[if_pos h3];exact Co G1 hb' ha' heb hea h3 (fun e=>h2 (e▸h3)) (.inr trivial)
   rw[if_neg h3]
   by_cases h4: ¬((ah l x).n=(ah l y).n/\(ah l x).nm.toList=(ah l y).nm.toList)
   .rw[if_pos h4];exact G1.not (Int.le_refl _)
   rw[if_neg h4];have hxy:=(Classical.not_not.1 h4).1
   have ky:(ah l y).k=2:=by
    rcases hG.kind y hb' with h|h
    .exact absurd h h3
    .exact h
   refine p7 G1 (fun k hk s' hs'=>?_) _ lZ
   have kx:(ah l x).k=2:=by
    rcases hG.kind x ha' with h|h
    .exact absurd h h2
    .exact h
   have hn0:=hG.ok.n0 x ha';have hk':=hk;have hkI:(k:Int)<(ah l x).n:=by omega
   have e1:=(hG.kids x ha' kx k hkI).1;have e2:=(hG.kids y hb' ky k (by rw[<-hxy];exact hkI)).1
   have hl:s'.2.1.length=l.length:=hs'.len;exact ih _ _ s' hs'.mg (by rw[hl];exact e1) (by rw[hl];exact e2)
end Go.Proofs.YtmggaclaoefdaabGreat
