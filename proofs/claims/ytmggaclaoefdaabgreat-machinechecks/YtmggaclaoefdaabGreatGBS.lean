/- Part of the proof. Part of the proof. Part of the proof. Part of the proof. -/
import Derived.Test.YtmggaclaoefdaabGreatSq0
import Derived.Test.YtmggaclaoefdaabGreatGAK
import Derived.Test.YtmggaclaoefdaabGreatGBR
namespace Go.Proofs.YtmggaclaoefdaabGreat
open Go.RowKit
def SmT:Tm→Prop
 | .nil=>True
 | .mk _ _ _ len _ f=>len*48≤140737488351232∧∀i,i<len→SmT (f i)
theorem SmT.len {T:Tm} (h:SmT T):T.len*48≤140737488351232:=by
 cases T with
 |nil=>show 0*48≤_;omega
 |mk=>exact h.1
theorem SmT.kid {T:Tm} {i:Nat} (h:SmT T) (hi:i<T.len):SmT (T.f i):=by
 cases T with
 |nil=>exact absurd hi (Nat.not_lt_zero _)
 |mk=>exact h.2 i hi
def FwP (w:World) (e:Ending) (w':World):Prop:=∃X:Tm,e=.returned X.val∧Below w.heap.size w w'∧TIn w' X∧∀k,k<w.heap.size→NB k (vT 0)→NB k X
def FwC (T:Tm):Prop:=∀(far:Int) (w:World),TIn w T→SmT T→Calls Tryz.prog 74 #[T.val,iV far] w (FwP w)
set_option maxRecDepth 100000 in
set_option maxHeartbeats 2000000 in
theorem farw_var {T:Tm} (hv:T.v≠0):FwC T:=by
 intro far w hT hO;have hvb:(T.v !=0)=true:=bne_iff_ne.2 hv;obtain ⟨z,hw⟩: ∃z,IntKind.i64.wrap (T.v+far)=z:=⟨_,rfl⟩;clear hT hO
 show Calls Tryz.prog 74 #[.agg #[iV T.v,.string T.nm,.slice T.a T.len T.cap],iV far] w _
 go_enter Tryz.func74,Tryz.ntmps74
 go_wp2_with fail;have HBa:Hid (Below w.heap.size w ((w.alloc (.cells #[iV T.v,.string T.nm,.slice T.a T.len T.cap] 67)).alloc (.cells #[iV z,.string ⟨#[]⟩,.slice none 0 0] 67))):=((Below.refl _ _).alloc (Nat.le_refl _) _).alloc (by simp) _
 refine bodyPost_ret (v:=(vT z).val) ?_ rfl ⟨vT z,rfl,HBa.o,vT_in _ _,fun k _ _=>⟨fun h=>absurd h (Nat.lt_irrefl 0),fun i hi=>absurd hi (Nat.not_lt_zero i)⟩⟩
 simp[results,Tryz.results74,go_sem,Tm.val,vT,Tm.v,Tm.nm,Tm.a,Tm.len,Tm.cap]
set_option maxRecDepth 100000 in
set_option maxHeartbeats 8000000 in
theorem farw_fn {T:Tm} (hv:T.v=0) (hk: ∀i,i<T.len→FwC (T.f i)):FwC T:=by
 intro far w hT hO;have HC:Hid (∀i,i<T.len→∀W,Below w.heap.size w W→Calls Tryz.prog 74 #[.agg #[iV (T.f i).v,.string (T.f i).nm,.slice (T.f i).a (T.f i).len (T.f i).cap],iV far] W (FwP W)):=fun i hi W hW=>hk i hi far W ((hT.kid hi).below hW) (hO.kid hi)
 have HKid:Hid (∀i,i<T.len→∀W,Below w.heap.size w W→RowAt W T.a i (T.f i)):=fun i hi W hW=>(hT.row hi).below hW
 have HNY:Hid (∀k,w.heap.size≤k→NB k (vT 0)):=fun k _=>nb0 k
 have hlen:T.len≤2 ^ 63-1:=hT.len;have hlen4:T.len*48≤140737488351232:=hO.len;have hnm:=hT.name;have hvb:(T.v !=0)=false:=by rw[hv];rfl
 obtain ⟨i0,hi,hz0,hz1,hz2⟩:=info_parts Tryz.info67;clear hk hT hO hv;generalize hua:T.a=ua at*
 show Calls Tryz.prog 74 #[.agg #[iV T.v,.string T.nm,.slice T.a T.len T.cap],iV far] w _
 rw[hua]
 go_enter Tryz.func74,Tryz.ntmps74
 go_wp2_with fail;obtain ⟨a1,a2,aB⟩:=alloc3 w (.cells #[iV T.v,.string T.nm,.slice ua T.len T.cap] 67) (.cells #[iV 0,.string ⟨#[]⟩,.slice none 0 0] 67) (.cells #[iV 0,.string T.nm,.slice none 0 0] 67);have a0:=alloc3a w (.cells #[iV T.v,.string T.nm,.slice ua T.len T.cap] 67) (.cells #[iV 0,.string ⟨#[]⟩,.slice none 0 0] 67) (.cells #[iV 0,.string T.nm,.slice none 0 0] 67)
 go_loopw [6] (fun i wr=>∃(j:Nat) (ts:List Tm) (v:Value),j≤T.len∧i=iV j∧ts.length=j∧LstQ (w.heap.size+3) (vT 0) wr v ts (ts.map can)∧wr.heap[w.heap.size+2]?=some (.cells #[iV 0,.string T.nm,v] 67)∧wr.heap[w.heap.size+1]?=some (.cells #[iV 0,.string ⟨#[]⟩,.slice none 0 0] 67)∧wr.heap[w.heap.size]?=some (.cells #[iV T.v,.string T.nm,.slice ua T.len T.cap] 67)∧w.heap.size+3≤wr.heap.size∧Below w.heap.size w wr) (fun i _=>T.len-(intOf i).toNat)
 case atStart=>exact ⟨0,[],_,Nat.zero_le _,rfl,rfl,⟨World.ownsRow_nil _ _ _ _,fun c hc=>absurd hc (by simp),rfl,fun i hi=>absurd hi (Nat.not_lt_zero i)⟩,a2,a1,a0,by simp,aB⟩
 case round=>
  clear a0 a1 a2 aB;obtain ⟨j,ts,v,hj,rfl,hTL,hL,hC2,hZ1,hT0,hsz,hB⟩:=hrel;have HL:Hid (LstQ (w.heap.size+3) (vT 0) wr v ts (ts.map can)):=hL;have HC2:Hid (wr.heap[w.heap.size+2]?=some (.cells #[iV 0,.string T.nm,v] 67)):=hC2;have HZ1:Hid (wr.heap[w.heap.size+1]?=some (.cells #[iV 0,.string ⟨#[]⟩,.slice none 0 0] 67)):=hZ1;have HT0:Hid (wr.heap[w.heap.size]?=some (.cells #[iV T.v,.string T.nm,.slice ua T.len T.cap] 67)):=hT0;have HB:Hid (Below w.heap.size w wr):=hB;have HTL:Hid (ts.length=j):=hTL;have hts4:ts.length*48≤140737488351232:=by have:=HTL.o;omega
  have hts5:j<T.len→(ts.length+1)*48≤140737488351232:=fun h=>by have:=HTL.o;omega
  clear hTL hL hC2 hZ1 hT0 hB;obtain ⟨b0,b1,b2,_,_,_⟩:=block_cells HT0.o
  by_cases hlt:j<T.len
  case neg=>
   have hje:j=T.len:=by omega
   obtain ⟨Q,hvQ,hQ,hQN,hQL,hQS⟩:=HL.o.terms;have HQ:Hid (TIn wr Q∧(∀k,k<w.heap.size+3→NB k (vT 0)→NB k Q)):=⟨hQ,hQN⟩;subst hvQ;clear hts5;clear hQ hQN hQL hQS hje;obtain ⟨c0,c1,c2,_,_,_⟩:=block_cells HC2.o;obtain ⟨y0,y1,y2,f0,f1,f2⟩:=block_cells HZ1.o;go_wp2_with fail;obtain ⟨W',hW',z0,z1,z2,hB',hgr⟩:=fin3n (r:=w.heap.size+1) (by omega) HZ1.o HB.o (iV 0) (.string T.nm) (.slice Q.a Q.len Q.cap)
   rw[hW'];have hT':TIn W' Q:=HQ.o.1.grown hgr (fun k hk=>by obtain rfl:=Option.some.inj hk;exact HQ.o.2 _ (by omega) (HNY.o _ (by omega)))
   refine bodyPost_ret (v:=Tm.val (.mk 0 T.nm Q.a Q.len Q.cap Q.f)) ?_ rfl ⟨.mk 0 T.nm Q.a Q.len Q.cap Q.f,rfl,hB',hT'.retop hnm,fun k hk hY=>(HQ.o.2 k (by omega) hY).retop⟩
   simp[results,Tryz.results74,go_sem,z0,z1,z2,Tm.val,Tm.v,Tm.nm,Tm.a,Tm.len,Tm.cap]
  have hr:=HKid.o j hlt wr HB.o;obtain ⟨bb,o,ha,c0,c1,c2⟩:=hr;subst ha;have hltI:(j:Int)<(T.len:Int):=by omega
  have hts6:=hts5 hlt;clear hts5;go_wp2_with fail;obtain ⟨d0,d1,d2,k0,k1,k2⟩:=block_cells HC2.o;have tok1:True:=trivial
  go_region_law (first
   | (have _t:=tok1
      go_simp
      go_at_call 74
      refine (HC.o j hlt _ (by repeat (first|exact HB.o|refine Below.drew ?_))).mono ?_
      rintro e w5 ⟨X,rfl,hb5,hX5,hN5⟩;have HB5:Hid (Below wr.heap.size wr w5):=Below.trans (by repeat (first|exact Below.refl _ _|refine Below.drew ?_)) (hb5.mono (Nat.le_refl _))
      have HX5:Hid (TIn w5 X∧∀k,k<wr.heap.size→NB k (vT 0)→NB k X):=⟨hX5,hN5⟩;have g2:w5.cell? ⟨w.heap.size+2,2,none⟩=some v:=(HB5.o.cell (p:=⟨w.heap.size+2,2,none⟩) (by show w.heap.size+2<wr.heap.size;omega)).trans d2
      have gf2:w5.frozen? ⟨w.heap.size+2,2,none⟩=false:=(HB5.o.frozen (p:=⟨w.heap.size+2,2,none⟩) (by show w.heap.size+2<wr.heap.size;omega)).trans k2
      have HL5:Hid (LstQ (w.heap.size+3) (vT 0) (w5.alloc (.cells #[iV X.v,.string X.nm,.slice X.a X.len X.cap] 67)) v ts (ts.map can)):=(HL.o.keep HB5.o).keep ((Below.refl _ _).alloc (Nat.le_refl _) _);rw[show X.val=.agg #[iV X.v,.string X.nm,.slice X.a X.len X.cap]from rfl]
      have g2b:(w5.alloc (.cells #[iV X.v,.string X.nm,.slice X.a X.len X.cap] 67)).cell? ⟨w.heap.size+2,2,none⟩=some v:=(((Below.refl _ w5).alloc (Nat.le_refl _) (.cells #[iV X.v,.string X.nm,.slice X.a X.len X.cap] 67)).cell (p:=⟨w.heap.size+2,2,none⟩) (lt_of_cell g2)).trans g2;clear hb5 hX5 hN5 tok1)
   | (refine step_append_own_at rfl (.tmp 26) (.tmp 34) 24 rfl (w.heap.size+3) 67 i0 (.agg #[iV 0,.string ByteArray.empty,.slice none 0 0]) 3 48 Tryz.underlying24 hi hz0 hz1 hz2 rfl (by decide) v ts.length (flat ts) (by simp[Act.eval]) HL5.o.own ⟨w5.heap.size,0,none⟩ 1 1 (flat [X]) (by simp[Act.eval]) rfl (news1 w5 X) (flat_one _) (by unfold maxLen;omega) (by omega) (by have:=HB5.o.size;simp;omega) (by omega) ?_
      intro g cap' w6 hown6 hg6 hat6;have HO6:Hid (w6.ownsRow (w.heap.size+3) 67 3 (.slice (some ⟨g,0,none⟩) (ts.length+1) cap') (ts.length+1) (flat ts++flat [X])):=hown6;have HG6:Hid ((w5.alloc (.cells #[iV X.v,.string X.nm,.slice X.a X.len X.cap] 67)).grownBy w6 v.ownBlock):=hg6;have HA6:Hid (some g=v.ownBlock∨g=(w5.alloc (.cells #[iV X.v,.string X.nm,.slice X.a X.len X.cap] 67)).heap.size):=hat6;have hne6:some (w.heap.size+2)≠v.ownBlock:=fun e=>by have:=(HL.o.own.lt _ e.symm).1;omega
      have q2:w6.cell? ⟨w.heap.size+2,2,none⟩=some v:=hg6.cell ((((Below.refl _ w5).alloc (Nat.le_refl _) (.cells #[iV X.v,.string X.nm,.slice X.a X.len X.cap] 67)).cell (p:=⟨w.heap.size+2,2,none⟩) (lt_of_cell g2)).trans g2) hne6;have qf2:w6.frozen? ⟨w.heap.size+2,2,none⟩=false:=(World.frozen?_of_block (hg6.block _ (by have:=lt_of_cell g2;simp;have h:w.heap.size+2<w5.heap.size:=this;omega) hne6)).trans ((((Below.refl _ w5).alloc (Nat.le_refl _) (.cells #[iV X.v,.string X.nm,.slice X.a X.len X.cap] 67)).frozen (p:=⟨w.heap.size+2,2,none⟩) (lt_of_cell g2)).trans gf2)
      clear hown6 hg6 hat6))
  all_goals
   have hgs:=grown_set (W:=w6) (w.heap.size+2) 2 (.slice (some ⟨g,0,none⟩) (ts.length+1) cap');have hwr5:Below wr.heap.size wr w5:=HB5.o;have hB6:Below w.heap.size w w6:=((HB.o.trans (hwr5.mono HB.o.size)).alloc (by have:=hwr5.size;omega) _).grown HG6.o (by have:=hwr5.size;simp;omega) (fun q hq=>by have:=(HL.o.own.lt q hq).1;omega)
   have HBF:Hid (Below w.heap.size w (w6.setCell ⟨w.heap.size+2,2,none⟩ (.slice (some ⟨g,0,none⟩) (ts.length+1) cap'))):=hB6.grown hgs (by have:=hwr5.size;have:=HG6.o.size;simp at this;omega) (fun q hq=>by have:=Option.some.inj hq;omega)
   have hL6:LstQ (w.heap.size+3) (vT 0) w6 (.slice (some ⟨g,0,none⟩) (ts.length+1) cap') (ts++ [X]) (ts.map can++ [can X]):=HL5.o.more (HX5.o.1.below ((Below.refl _ _).alloc (Nat.le_refl _) _)) (fun k hk hY=>HX5.o.2 k (by omega) hY) (fun q hq=>HX5.o.2 q (HL.o.own.lt q hq).2 (HNY.o q (by have:=(HL.o.own.lt q hq).1;omega))) rfl HO6.o HG6.o (by
    rcases HA6.o with e|e
    ·exact .inl e
    ·exact .inr (by rw[e];rfl))
   have HLF:Hid (LstQ (w.heap.size+3) (vT 0) (w6.setCell ⟨w.heap.size+2,2,none⟩ (.slice (some ⟨g,0,none⟩) (ts.length+1) cap')) (.slice (some ⟨g,0,none⟩) (ts.length+1) cap') (ts++ [X]) ((ts++ [X]).map can)):=by
    rw[Hid,List.map_append];refine ⟨hL6.own.kept hgs (.inr (fun e=>by have h1:=(hL6.own.lt g rfl).1;have h2:g=w.heap.size+2:=Option.some.inj e;omega)),fun U hU=>?_,hL6.len,hL6.sim⟩
    obtain ⟨h1,h2,h3⟩:=hL6.all U hU;exact ⟨h1.grown hgs (fun q hq=>by obtain rfl:=Option.some.inj hq;exact h2 _ (by omega) (HNY.o _ (by omega))),h2,h3⟩
   have hneA: ∀q,q<w.heap.size+3→some q≠v.ownBlock:=fun q hq e=>by have:=(HL.o.own.lt _ e.symm).1;omega
   have h56: ∀q,q<wr.heap.size→some q≠v.ownBlock→w6.heap[q]?=wr.heap[q]?:=fun q hq hn=>(HG6.o.block q (by have:=hwr5.size;simp;omega) hn).trans ((heapOld _ _ (by have:=hwr5.size;omega)).trans (hwr5.block q hq))
   have hs6:wr.heap.size≤w6.heap.size:=by have:=hwr5.size;have:=HG6.o.size;simp at this;omega
   have HCF:Hid ((w6.setCell ⟨w.heap.size+2,2,none⟩ (.slice (some ⟨g,0,none⟩) (ts.length+1) cap')).heap[w.heap.size+2]?=some (.cells #[iV 0,.string T.nm,(.slice (some ⟨g,0,none⟩) (ts.length+1) cap')] 67)):=setL ((h56 _ (by omega) (hneA _ (by omega))).trans HC2.o)
   have HZF:Hid ((w6.setCell ⟨w.heap.size+2,2,none⟩ (.slice (some ⟨g,0,none⟩) (ts.length+1) cap')).heap[w.heap.size+1]?=some (.cells #[iV 0,.string ⟨#[]⟩,.slice none 0 0] 67)):=(hgs.block _ (by omega) (by simp)).trans ((h56 _ (by omega) (hneA _ (by omega))).trans HZ1.o)
   have HTF:Hid ((w6.setCell ⟨w.heap.size+2,2,none⟩ (.slice (some ⟨g,0,none⟩) (ts.length+1) cap')).heap[w.heap.size]?=some (.cells #[iV T.v,.string T.nm,.slice (some ⟨bb,o,none⟩) T.len T.cap] 67)):=(hgs.block _ (by omega) (by simp)).trans ((h56 _ (by omega) (hneA _ (by omega))).trans HT0.o)
   have hszF:w.heap.size+3≤(w6.setCell ⟨w.heap.size+2,2,none⟩ (.slice (some ⟨g,0,none⟩) (ts.length+1) cap')).heap.size:=by have:=hgs.size;omega
   clear hgs hwr5 hB6 hL6 hneA h56 hs6;go_wp2_with fail;go_roundw
   case rel=>exact ⟨j+1,ts++ [X],_,by omega,by go_num,by rw[List.length_append,HTL.o];rfl,HLF.o,HCF.o,HZF.o,HTF.o,hszF,HBF.o⟩
   case measure=>simp[intOf];omega
theorem farw_all (T:Tm):FwC T:=by
 induction T with
 |nil=>intro far w hT;exact False.elim hT
 |mk v nm a len cap f ih=>
  by_cases hv:v=0
  ·exact farw_fn hv (fun i _=>ih i)
  ·exact farw_var hv
end Go.Proofs.YtmggaclaoefdaabGreat

namespace Go.Proofs.YtmggaclaoefdaabGreat
open Go.RowKit Go.Shelf
set_option linter.unusedVariables false
set_option linter.unusedSimpArgs false
attribute [local go_sem] Oper.semAt_some
theorem add0 (g j:Nat):(⟨g,0,none⟩:Addr).add j=⟨g,j,none⟩:=by unfold Addr.add;split <;> simp_all
theorem infoCpCell:(Tryz.prog.info? 81).map (fun i=>(i.zero,i.size,i.bytes))=some (some (.agg #[iV 0,iV 0,.string ByteArray.empty]),3,32):=by kernel_rfl
theorem eqCpCell (x:Option Addr) (n c:Nat) (w:World):(binOp .eql 25 (.slice x n c) (.slice none 0 0)).run Tryz.prog w=.ok (.bool x.isNone) w:=by
 cases x <;> kernel_rfl
theorem eqCpGCell (x:Option Addr) (n c:Nat) (w:World) (p q:Operand):(eqGuard .eql 25 p q (.slice x n c) (.slice none 0 0)).run Tryz.prog w=.ok () w:=by
 cases x <;> kernel_rfl
set_option maxHeartbeats 1000000 in
theorem cloneCell_any {lo n:Nat} {v:Value} {xs:List Value} (w:World) (h:w.ownsRow lo 81 3 v n xs) (h1: ∀u∈xs,u.oneCell'=true) (hl:n≤4000000):
 Calls Tryz.prog 76 #[v] w fun e w'=>∃v',e=.returned v'∧w'.ownsRow w.heap.size 81 3 v' n xs∧Below w.heap.size w w':=by
 obtain ⟨a,cap,rfl,hcp,hnone,hsome⟩:=row_nil h;have hq1:=fun W=>eqCpCell a n cap W
 have hq2:=fun W=>eqCpGCell a n cap W
 have hxl:=h.1
 cases a with
 |none=>
  obtain ⟨rfl,rfl⟩:=hnone rfl;obtain rfl:xs= []:=List.eq_nil_of_length_eq_zero (by omega)
  clear h h1 hnone hsome hxl
  go_enter Tryz.func76,Tryz.ntmps76
  go_wp2_with fail;go_ret;exact ⟨.slice none 0 0,rfl,World.ownsRow_nil _ _ _ _,Below.refl _ _⟩
 |some ad=>
  obtain ⟨g,rfl⟩:=hsome ad rfl;obtain ⟨i0,hi,hi0,hi1,hi2⟩:=info_parts infoCpCell;have HO:Hid ((w.alloc (.cells #[] 81)).ownsRow w.heap.size 81 3 (.slice (some ⟨w.heap.size,0,none⟩) 0 0) 0 []):=World.ownsRow_lit w #[] 0 (Nat.le_refl _) (by unfold maxLen;omega) rfl
  have HB:Hid (Below w.heap.size w (w.alloc (.cells #[] 81))):=(Below.refl _ _).alloc (Nat.le_refl _) _
  have HN:Hid (∀j u,xs[j]?=some u→(w.alloc (.cells #[] 81)).cell? ((⟨g,0,none⟩:Addr).add j)=some u):=fun j u hu=>by
   have hj:j<xs.length:=(List.getElem?_eq_some_iff.1 hu).1;have hc:=(h.cellAt j (by omega)).trans hu
   rw[add0];exact (HB.o.cell (p:=⟨g,j,none⟩) (lt_of_cell hc)).trans hc
  have HL:=hid hxl;have H1:=hid h1;clear h hxl h1 hnone hsome
  go_enter Tryz.func76,Tryz.ntmps76
  go_wp2_with (at_builtin;refine wpList_append_own_at _ rfl (.tmp 5) (.tmp 6) 25 rfl w.heap.size 81 i0 (.agg #[iV 0,iV 0,.string ByteArray.empty]) 3 32 Tryz.underlying25 hi hi0 hi1 hi2 rfl (by decide) (.slice (some ⟨w.heap.size,0,none⟩) 0 0) 0 [] rfl HO.o ⟨g,0,none⟩ n cap xs rfl HL.o HN.o H1.o (by unfold maxLen;omega) (by omega) (by simp) ?_;intro v' w6 hown' hgrow hnil hat)
  go_ret;refine ⟨v',rfl,?_,HB.o.grown hgrow (by simp) (fun k hk=>by have:w.heap.size=k:=Option.some.inj hk;omega)⟩
  simpa using hown'
theorem infoCpGoal:(Tryz.prog.info? 76).map (fun i=>(i.zero,i.size,i.bytes))=some (some (.agg #[iV 0,iV 0,iV 0]),3,24):=by kernel_rfl
theorem eqCpGoal (x:Option Addr) (n c:Nat) (w:World):(binOp .eql 26 (.slice x n c) (.slice none 0 0)).run Tryz.prog w=.ok (.bool x.isNone) w:=by
 cases x <;> kernel_rfl
theorem eqCpGGoal (x:Option Addr) (n c:Nat) (w:World) (p q:Operand):(eqGuard .eql 26 p q (.slice x n c) (.slice none 0 0)).run Tryz.prog w=.ok () w:=by
 cases x <;> kernel_rfl
set_option maxHeartbeats 1000000 in
theorem cloneGoal_any {lo n:Nat} {v:Value} {xs:List Value} (w:World) (h:w.ownsRow lo 76 3 v n xs) (h1: ∀u∈xs,u.oneCell'=true) (hl:n≤4000000):
 Calls Tryz.prog 77 #[v] w fun e w'=>∃v',e=.returned v'∧w'.ownsRow w.heap.size 76 3 v' n xs∧Below w.heap.size w w':=by
 obtain ⟨a,cap,rfl,hcp,hnone,hsome⟩:=row_nil h;have hq1:=fun W=>eqCpGoal a n cap W
 have hq2:=fun W=>eqCpGGoal a n cap W
 have hxl:=h.1
 cases a with
 |none=>
  obtain ⟨rfl,rfl⟩:=hnone rfl;obtain rfl:xs= []:=List.eq_nil_of_length_eq_zero (by omega)
  clear h h1 hnone hsome hxl
  go_enter Tryz.func77,Tryz.ntmps77
  go_wp2_with fail;go_ret;exact ⟨.slice none 0 0,rfl,World.ownsRow_nil _ _ _ _,Below.refl _ _⟩
 |some ad=>
  obtain ⟨g,rfl⟩:=hsome ad rfl;obtain ⟨i0,hi,hi0,hi1,hi2⟩:=info_parts infoCpGoal;have HO:Hid ((w.alloc (.cells #[] 76)).ownsRow w.heap.size 76 3 (.slice (some ⟨w.heap.size,0,none⟩) 0 0) 0 []):=World.ownsRow_lit w #[] 0 (Nat.le_refl _) (by unfold maxLen;omega) rfl
  have HB:Hid (Below w.heap.size w (w.alloc (.cells #[] 76))):=(Below.refl _ _).alloc (Nat.le_refl _) _
  have HN:Hid (∀j u,xs[j]?=some u→(w.alloc (.cells #[] 76)).cell? ((⟨g,0,none⟩:Addr).add j)=some u):=fun j u hu=>by
   have hj:j<xs.length:=(List.getElem?_eq_some_iff.1 hu).1;have hc:=(h.cellAt j (by omega)).trans hu
   rw[add0];exact (HB.o.cell (p:=⟨g,j,none⟩) (lt_of_cell hc)).trans hc
  have HL:=hid hxl;have H1:=hid h1;clear h hxl h1 hnone hsome
  go_enter Tryz.func77,Tryz.ntmps77
  go_wp2_with (at_builtin;refine wpList_append_own_at _ rfl (.tmp 5) (.tmp 6) 26 rfl w.heap.size 76 i0 (.agg #[iV 0,iV 0,iV 0]) 3 24 Tryz.underlying26 hi hi0 hi1 hi2 rfl (by decide) (.slice (some ⟨w.heap.size,0,none⟩) 0 0) 0 [] rfl HO.o ⟨g,0,none⟩ n cap xs rfl HL.o HN.o H1.o (by unfold maxLen;omega) (by omega) (by simp) ?_;intro v' w6 hown' hgrow hnil hat)
  go_ret;refine ⟨v',rfl,?_,HB.o.grown hgrow (by simp) (fun k hk=>by have:w.heap.size=k:=Option.some.inj hk;omega)⟩
  simpa using hown'
theorem infoCpChoice:(Tryz.prog.info? 78).map (fun i=>(i.zero,i.size,i.bytes))=some (some (.agg #[iV 0,iV 0,iV 0,iV 0,iV 0]),5,40):=by kernel_rfl
theorem eqCpChoice (x:Option Addr) (n c:Nat) (w:World):(binOp .eql 27 (.slice x n c) (.slice none 0 0)).run Tryz.prog w=.ok (.bool x.isNone) w:=by
 cases x <;> kernel_rfl
theorem eqCpGChoice (x:Option Addr) (n c:Nat) (w:World) (p q:Operand):(eqGuard .eql 27 p q (.slice x n c) (.slice none 0 0)).run Tryz.prog w=.ok () w:=by
 cases x <;> kernel_rfl
set_option maxHeartbeats 1000000 in
theorem cloneChoice_any {lo n:Nat} {v:Value} {xs:List Value} (w:World) (h:w.ownsRow lo 78 5 v n xs) (h1: ∀u∈xs,u.oneCell'=true) (hl:n≤4000000):
 Calls Tryz.prog 78 #[v] w fun e w'=>∃v',e=.returned v'∧w'.ownsRow w.heap.size 78 5 v' n xs∧Below w.heap.size w w':=by
 obtain ⟨a,cap,rfl,hcp,hnone,hsome⟩:=row_nil h;have hq1:=fun W=>eqCpChoice a n cap W
 have hq2:=fun W=>eqCpGChoice a n cap W
 have hxl:=h.1
 cases a with
 |none=>
  obtain ⟨rfl,rfl⟩:=hnone rfl;obtain rfl:xs= []:=List.eq_nil_of_length_eq_zero (by omega)
  clear h h1 hnone hsome hxl
  go_enter Tryz.func78,Tryz.ntmps78
  go_wp2_with fail;go_ret;exact ⟨.slice none 0 0,rfl,World.ownsRow_nil _ _ _ _,Below.refl _ _⟩
 |some ad=>
  obtain ⟨g,rfl⟩:=hsome ad rfl;obtain ⟨i0,hi,hi0,hi1,hi2⟩:=info_parts infoCpChoice;have HO:Hid ((w.alloc (.cells #[] 78)).ownsRow w.heap.size 78 5 (.slice (some ⟨w.heap.size,0,none⟩) 0 0) 0 []):=World.ownsRow_lit w #[] 0 (Nat.le_refl _) (by unfold maxLen;omega) rfl
  have HB:Hid (Below w.heap.size w (w.alloc (.cells #[] 78))):=(Below.refl _ _).alloc (Nat.le_refl _) _
  have HN:Hid (∀j u,xs[j]?=some u→(w.alloc (.cells #[] 78)).cell? ((⟨g,0,none⟩:Addr).add j)=some u):=fun j u hu=>by
   have hj:j<xs.length:=(List.getElem?_eq_some_iff.1 hu).1;have hc:=(h.cellAt j (by omega)).trans hu
   rw[add0];exact (HB.o.cell (p:=⟨g,j,none⟩) (lt_of_cell hc)).trans hc
  have HL:=hid hxl;have H1:=hid h1;clear h hxl h1 hnone hsome
  go_enter Tryz.func78,Tryz.ntmps78
  go_wp2_with (at_builtin;refine wpList_append_own_at _ rfl (.tmp 5) (.tmp 6) 27 rfl w.heap.size 78 i0 (.agg #[iV 0,iV 0,iV 0,iV 0,iV 0]) 5 40 Tryz.underlying27 hi hi0 hi1 hi2 rfl (by decide) (.slice (some ⟨w.heap.size,0,none⟩) 0 0) 0 [] rfl HO.o ⟨g,0,none⟩ n cap xs rfl HL.o HN.o H1.o (by unfold maxLen;omega) (by omega) (by simp) ?_;intro v' w6 hown' hgrow hnil hat)
  go_ret;refine ⟨v',rfl,?_,HB.o.grown hgrow (by simp) (fun k hk=>by have:w.heap.size=k:=Option.some.inj hk;omega)⟩
  simpa using hown'
theorem infoCpInt:(Tryz.prog.info? 3).map (fun i=>(i.zero,i.size,i.bytes))=some (some (iV 0),1,8):=by kernel_rfl
theorem eqCpInt (x:Option Addr) (n c:Nat) (w:World):(binOp .eql 28 (.slice x n c) (.slice none 0 0)).run Tryz.prog w=.ok (.bool x.isNone) w:=by
 cases x <;> kernel_rfl
theorem eqCpGInt (x:Option Addr) (n c:Nat) (w:World) (p q:Operand):(eqGuard .eql 28 p q (.slice x n c) (.slice none 0 0)).run Tryz.prog w=.ok () w:=by
 cases x <;> kernel_rfl
set_option maxHeartbeats 1000000 in
theorem cloneInt_any {lo n:Nat} {v:Value} {xs:List Value} (w:World) (h:w.ownsRow lo 3 1 v n xs) (h1: ∀u∈xs,u.oneCell'=true) (hl:n≤4000000):
 Calls Tryz.prog 79 #[v] w fun e w'=>∃v',e=.returned v'∧w'.ownsRow w.heap.size 3 1 v' n xs∧Below w.heap.size w w':=by
 obtain ⟨a,cap,rfl,hcp,hnone,hsome⟩:=row_nil h;have hq1:=fun W=>eqCpInt a n cap W
 have hq2:=fun W=>eqCpGInt a n cap W
 have hxl:=h.1
 cases a with
 |none=>
  obtain ⟨rfl,rfl⟩:=hnone rfl;obtain rfl:xs= []:=List.eq_nil_of_length_eq_zero (by omega)
  clear h h1 hnone hsome hxl
  go_enter Tryz.func79,Tryz.ntmps79
  go_wp2_with fail;go_ret;exact ⟨.slice none 0 0,rfl,World.ownsRow_nil _ _ _ _,Below.refl _ _⟩
 |some ad=>
  obtain ⟨g,rfl⟩:=hsome ad rfl;obtain ⟨i0,hi,hi0,hi1,hi2⟩:=info_parts infoCpInt;have HO:Hid ((w.alloc (.cells #[] 3)).ownsRow w.heap.size 3 1 (.slice (some ⟨w.heap.size,0,none⟩) 0 0) 0 []):=World.ownsRow_lit w #[] 0 (Nat.le_refl _) (by unfold maxLen;omega) rfl
  have HB:Hid (Below w.heap.size w (w.alloc (.cells #[] 3))):=(Below.refl _ _).alloc (Nat.le_refl _) _
  have HN:Hid (∀j u,xs[j]?=some u→(w.alloc (.cells #[] 3)).cell? ((⟨g,0,none⟩:Addr).add j)=some u):=fun j u hu=>by
   have hj:j<xs.length:=(List.getElem?_eq_some_iff.1 hu).1;have hc:=(h.cellAt j (by omega)).trans hu
   rw[add0];exact (HB.o.cell (p:=⟨g,j,none⟩) (lt_of_cell hc)).trans hc
  have HL:=hid hxl;have H1:=hid h1;clear h hxl h1 hnone hsome
  go_enter Tryz.func79,Tryz.ntmps79
  go_wp2_with (at_builtin;refine wpList_append_own_at _ rfl (.tmp 5) (.tmp 6) 28 rfl w.heap.size 3 i0 (iV 0) 1 8 Tryz.underlying28 hi hi0 hi1 hi2 rfl (by decide) (.slice (some ⟨w.heap.size,0,none⟩) 0 0) 0 [] rfl HO.o ⟨g,0,none⟩ n cap xs rfl HL.o HN.o H1.o (by unfold maxLen;omega) (by omega) (by simp) ?_;intro v' w6 hown' hgrow hnil hat)
  go_ret;refine ⟨v',rfl,?_,HB.o.grown hgrow (by simp) (fun k hk=>by have:w.heap.size=k:=Option.some.inj hk;omega)⟩
  simpa using hown'
theorem infoCpAnswer:(Tryz.prog.info? 87).map (fun i=>(i.zero,i.size,i.bytes))=some (some (.slice none 0 0),1,24):=by kernel_rfl
theorem eqCpAnswer (x:Option Addr) (n c:Nat) (w:World):(binOp .eql 29 (.slice x n c) (.slice none 0 0)).run Tryz.prog w=.ok (.bool x.isNone) w:=by
 cases x <;> kernel_rfl
theorem eqCpGAnswer (x:Option Addr) (n c:Nat) (w:World) (p q:Operand):(eqGuard .eql 29 p q (.slice x n c) (.slice none 0 0)).run Tryz.prog w=.ok () w:=by
 cases x <;> kernel_rfl
set_option maxHeartbeats 1000000 in
theorem cloneAnswer_any {lo n:Nat} {v:Value} {xs:List Value} (w:World) (h:w.ownsRow lo 87 1 v n xs) (h1: ∀u∈xs,u.oneCell'=true) (hl:n≤4000000):
 Calls Tryz.prog 80 #[v] w fun e w'=>∃v',e=.returned v'∧w'.ownsRow w.heap.size 87 1 v' n xs∧Below w.heap.size w w':=by
 obtain ⟨a,cap,rfl,hcp,hnone,hsome⟩:=row_nil h;have hq1:=fun W=>eqCpAnswer a n cap W
 have hq2:=fun W=>eqCpGAnswer a n cap W
 have hxl:=h.1
 cases a with
 |none=>
  obtain ⟨rfl,rfl⟩:=hnone rfl;obtain rfl:xs= []:=List.eq_nil_of_length_eq_zero (by omega)
  clear h h1 hnone hsome hxl
  go_enter Tryz.func80,Tryz.ntmps80
  go_wp2_with fail;go_ret;exact ⟨.slice none 0 0,rfl,World.ownsRow_nil _ _ _ _,Below.refl _ _⟩
 |some ad=>
  obtain ⟨g,rfl⟩:=hsome ad rfl;obtain ⟨i0,hi,hi0,hi1,hi2⟩:=info_parts infoCpAnswer;have HO:Hid ((w.alloc (.cells #[] 87)).ownsRow w.heap.size 87 1 (.slice (some ⟨w.heap.size,0,none⟩) 0 0) 0 []):=World.ownsRow_lit w #[] 0 (Nat.le_refl _) (by unfold maxLen;omega) rfl
  have HB:Hid (Below w.heap.size w (w.alloc (.cells #[] 87))):=(Below.refl _ _).alloc (Nat.le_refl _) _
  have HN:Hid (∀j u,xs[j]?=some u→(w.alloc (.cells #[] 87)).cell? ((⟨g,0,none⟩:Addr).add j)=some u):=fun j u hu=>by
   have hj:j<xs.length:=(List.getElem?_eq_some_iff.1 hu).1;have hc:=(h.cellAt j (by omega)).trans hu
   rw[add0];exact (HB.o.cell (p:=⟨g,j,none⟩) (lt_of_cell hc)).trans hc
  have HL:=hid hxl;have H1:=hid h1;clear h hxl h1 hnone hsome
  go_enter Tryz.func80,Tryz.ntmps80
  go_wp2_with (at_builtin;refine wpList_append_own_at _ rfl (.tmp 5) (.tmp 6) 29 rfl w.heap.size 87 i0 (.slice none 0 0) 1 24 Tryz.underlying29 hi hi0 hi1 hi2 rfl (by decide) (.slice (some ⟨w.heap.size,0,none⟩) 0 0) 0 [] rfl HO.o ⟨g,0,none⟩ n cap xs rfl HL.o HN.o H1.o (by unfold maxLen;omega) (by omega) (by simp) ?_;intro v' w6 hown' hgrow hnil hat)
  go_ret;refine ⟨v',rfl,?_,HB.o.grown hgrow (by simp) (fun k hk=>by have:w.heap.size=k:=Option.some.inj hk;omega)⟩
  simpa using hown'
theorem infoCpTerm:(Tryz.prog.info? 67).map (fun i=>(i.zero,i.size,i.bytes))=some (some (.agg #[iV 0,.string ByteArray.empty,.slice none 0 0]),3,48):=by kernel_rfl
theorem eqCpTerm (x:Option Addr) (n c:Nat) (w:World):(binOp .eql 24 (.slice x n c) (.slice none 0 0)).run Tryz.prog w=.ok (.bool x.isNone) w:=by
 cases x <;> kernel_rfl
theorem eqCpGTerm (x:Option Addr) (n c:Nat) (w:World) (p q:Operand):(eqGuard .eql 24 p q (.slice x n c) (.slice none 0 0)).run Tryz.prog w=.ok () w:=by
 cases x <;> kernel_rfl
end Go.Proofs.YtmggaclaoefdaabGreat

namespace Go.Proofs.YtmggaclaoefdaabGreat
open Go.RowKit Go.Shelf
set_option linter.unusedVariables false
set_option linter.unusedSimpArgs false
attribute [local go_sem] Oper.semAt_some
set_option maxRecDepth 100000 in
set_option maxHeartbeats 4000000 in
theorem croom_any (T:Tm): ∀(n d:Nat) (w:World),TIn w T→kids T≤n→kids T≤d→n≤44739242→d≤65536→
 Calls Tryz.prog 105 #[iV (n:Int),iV (d:Int),.slice T.a T.len T.cap] w fun e w'=>e=.returned (iV ((n-kids T:Nat):Int))∧Below w.heap.size w w':=by
 induction T with
 |nil=>intro n d w h;exact absurd h id
 |mk v nm a len cap f ih=>
  intro n d w hT hn hd hnB hdB;have HT:Hid (∀W,Below w.heap.size w W→∀i,i<len→RowAt W a i (f i)∧TIn W (f i)):=fun W hW i hi=>(hT.below hW).2.2 i hi
  have hlen:=hT.2.1;unfold maxLen at hlen
  have hln:len≤kids (.mk v nm a len cap f):=by
   have h1: ∀k,k≤sumTo (fun i=>cnt (f i)) k:=by
    intro k
    induction k with
    |zero=>exact Nat.zero_le _
    |succ k ihk=>show k+1≤sumTo _ k+cnt (f k);have:=cnt_eq (f k);omega
   exact h1 len
  have HK:Hid (kids (.mk v nm a len cap f)=sumTo (fun i=>cnt (f i)) len):=rfl
  have HKn:Hid (kids (.mk v nm a len cap f)≤n∧kids (.mk v nm a len cap f)≤d):=⟨hn,hd⟩;have HI:Hid (∀(i n d:Nat) (w:World),TIn w (f i)→kids (f i)≤n→kids (f i)≤d→n≤44739242→d≤65536→Calls Tryz.prog 105 #[iV (n:Int),iV (d:Int),.slice (f i).a (f i).len (f i).cap] w fun e w'=>e=.returned (iV ((n-kids (f i):Nat):Int))∧Below w.heap.size w w'):=fun i=>ih i
  show Calls _ _ #[iV (n:Int),iV (d:Int),.slice a len cap] _ _
  have hlI:(len:Int)≤44739242:=by omega
  clear hT ih hn hd
  go_enter Tryz.func105,Tryz.ntmps105
  go_wp2_with fail
  go_loopw [0,11] (fun x y wr=>∃i k:Nat,i≤len∧y=iV (i:Int)∧x=iV (k:Int)∧k+sumTo (fun i=>cnt (f i)) i=n∧Below w.heap.size w wr) (fun _ y _=>len-(intOf y).toNat)
  case atStart=>exact ⟨0,n,Nat.zero_le _,rfl,rfl,rfl,Below.refl _ _⟩
  case round=>
   obtain ⟨i,k,hi,rfl,rfl,hs,hb⟩:=hrel;have HB:=hid hb;have HS:=hid hs;have hkn:k≤n:=by omega
   clear hb hs
   by_cases hlt:i<len
   case neg=>
    have hI: ¬((i:Int)<(len:Int)):=by omega
    obtain rfl:i=len:=by omega
    go_wp2_with fail;go_ret;refine ⟨?_,HB.o⟩;have h1:=HS.o;rw[HK.o];rw[show n-sumTo (fun i=>cnt (f i)) i=k from by omega]
    rfl
   have hI:(i:Int)<(len:Int):=by omega
   obtain ⟨⟨b,o,rfl,c0,c1,c2⟩,hti⟩:=HT.o wr HB.o i hlt;have hstep:sumTo (fun i=>cnt (f i)) (i+1)=sumTo (fun i=>cnt (f i)) i+cnt (f i):=rfl
   have hle:=sumTo_le (fun i=>cnt (f i)) (show i+1≤len by omega)
   have hce:=cnt_eq (f i);obtain ⟨k',rfl⟩: ∃k',k=k'+1:=⟨k-1,by have:=HS.o;have:=HKn.o.1;have:=HK.o;omega⟩
   obtain ⟨d',rfl⟩: ∃d',d=d'+1:=⟨d-1,by have:=HKn.o.2;have:=HK.o;omega⟩
   have hq1:kids (f i)≤k':=by have:=HS.o;have:=HKn.o.1;have:=HK.o;omega
   have hq2:kids (f i)≤d':=by have:=HKn.o.2;have:=HK.o;omega
   have HBa:Hid (Below wr.heap.size wr (wr.alloc (.cells #[iV (f i).v,.string (f i).nm,.slice (f i).a (f i).len (f i).cap] 67))):=(Below.refl _ _).alloc (Nat.le_refl _) _;obtain ⟨a0,a1,a2,_⟩:=block_cells (heap_alloc_new wr (.cells #[iV (f i).v,.string (f i).nm,.slice (f i).a (f i).len (f i).cap] 67));have HC:=hid (HI.o i k' d' _ (hti.below HBa.o) hq1 hq2 (by omega) (by omega))
   have hz1:((k':Int)+1==0)=false:=beq_eq_false_iff_ne.2 (by omega)
   have hz2:((d':Int)+1==0)=false:=beq_eq_false_iff_ne.2 (by omega)
   have hz3:(k':Int)+1-1=(k':Int):=by omega
   have hz4:(d':Int)+1-1=(d':Int):=by omega
   obtain ⟨r,hr⟩: ∃r,r=k'-kids (f i):=⟨_,rfl⟩;have HR:Hid (r+sumTo (fun i=>cnt (f i)) (i+1)=n):=by rw[Hid];have:=HS.o;omega
   rw[←hr]at HC;have hr0: ¬((r:Int)<0):=by omega
   clear hstep hle hce hq1 hq2 hti hr;go_wp2_with fail;refine HC.o.mono ?_;rintro e w1 ⟨rfl,hb1⟩;have HB1:=hid (HB.o.trans ((HBa.o.trans (hb1.mono HBa.o.size)).mono HB.o.size));clear hb1 HC c0 c1 c2 a0 a1 a2;go_wp2_with fail;refine ⟨?_,?measure⟩
   ·(repeat apply Exists.intro)
    first|exact ⟨⟨i+1,r,by omega,by go_num,rfl,HR.o,HB1.o⟩,rfl⟩|exact ⟨⟨i+1,r,by omega,by go_num,rfl,HR.o,HB1.o⟩,rfl,rfl⟩|exact ⟨⟨i+1,r,by omega,by go_num,rfl,HR.o,HB1.o⟩,rfl,rfl,rfl⟩|exact ⟨⟨i+1,r,by omega,by go_num,rfl,HR.o,HB1.o⟩,rfl,rfl,rfl,rfl⟩|exact ⟨⟨i+1,r,by omega,by go_num,rfl,HR.o,HB1.o⟩,rfl,rfl,rfl,rfl,rfl⟩|exact ⟨⟨i+1,r,by omega,by go_num,rfl,HR.o,HB1.o⟩,rfl,rfl,rfl,rfl,rfl,rfl⟩|exact ⟨⟨i+1,r,by omega,by go_num,rfl,HR.o,HB1.o⟩,rfl,rfl,rfl,rfl,rfl,rfl,rfl⟩
   case measure=>simp[intOf];omega
end Go.Proofs.YtmggaclaoefdaabGreat

namespace Go.Proofs.YtmggaclaoefdaabGreat
open Go.RowKit Go.Shelf
set_option linter.unusedVariables false
set_option linter.unusedSimpArgs false
attribute [local go_sem] Oper.semAt_some
theorem owns_setA {w:World} {lo g cap n:Nat} {ts:List Tm} (h:w.ownsRow lo 67 3 (.slice (some ⟨g,0,none⟩) n cap) n (flat ts)) (hl:ts.length=n) {i:Nat} (hi:i<ts.length) (X:Tm) (hv:X.v=ts[i].v) (hn:X.nm=ts[i].nm):
 (w.setCell ⟨g,i*3+2,none⟩ (.slice X.a X.len X.cap)).ownsRow lo 67 3 (.slice (some ⟨g,0,none⟩) n cap) n (flat (ts.set i X)):=by
 have hf:=flat_get ts i hi
 have e1:(flat ts).set (i*3) (iV X.v)=flat ts:=by
  apply List.ext_getElem?
  intro j;rw[List.getElem?_set]
  by_cases e:i*3=j
  ·subst e
   rw[if_pos rfl,hf.1,hv];have:=(List.getElem?_eq_some_iff.1 hf.1).1;simp[this]
  ·rw[if_neg e]
 have e2:(flat ts).set (i*3+1) (.string X.nm)=flat ts:=by
  apply List.ext_getElem?
  intro j;rw[List.getElem?_set]
  by_cases e:i*3+1=j
  ·subst e
   rw[if_pos rfl,hf.2.1,hn];have:=(List.getElem?_eq_some_iff.1 hf.2.1).1;simp[this]
  ·rw[if_neg e]
 have e3:=flat_set X ts i hi;rw[e1,e2]at e3;obtain ⟨h1,h2⟩:=h
 rcases h2 with ⟨h2,_⟩| ⟨g',cap',cur,hv',hlo,hg,hnc,hcm,hsz,htk⟩
 ·cases h2
 cases hv';refine ⟨?_,.inr ⟨g,cap,cur.setIfInBounds (i*3+2) (.slice X.a X.len X.cap),rfl,hlo,?_,hnc,hcm,?_,?_⟩⟩
 ·rw[←e3];simp[h1]
 ·simp only[World.setCell,Array.getElem?_modify]
  simp[hg]
 ·simp[hsz]
 ·rw[←e3,←htk]
  simp[List.take_set]
theorem cloneArgs_any (T:Tm) (w:World) (hT:TIn w T) (hl:T.len≤1000000):
 Calls Tryz.prog 106 #[.slice T.a T.len T.cap] w fun e w'=>∃a cap,e=.returned (.slice a T.len cap)∧w'.ownsRow w.heap.size 67 3 (.slice a T.len cap) T.len (flat ((List.range T.len).map T.f))∧Below w.heap.size w w':=by
 cases T with
 |nil=>exact absurd hT id
 |mk v nm a n cap f=>
 show Calls _ _ #[.slice a n cap] _ fun e w'=>∃a cap,e=.returned (.slice a n cap)∧w'.ownsRow w.heap.size 67 3 (.slice a n cap) n (flat ((List.range n).map f))∧Below w.heap.size w w'
 have hl':n≤1000000:=hl;have hq1:=fun W=>eqCpTerm a n cap W
 have hq2:=fun W=>eqCpGTerm a n cap W
 cases a with
 |none=>
  have h0:n=0:=by
   by_cases e:n=0
   ·exact e
   ·obtain ⟨b,o,h,_⟩:=(hT.2.2 0 (by omega)).1
    cases h
  subst h0;clear hT hl hl'
  go_enter Tryz.func106,Tryz.ntmps106
  go_wp2_with fail;go_ret;exact ⟨none,0,rfl,World.ownsRow_nil _ _ _ _,Below.refl _ _⟩
 |some ad=>
  obtain ⟨i0,hi,hi0,hi1,hi2⟩:=info_parts infoCpTerm;have HO:Hid ((w.alloc (.cells #[] 67)).ownsRow w.heap.size 67 3 (.slice (some ⟨w.heap.size,0,none⟩) 0 0) 0 []):=World.ownsRow_lit w #[] 0 (Nat.le_refl _) (by unfold maxLen;omega) rfl
  have HB:Hid (Below w.heap.size w (w.alloc (.cells #[] 67))):=(Below.refl _ _).alloc (Nat.le_refl _) _;have HL:Hid ((flat ((List.range n).map f)).length=n*3):=by rw[Hid,flat_length];simp
  have HN:Hid (∀j u,(flat ((List.range n).map f))[j]?=some u→(w.alloc (.cells #[] 67)).cell? (ad.add j)=some u):=fun j u hu=>by
   have hj:j<n*3:=by have:=(List.getElem?_eq_some_iff.1 hu).1;have:=HL.o;omega
   obtain ⟨b,o,had,c0,c1,c2⟩:=((hT.below HB.o).2.2 (j / 3) (by omega)).1
   cases had;have hg:=flat_get ((List.range n).map f) (j / 3) (by simp;omega)
   simp only[List.getElem_map,List.getElem_range]at hg;have hadd:(⟨b,o,none⟩:Addr).add j=⟨b,o+j,none⟩:=by unfold Addr.add;split <;> simp_all
   rw[hadd]
   rcases (show j=j / 3*3∨j=j / 3*3+1∨j=j / 3*3+2 by omega)with e|e|e
   ·rw[e]at hu ⊢
    rw[hg.1]at hu;rw[←hu];exact c0
   ·rw[e]at hu ⊢
    rw[hg.2.1]at hu;rw[←hu];exact c1
   ·rw[e]at hu ⊢
    rw[hg.2.2]at hu;rw[←hu];exact c2
  have H1:Hid (∀u∈flat ((List.range n).map f),u.oneCell'=true):=fun u hu=>by
   obtain ⟨c,_,hc⟩:=List.mem_flatMap.1 hu;simp[cells3]at hc
   rcases hc with rfl|rfl|rfl <;> rfl
  clear hT
  go_enter Tryz.func106,Tryz.ntmps106
  go_wp2_with (at_builtin;refine wpList_append_own_at _ rfl (.tmp 5) (.tmp 6) 24 rfl w.heap.size 67 i0 (.agg #[iV 0,.string ByteArray.empty,.slice none 0 0]) 3 48 Tryz.underlying24 hi hi0 hi1 hi2 rfl (by decide) (.slice (some ⟨w.heap.size,0,none⟩) 0 0) 0 [] rfl HO.o ad n cap (flat ((List.range n).map f)) rfl HL.o HN.o H1.o (by unfold maxLen;omega) (by omega) (by simp) ?_;intro v' w6 hown' hgrow hnil hat)
  go_ret;have hown:w6.ownsRow w.heap.size 67 3 v' n (flat ((List.range n).map f)):=by simpa using hown'
  obtain ⟨a',cp',e',_⟩:=row_nil hown;subst e';exact ⟨a',cp',rfl,hown,HB.o.grown hgrow (by simp) (fun k hk=>by have:w.heap.size=k:=Option.some.inj hk;omega)⟩
end Go.Proofs.YtmggaclaoefdaabGreat
