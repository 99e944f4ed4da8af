/- Part of the proof. -/
import Derived.Laws.CopyRow
import Derived.Laws.CopyOwn
import Derived.Test.YtmggaclaoefdaabGreatGBU
namespace Go.Proofs.YtmggaclaoefdaabGreat
open Go.RowKit Go.Shelf Go.Proofs.Tryz
set_option linter.unusedVariables false
set_option linter.unusedSimpArgs false
set_option maxRecDepth 100000
set_option maxHeartbeats 8000000
section
attribute [local go_sem] Oper.semAt_some
def ie (n k:Nat):List Value:=List.replicate k (iV (-1))++List.replicate (n-k) (iV 0)
theorem C1 {n k:Nat} (h:k<=n):(ie n k).length=n:=by simp[ie];omega
theorem Hh {n k c:Nat} (h:k+c<=n):(ie n k).take k++List.replicate c (iV (-1))++(ie n k).drop (k+c)=ie n (k+c):=by
 have h1:(ie n k).take k=List.replicate k (iV (-1)):=by
  unfold ie;rw[List.take_append_of_le_length (by simp),List.take_of_length_le (by simp)]
 have h2:(ie n k).drop (k+c)=List.replicate (n-(k+c)) (iV 0):=by
  unfold ie;rw[List.drop_append];simp;omega
 rw[h1,h2,List.replicate_append_replicate]
 rfl
theorem Li (n:Nat):ie n n=List.replicate n (iV (-1)):=by simp[ie]
theorem Hi (n:Nat):ie n 0=List.replicate n (iV 0):=by simp[ie]
theorem Lh {n k j:Nat} (h:j<k):(ie n k)[j]?=some (iV (-1)):=by
 unfold ie;rw[List.getElem?_append_left (by simpa using h)]
 simp[h]
theorem G9 {P:Program} {ops:Array Oper} {o:Oper} {a:Act} {w:World} {K:Act->World->Prop} {Q:Exit->Act->World->Prop} {E:Prop}
 (hg:o.guard=none) (s x:Operand) (t:TypeId) (hop:o.op=Op.call { callee:=Callee.builtin Builtin.copy,args:= #[s,x],argTypes:= #[t,t]})
 (v u v':Value) (w':World) (hs:a.eval s=v) (hx:a.eval x=u) (hr:(Builtin.copy_ #[t,t] o.type #[v,u]).run P w=.ok v' w') (hK:K (a.put o.dst v') w'):
 if Region.wanted o (yielded ops a.tmps)=true then Oper.wp P o a w K Q else E:=by
 have hw:Region.wanted o (yielded ops a.tmps)=true:=by simp[Region.wanted,hg]
 rw[if_pos hw];unfold Oper.wp;simp[execOp,hop,resolve,invoke,builtin,hs,hx,hr,Result.andThen];exact hK
theorem Cf {W:World} {g n k l c:Nat} {a:Addr} {sc:Nat} (hk:k+c<=n) (hl:c=Nat.min l (n-k)) (hg:W.heap[g]?=some (.cells (ie n k).toArray 3)) (hs: ∀j,j<c->W.cell? (a.add j)=some (iV (-1))):
 (Builtin.copy_ #[28,28] 3 #[.slice (some ⟨g,k,none⟩) (n-k) (n-k),.slice (some a) l sc]).run prog W=.ok (goInt c) (W.setRow g (ie n (k+c)).toArray):=by
 obtain ⟨j0,hj,hj0,hj1,hj2⟩:=info_parts Tryz.info3
 have:=run_copy_row (P:=prog) W 28 28 3 3 g k (n-k) (n-k) a l sc (ie n k).toArray 3 (List.replicate c (iV (-1))) Tryz.underlying28 (by rw[hj];simp[hj1]) hg (by simp[hl]) (fun j v hv=>by
  rw[List.getElem?_replicate]at hv
  by_cases e:j<c
  ·rw[if_pos e]at hv
   rw[hs j e,<-hv]
  ·rw[if_neg e]at hv;cases hv) (by simp[C1 (lT (Nat.le_add_right k c) hk)];omega) (by intro v hv;rw[(List.mem_replicate.1 hv).2];rfl)
 rw[this];simp only[List.length_replicate];rw[Hh hk]
theorem Eg (n b:Nat) (hn:n<=400000) (w:World) (hb:w.cell? ⟨b,0,none⟩=some (iV (-1))):
 Calls prog 104 #[.slice (some ⟨b,0,none⟩) 1 1,iV (n:Int)] w fun e w'=>∃g,e=.returned (.slice (some ⟨g,0,none⟩) n n)/\w.heap.size<=g/\w'.heap[g]?=some (.cells (ie n n).toArray 3)/\Below w.heap.size w w':=by
 have HMu:Hid (∀W,Calls prog 133 #[.int .u64 1,.int .u64 n] W fun e w'=>e=.returned (.tuple #[.int .u64 0,.int .u64 n])/\w'=W):=fun W=>mul_one n (by omega) W
 have HBb:=hid hb;obtain ⟨j0,hj,hj0,hj1,hj2⟩:=info_parts Tryz.info3;clear hb
 go_enter Tryz.func104,Tryz.ntmps104
 go_wp2_with fail;refine (HMu.o _).mono ?_;rintro e w0 ⟨rfl,hw⟩;have hw':=hw.symm;clear hw;subst hw';go_wp2_with (at_make;refine wpList_make_full _ rfl _ _ 28 rfl w.heap.size 3 j0 (iV 0) 1 Tryz.underlying28 hj hj0 hj1 _ _ _ _ n rfl rfl rfl rfl (by rw[hj2];omega) (by unfold maxLen;omega) lZ ?_;intro w1 ho1 hg1;rw[P4 _ rfl]at ho1;have HO1:Hid (w1.ownsRow w.heap.size 3 1 (.slice (some ⟨w.heap.size,0,none⟩) n n) n ((List.range n).map fun _:Nat=>iV 0)):=ho1;have HB1:Hid (Below w.heap.size w w1):=⟨hg1.os,hg1.tape,hg1.output,hg1.size,fun k hk=>hg1.block k hk (by simp)⟩;clear ho1 hg1)
 have HG1:Hid (w1.heap[w.heap.size]?=some (.cells (ie n 0).toArray 3)):=by
  rw[Hid]
  rcases HO1.o.2 with ⟨h',_⟩| ⟨g',cap',cur,h',_,hg',_,_,hsz,htk⟩
  ·cases h'
  ·cases h'
   rw[hg',Hi]
   have e1:cur.toList=List.replicate n (iV 0):=by
    rw[List.take_of_length_le (by simp[hsz])]at htk
    rw[htk,List.map_const'];simp
   rw[<-e1]
 have hgs:w.heap.size<w1.heap.size:=(aZ HG1.o);have hb1:=(HB1.o.cell (p:=⟨b,0,none⟩) (ag HBb.o)).trans HBb.o;obtain ⟨c,hc⟩: ∃c,c=Nat.min 1 n:=⟨_,rfl⟩;have hcn:c<=n:=by rw[hc];exact Nat.min_le_right _ _
 have hc0:0<n->0<c:=fun h=>by rw[hc];exact Nat.le_min.2 ⟨lZ,h⟩
 have hcp:(Builtin.copy_ #[28,28] 3 #[.slice (some ⟨w.heap.size,0,none⟩) n n,.slice (some ⟨b,0,none⟩) 1 1]).run prog w1=.ok (iV (c:Int)) (w1.setRow w.heap.size (ie n c).toArray):=by
  have:=Cf (W:=w1) (g:=w.heap.size) (n:=n) (k:=0) (l:=1) (c:=c) (a:=⟨b,0,none⟩) (sc:=1) (by omega) hc HG1.o (fun j hj=>by
   have h9:c<=1:=by rw[hc];exact Nat.min_le_left _ _
   have e0:j=0:=by omega
   subst e0;exact hb1)
  rw[Nat.sub_zero,Nat.zero_add]at this;exact this
 have HG2:Hid ((w1.setRow w.heap.size (ie n c).toArray).heap[w.heap.size]?=some (.cells (ie n c).toArray 3)):=setRow_heap w1 _ _ _ _ _ HG1.o;have HB2:Hid (Below w.heap.size w (w1.setRow w.heap.size (ie n c).toArray)):=below_setRow HB1.o lZ _;have HC:=hid hc0;clear hc hc0 hb1;go_wp2_with fail;rw[hcp];generalize w1.setRow w.heap.size (ie n c).toArray=w2 at*;clear hcp;go_wp2_with fail
 go_loopw [8] (fun x wr=>∃k:Nat,k<=n/\x=iV (k:Int)/\(0<n->0<k)/\wr.heap[w.heap.size]?=some (.cells (ie n k).toArray 3)/\Below w.heap.size w wr) (fun x _=>n-(intOf x).toNat)
 case atStart=>exact ⟨c,hcn,rfl,HC.o,HG2.o,HB2.o⟩
 case round=>
  obtain ⟨k,hk,rfl,hk0,hg,hb⟩:=hrel;have HGr:=hid hg;have HBr:=hid hb;clear hg hb
  by_cases hlt:k<n
  case neg=>
   have hI: ¬((k:Int)<(n:Int)):=by omega
   obtain rfl:k=n:=by omega
   go_wp2_with fail;go_ret;exact ⟨w.heap.size,rfl,lZ,HGr.o,HBr.o⟩
  have hI:(k:Int)<(n:Int):=by omega
  have hkp:0<k:=hk0 (by omega)
  obtain ⟨d,hd⟩: ∃d,d=Nat.min k (n-k):=⟨_,rfl⟩;have hd1:d<=n-k:=by rw[hd];exact Nat.min_le_right _ _
  have hd2:d<=k:=by rw[hd];exact Nat.min_le_left _ _
  have hd0:0<d:=by rw[hd];exact Nat.le_min.2 ⟨hkp,by omega⟩
  have HCp:Hid (∀W,W.heap=wr.heap->(Builtin.copy_ #[28,28] 3 #[.slice (some ⟨w.heap.size,k,none⟩) (n-k) (n-k),.slice (some ⟨w.heap.size,0,none⟩) k n]).run prog W=.ok (iV (d:Int)) (W.setRow w.heap.size (ie n (k+d)).toArray)):=fun W hW=>by
   have hgW:W.heap[w.heap.size]?=some (.cells (ie n k).toArray 3):=by rw[hW];exact HGr.o
   refine Cf (W:=W) (g:=w.heap.size) (n:=n) (k:=k) (l:=k) (c:=d) (a:=⟨w.heap.size,0,none⟩) (sc:=n) (by omega) hd hgW (fun j hj=>?_)
   have hadd:(⟨w.heap.size,0,none⟩:Addr).add j=⟨w.heap.size,j,none⟩:=by unfold Addr.add;split <;> simp_all
   rw[hadd];have:=Lh (n:=n) (show j<k by omega)
   simp[World.cell?,hgW,this]
  have HFin:Hid (∀W,Below wr.heap.size wr W->W.heap=wr.heap->(W.setRow w.heap.size (ie n (k+d)).toArray).heap[w.heap.size]?=some (.cells (ie n (k+d)).toArray 3)/\Below w.heap.size w (W.setRow w.heap.size (ie n (k+d)).toArray)):=fun W hB hW=>⟨setRow_heap W _ _ _ _ _ (by rw[hW];exact HGr.o),below_setRow (HBr.o.trans (hB.mono HBr.o.size)) lZ _⟩
  have hnk: ¬n=k:=by omega
  have HWr:Hid (IntKind.i64.wrap ((k:Int)+(d:Int))=((k+d:Nat):Int)):=by rw[Hid];simp[IntKind.wrap,IntKind.bits,IntKind.signed];omega
  clear hd;go_wp2_with fail
  go_region_law (refine G9 rfl (.tmp 41) (.tmp 44) 28 rfl _ _ _ _ (by simp[Act.eval,Act.put,hnk]) (by simp[Act.eval,Act.put,hnk]) (HCp.o _ rfl) ?_)
  all_goals
   go_wp2_with fail;refine ⟨?_,?measure⟩
   ·(repeat apply Exists.intro)
    exact ⟨⟨k+d,by omega,by rw[<-HWr.o],fun _=>by omega,(HFin.o wr.drew (Below.drew bR) rfl).1,(HFin.o wr.drew (Below.drew bR) rfl).2⟩,rfl⟩
   case measure=>
    show n-(IntKind.i64.wrap ((k:Int)+(d:Int))).toNat<n-((k:Int)).toNat
    rw[HWr.o];omega
def lk (m:Mi):Nat->Nat->Int
 |0,_=> -1
 |k+1,j=>if m.t k=(j:Int)then (k:Int)else lk m k j
def Jm (m:Mi) (k:Nat):List Value:=(List.range m.hl).map fun j=>iV (lk m k j)
theorem Mb (m:Mi):Jm m 0=ie m.hl m.hl:=by
 rw[Li];unfold Jm;rw[show (fun j:Nat=>iV (lk m 0 j))=fun _:Nat=>iV (-1)from rfl,List.map_const']
 simp
theorem O0 {m:Mi} {k t:Nat} (ht:m.t k=(t:Int)):(Jm m k).set t (iV (k:Int))=Jm m (k+1):=by
 apply List.ext_getElem?
 intro j;rw[List.getElem?_set];unfold Jm
 by_cases e:t=j
 .subst e
  by_cases hl:t<m.hl
  .simp[hl,lk,ht]
  .simp[hl]
 .rw[if_neg e]
  by_cases hl:j<m.hl
  .simp[hl,lk,ht,show¬((t:Int)=(j:Int))from by omega]
  .simp[hl]
theorem Ga {m:Mi} {k j:Nat} (h:j<m.hl):(Jm m k)[j]?=some (iV (lk m k j)):=by simp[Jm,h]
theorem ww {m:Mi} (w:World) (hm:vv w m) (hl:m.hl<=400000) (ht: ∀i,i<m.tl->0<=m.t i/\m.t i<m.hl):
 Calls prog 70 #[.agg m.cells] w fun e w'=>∃g,e=.returned (.slice (some ⟨g,0,none⟩) m.hl m.hl)/\w.heap.size<=g/\w'.heap[g]?=some (.cells (Jm m m.tl).toArray 3)/\Below w.heap.size w w':=by
 have HX:Hid ((w.alloc (.cells m.cells 31)).heap[w.heap.size]?=some (.cells m.cells 31)):=hZ _ _;have HBa:Hid (Below w.heap.size w (w.alloc (.cells m.cells 31))):=bA;have HM:Hid (∀W,Below w.heap.size w W->vv W m):=fun W hW=>hm.below hW
 have HT:=hid ht;obtain ⟨hbg,hbc,hbt,hbq⟩:=hm.big;have hsz:w.heap.size<(w.alloc (.cells m.cells 31)).heap.size:=(aZ HX.o);clear hm ht
 go_enter Tryz.func70,Tryz.ntmps70
 rw[show Value.agg m.cells=.agg #[.slice m.ha m.hl m.hc,.slice m.ga m.gl m.gc,iV m.first,.slice m.ca m.cl m.cc,.slice m.ta m.tl m.tc,.slice m.qa m.ql m.qc,iV m.st,iV m.fin,.slice m.aa m.al m.ac]from rfl]
 have hW:w.alloc (.cells #[.slice m.ha m.hl m.hc,.slice m.ga m.gl m.gc,iV m.first,.slice m.ca m.cl m.cc,.slice m.ta m.tl m.tc,.slice m.qa m.ql m.qc,iV m.st,iV m.fin,.slice m.aa m.al m.ac] 31)=w.alloc (.cells m.cells 31):=rfl;generalize w.alloc (.cells m.cells 31)=wa at*;have HL:Hid ((wa.alloc (.cells #[iV (-1)] 3)).heap[wa.heap.size]?=some (.cells #[iV (-1)] 3)):=hZ _ _;have HBb:Hid (Below wa.heap.size wa (wa.alloc (.cells #[iV (-1)] 3))):=bA;have hW2:wa.alloc (.cells #[iV (-1)] 3)=wa.alloc (.cells #[iV (-1)] 3):=rfl;generalize hwb:wa.alloc (.cells #[iV (-1)] 3)=wb at*;have HXb:=hid ((HBb.o.block _ (by omega)).trans HX.o)
 have HBw:=hid (HBa.o.trans (HBb.o.mono HBa.o.size));have hsb:wa.heap.size<wb.heap.size:=(aZ HL.o);have HR:Hid (Calls prog 104 #[sZ wa.heap.size 1 1,iV (m.hl:Int)] wb fun e w'=>∃g,e=.returned (sZ g m.hl m.hl)/\wb.heap.size<=g/\w'.heap[g]?=some (.cells (ie m.hl m.hl).toArray 3)/\Below wb.heap.size wb w'):=Eg m.hl wa.heap.size hl wb (by have:=HL.o;simp[World.cell?,this])
 obtain ⟨⟨x0,_,_,_,_⟩,_⟩:=Mi.get HXb.o;go_wp2_with fail;clear hW hW2 hwb x0;refine HR.o.mono ?_;rintro e w1 ⟨g,rfl,hgs,hg1,hb1⟩;have HB1:=hid (HBw.o.trans (hb1.mono HBw.o.size));have HX1:=hid ((hb1.block _ (by omega)).trans HXb.o)
 have HG1:Hid (w1.heap[g]?=some (.cells (Jm m 0).toArray 3)):=by rw[Hid,Mb];exact hg1
 obtain ⟨⟨_,_,_,_,x4⟩,_⟩:=Mi.get HX1.o;clear hg1 hb1 HR;go_wp2_with fail;clear x4
 go_loopw [14] (fun x wr=>∃k:Nat,k<=m.tl/\x=iV (k:Int)/\wr.heap[g]?=some (.cells (Jm m k).toArray 3)/\Below w.heap.size w wr) (fun x _=>m.tl-(intOf x).toNat)
 case atStart=>exact ⟨0,oZ,rfl,HG1.o,HB1.o⟩
 case round=>
  obtain ⟨k,hk,rfl,hg,hb⟩:=hrel;have HGr:=hid hg;have HBr:=hid hb;clear hg hb
  by_cases hlt:k<m.tl
  case neg=>
   have hI: ¬((k:Int)<(m.tl:Int)):=by omega
   obtain rfl:k=m.tl:=by omega
   go_wp2_with fail;go_ret;exact ⟨g,rfl,by omega,HGr.o,HBr.o⟩
  have hI:(k:Int)<(m.tl:Int):=by omega
  obtain ⟨b,o,hta,c0⟩:=(HM.o wr HBr.o).t k hlt;obtain ⟨h1,h2⟩:=HT.o k hlt;obtain ⟨t,ht⟩: ∃t:Nat,m.t k=(t:Int):=⟨(m.t k).toNat,by omega⟩
  rw[hta];rw[ht]at c0;have htI:(t:Int)<(m.hl:Int):=by omega
  have hcl:wr.cell? (dZ g t)=some (iV (lk m k t)):=by
   have:=Ga (m:=m) (k:=k) (j:=t) (by omega)
   simp[World.cell?,HGr.o,this]
  have hfr:wr.frozen? (dZ g t)=false:=by simp[World.frozen?,HGr.o]
  have HFin:Hid ((wr.setCell (dZ g t) (iV (k:Int))).heap[g]?=some (.cells (Jm m (k+1)).toArray 3)/\Below w.heap.size w (wr.setCell (dZ g t) (iV (k:Int)))):=by
   refine ⟨?_,HBr.o.grown (af g t _) HBr.o.size (fun q e=>by have:=oj e;omega)⟩
   simp only[World.setCell,Array.getElem?_modify];simp only[HGr.o];rw[<-O0 ht];simp
  clear h1 h2;go_wp2_with fail;go_roundw
  case rel=>exact ⟨k+1,by omega,by go_num,HFin.o.1,HFin.o.2⟩
  case measure=>simp[intOf];omega
def LG (m:Mi) (i:Nat):Prop:=∃k,k<m.cl/\(m.c k).hp<=(m.g i).at_/\(i:Int)<(m.c k).gs
def LT (m:Mi) (i:Nat):Prop:=∃k,k<m.cl/\(m.c k).hp<=m.t i/\(i:Int)<(m.c k).tr
def LQ (m:Mi) (i:Nat):Prop:=∃k,k<m.cl/\(m.c k).hp<=m.q i
def LH (m:Mi) (j:Nat):Prop:=∃k,k<m.cl/\(m.c k).hp<=Dm (m.h j) j/\(j:Int)<(m.c k).hp/\lk m m.tl j<(m.c k).tr
def J4 (m:Mi):Prop:=(∃i,i<m.gl/\LG m i)\/(∃i,i<m.tl/\LT m i)\/(∃i,i<m.ql/\LQ m i)\/(∃j,j<m.hl/\LH m j)
theorem oi.up {m:Mi} {n:Int} (h:oi m n): ∀{j k:Nat},j<=k->k<m.cl->(m.c j).hp<=(m.c k).hp/\(m.c j).tr<=(m.c k).tr/\(m.c j).gs<=(m.c k).gs:=by
 intro j k
 induction k with
 |zero=>intro hj _;obtain rfl:j=0:=by omega
        omega
 |succ k ih=>
  intro hj hk
  by_cases e:j=k+1
  .subst e;omega
  .have h1:=ih (by omega) (by omega)
   have h2:=(h (k+1) hk);have a:=h2.h.1;have b:=h2.t.1;have c:=h2.g.1;simp only[je]at a b c;omega
theorem n9.of {m:Mi} {n at_:Int} {c:Ci} (h:n9 m at_ c) (hg:oi m n):(c=sj/\∀k,k<m.cl->at_<(m.c k).hp)\/∃r,r<m.cl/\c=m.c r/\(m.c r).hp<=at_/\∀k,k<m.cl->(m.c k).hp<=at_->k<=r:=by
 rcases h with ⟨r,h1,h2,h3,h4⟩| ⟨h1,h2⟩
 .refine .inr ⟨r,h1,h2,h3,fun k hk hle=>?_⟩
  by_cases e:k<=r
  .exact e
  .have:=h4 (by omega)
   have:=(hg.up (show r+1<=k by omega) hk).1
   omega
 .refine .inl ⟨h1,fun k hk=>?_⟩
  have:=h2 (by omega)
  have:=(hg.up (Nat.zero_le k) hk).1;omega
theorem Q2 {m:Mi} {n at_:Int} {c:Ci} (h:n9 m at_ c) (hg:oi m n) (i:Nat):(i:Int)<c.gs↔∃k,k<m.cl/\(m.c k).hp<=at_/\(i:Int)<(m.c k).gs:=by
 rcases h.of hg with ⟨rfl,h1⟩| ⟨r,hr,rfl,h1,h2⟩
 .refine ⟨fun e=>by simp only[sj]at e;omega,fun⟨k,hk,hle,_⟩=>by have:=h1 k hk;omega⟩
 .refine ⟨fun e=>⟨r,hr,h1,e⟩,fun⟨k,hk,hle,e⟩=>?_⟩
  have:=(hg.up (h2 k hk hle) hr).2.2;omega
theorem Q0 {m:Mi} {n at_:Int} {c:Ci} (h:n9 m at_ c) (hg:oi m n) (i:Nat):(i:Int)<c.tr↔∃k,k<m.cl/\(m.c k).hp<=at_/\(i:Int)<(m.c k).tr:=by
 rcases h.of hg with ⟨rfl,h1⟩| ⟨r,hr,rfl,h1,h2⟩
 .refine ⟨fun e=>by simp only[sj]at e;omega,fun⟨k,hk,hle,_⟩=>by have:=h1 k hk;omega⟩
 .refine ⟨fun e=>⟨r,hr,h1,e⟩,fun⟨k,hk,hle,e⟩=>?_⟩
  have:=(hg.up (h2 k hk hle) hr).2.1;omega
theorem Q1 {m:Mi} {n at_ l:Int} {c:Ci} (h:n9 m at_ c) (hg:oi m n) (j:Nat):((j:Int)<c.hp/\l<c.tr)↔∃k,k<m.cl/\(m.c k).hp<=at_/\(j:Int)<(m.c k).hp/\l<(m.c k).tr:=by
 rcases h.of hg with ⟨rfl,h1⟩| ⟨r,hr,rfl,h1,h2⟩
 .refine ⟨fun e=>by simp only[sj]at e;omega,fun⟨k,hk,hle,_⟩=>by have:=h1 k hk;omega⟩
 .refine ⟨fun e=>⟨r,hr,h1,e⟩,fun⟨k,hk,hle,e⟩=>?_⟩
  have:=hg.up (h2 k hk hle) hr;omega
theorem Qz {m:Mi} {n:Int} (hg:oi m n) (i:Nat):LQ m i↔0<m.cl/\(m.c 0).hp<=m.q i:=by
 refine ⟨fun ⟨k,hk,h⟩=>⟨by omega,?_⟩,fun⟨h0,h⟩=>⟨0,h0,h⟩⟩
 have:=(hg.up (Nat.zero_le k) hk).1;omega
theorem L9 {m:Mi} {n:Int} (w:World) (hm:vv w m) (hl:m.hl<=400000) (ht: ∀i,i<m.tl->0<=m.t i/\m.t i<m.hl) (hg:oi m n) (hf: ∀i,i<m.hl->(m.h i).k=2->0<=(m.h i).n/\(m.h i).n<=400000):
 Calls prog 36 #[.agg m.cells] w (BR (J4 m) w):=by
 have HX:Hid ((w.alloc (.cells m.cells 31)).heap[w.heap.size]?=some (.cells m.cells 31)):=hZ _ _;have HBa:Hid (Below w.heap.size w (w.alloc (.cells m.cells 31))):=bA;have HM:Hid (∀W,Below w.heap.size w W->vv W m):=fun W hW=>hm.below hW
 have HT:=hid ht;have HGw:=hid hg;have HF:=hid hf;obtain ⟨hbg,hbc,hbt,hbq⟩:=hm.big;have hsz:w.heap.size<(w.alloc (.cells m.cells 31)).heap.size:=(aZ HX.o);clear hm ht hg hf
 go_enter Tryz.func36,Tryz.ntmps36
 rw[show Value.agg m.cells=.agg #[.slice m.ha m.hl m.hc,.slice m.ga m.gl m.gc,iV m.first,.slice m.ca m.cl m.cc,.slice m.ta m.tl m.tc,.slice m.qa m.ql m.qc,iV m.st,iV m.fin,.slice m.aa m.al m.ac]from rfl]
 have hW:w.alloc (.cells #[.slice m.ha m.hl m.hc,.slice m.ga m.gl m.gc,iV m.first,.slice m.ca m.cl m.cc,.slice m.ta m.tl m.tc,.slice m.qa m.ql m.qc,iV m.st,iV m.fin,.slice m.aa m.al m.ac] 31)=w.alloc (.cells m.cells 31):=rfl;generalize w.alloc (.cells m.cells 31)=wa at*;have HXX:Hid (∀W,Below wa.heap.size wa W->W.heap[w.heap.size]?=some (.cells m.cells 31)/\vv W m/\Below w.heap.size w W):=fun W hW=>⟨(hW.block _ hsz).trans HX.o,HM.o W (HBa.o.trans (hW.mono HBa.o.size)),HBa.o.trans (hW.mono HBa.o.size)⟩
 have HLa:Hid (∀(at_:Int) (W:World),Below wa.heap.size wa W->Calls prog 67 #[iV at_,pZ w.heap.size] W fun e w'=>∃c:Ci,e=.returned (.agg c.cells)/\n9 m at_ c/\Below W.heap.size W w'):=fun at_ W hW=>Ik at_ W (HXX.o W hW).2.1 (HXX.o W hW).1
 obtain ⟨⟨_,x1,_,_,_⟩,_⟩:=Mi.get HX.o;have hmf: ∀(fn:Fn) (first cap:Array Value) (w:World),(Instr.makeFunc fn first cap).run prog w=.ok (.func fn first cap) w:=fun _ _ _ _=>rfl
 go_wp2_with fail;clear hW x1
 go_loopw [18] (fun x wr=>∃i:Nat,i<=m.gl/\x=iV (i:Int)/\(∀j,j<i->¬LG m j)/\Below wa.heap.size wa wr) (fun x _=>m.gl-(intOf x).toNat)
 case atStart=>exact ⟨0,oZ,rfl,fun j hj=>absurd hj (nL j),bR⟩
 obtain ⟨i,hi,rfl,hk,hb⟩:=hrel;have HK1:=hid hk;have HB:=hid hb;clear hk hb
 by_cases hil:i<m.gl
 case pos=>
  have hiI:(i:Int)<(m.gl:Int):=by omega
  obtain ⟨b,o,hga,c0,c1,c2⟩:=(HXX.o wr HB.o).2.1.g i hil;rw[hga];have HBg:Hid (Below wa.heap.size wa (wr.alloc (.cells #[iV (m.g i).at_,iV (m.g i).cut,iV (m.g i).nx] 76))):=HB.o.trans (bA.mono HB.o.size);obtain ⟨a0,a1,a2,_⟩:=ae (hZ wr (.cells #[iV (m.g i).at_,iV (m.g i).cut,iV (m.g i).nx] 76));go_wp2_with fail;refine (HLa.o (m.g i).at_ _ HBg.o).mono ?_;rintro e w1 ⟨c,rfl,hlk,hb1⟩;have HB1:=hid (HBg.o.trans (hb1.mono HBg.o.size));have HLk:=hid (Q2 hlk HGw.o i);rw[show Value.agg c.cells=.agg #[iV c.goal,iV c.cl,iV c.hp,iV c.tr,iV c.gs]from rfl]
  clear hlk hb1 c0 c1 c2 a0 a1 a2
  have hfl: ∀W,Sem.run prog (Instr.field 78 (.agg #[iV c.goal,iV c.cl,iV c.hp,iV c.tr,iV c.gs]) 4) W=.ok (iV c.gs) W:=fun W=>by
   simp[Instr.field,asAgg,go_sem,Tryz.underlying78]
  by_cases hc:(i:Int)<c.gs
  case pos=>
   have HN:=hid (HLk.o.1 hc);go_wp2_with fail;go_ret;exact ⟨true,rfl,⟨fun _=> .inl ⟨i,hil,HN.o⟩,fun _=>rfl⟩,(HXX.o _ HB1.o).2.2⟩
  have HK2:Hid (∀j,j<i+1->¬LG m j):=fun j hj=>by
   by_cases e:j<i
   .exact HK1.o j e
   .obtain rfl:j=i:=by omega
    exact fun h=>hc (HLk.o.2 h)
  go_wp2_with fail;go_roundw
  case rel=>exact ⟨i+1,by omega,by go_num,HK2.o,HB1.o⟩
  case measure=>simp[intOf];omega
 have hiI: ¬((i:Int)<(m.gl:Int)):=by omega
 obtain rfl:i=m.gl:=by omega
 obtain ⟨⟨_,_,_,_,x4⟩,_⟩:=Mi.get (HXX.o wr HB.o).1;go_wp2_with fail;clear x4 hil hiI
 go_loopw [34] (fun x wr=>∃i:Nat,i<=m.tl/\x=iV (i:Int)/\(∀j,j<i->¬LT m j)/\Below wa.heap.size wa wr) (fun x _=>m.tl-(intOf x).toNat)
 case atStart=>exact ⟨0,oZ,rfl,fun j hj=>absurd hj (nL j),HB.o⟩
 clear HB;obtain ⟨i,hi,rfl,hk,hb⟩:=hrel;have HK2:=hid hk;have HB:=hid hb;clear hk hb
 by_cases hil:i<m.tl
 case pos=>
  have hiI:(i:Int)<(m.tl:Int):=by omega
  obtain ⟨b,o,hga,c0⟩:=(HXX.o wr HB.o).2.1.t i hil;rw[hga];go_wp2_with fail;refine (HLa.o (m.t i) _ HB.o).mono ?_;rintro e w1 ⟨c,rfl,hlk,hb1⟩;have HB1:=hid (HB.o.trans (hb1.mono HB.o.size));have HLk:=hid (Q0 hlk HGw.o i);rw[show Value.agg c.cells=.agg #[iV c.goal,iV c.cl,iV c.hp,iV c.tr,iV c.gs]from rfl]
  clear hlk hb1 c0
  have hfl: ∀W,Sem.run prog (Instr.field 78 (.agg #[iV c.goal,iV c.cl,iV c.hp,iV c.tr,iV c.gs]) 3) W=.ok (iV c.tr) W:=fun W=>by
   simp[Instr.field,asAgg,go_sem,Tryz.underlying78]
  by_cases hc:(i:Int)<c.tr
  case pos=>
   have HN:=hid (HLk.o.1 hc);go_wp2_with fail;go_ret;exact ⟨true,rfl,⟨fun _=> .inr (.inl ⟨i,hil,HN.o⟩),fun _=>rfl⟩,(HXX.o _ HB1.o).2.2⟩
  have HK3:Hid (∀j,j<i+1->¬LT m j):=fun j hj=>by
   by_cases e:j<i
   .exact HK2.o j e
   .obtain rfl:j=i:=by omega
    exact fun h=>hc (HLk.o.2 h)
  go_wp2_with fail;go_roundw
  case rel=>exact ⟨i+1,by omega,by go_num,HK3.o,HB1.o⟩
  case measure=>simp[intOf];omega
 have hiI: ¬((i:Int)<(m.tl:Int)):=by omega
 obtain rfl:i=m.tl:=by omega
 obtain ⟨_,⟨x5,_⟩,_⟩:=Mi.get (HXX.o wr HB.o).1;go_wp2_with fail;clear x5 hil hiI
 go_loopw [49] (fun x wr=>∃i:Nat,i<=m.ql/\x=iV (i:Int)/\(∀j,j<i->¬LQ m j)/\Below wa.heap.size wa wr) (fun x _=>m.ql-(intOf x).toNat)
 case atStart=>exact ⟨0,oZ,rfl,fun j hj=>absurd hj (nL j),HB.o⟩
 clear HB;obtain ⟨i,hi,rfl,hk,hb⟩:=hrel;have HK3:=hid hk;have HB:=hid hb;clear hk hb
 by_cases hil:i<m.ql
 case pos=>
  have hiI:(i:Int)<(m.ql:Int):=by omega
  obtain ⟨b,o,hga,c0⟩:=(HXX.o wr HB.o).2.1.q i hil;rw[hga];have HLk:=hid (Qz HGw.o i);obtain ⟨⟨_,_,_,x3,_⟩,_⟩:=Mi.get (HXX.o wr HB.o).1
  by_cases h0:m.cl=0
  case pos=>
   have hI0: ¬((m.cl:Int)>0):=by omega
   have HK4:Hid (∀j,j<i+1->¬LQ m j):=fun j hj=>by
    by_cases e:j<i
    .exact HK3.o j e
    .obtain rfl:j=i:=by omega
     exact fun h=>by have:=(HLk.o.1 h).1;omega
   go_wp2_with fail;go_roundw
   case rel=>exact ⟨i+1,by omega,by go_num,HK4.o,HB.o⟩
   case measure=>simp[intOf];omega
  have hI0:(m.cl:Int)>0:=by omega
  obtain ⟨b',o',hca,k0,k1,k2,k3,k4⟩:=(HXX.o wr HB.o).2.1.c 0 (by omega)
  rw[hca]at x3
  by_cases hq:m.q i>=(m.c 0).hp
  case pos=>
   have HN:=hid (HLk.o.2 ⟨by omega,hq⟩)
   go_wp2_with fail;go_ret;exact ⟨true,rfl,⟨fun _=> rZ (.inl ⟨i,hil,HN.o⟩),fun _=>rfl⟩,(HXX.o _ HB.o).2.2⟩
  have HK4:Hid (∀j,j<i+1->¬LQ m j):=fun j hj=>by
   by_cases e:j<i
   .exact HK3.o j e
   .obtain rfl:j=i:=by omega
    exact fun h=>hq (HLk.o.1 h).2
  go_wp2_with fail;refine ⟨?_,?measure⟩
  .first
   |exact ⟨i+1,by omega,by go_num,HK4.o,HB.o⟩
   | ((repeat apply Exists.intro);exact ⟨⟨i+1,by omega,by go_num,HK4.o,HB.o⟩,rfl,rfl,rfl⟩)
  case measure=>simp[intOf];omega
 have hiI: ¬((i:Int)<(m.ql:Int)):=by omega
 obtain rfl:i=m.ql:=by omega
 obtain ⟨⟨y0,y1,y2,y3,y4⟩,⟨y5,y6,y7,y8⟩,_⟩:=Mi.get (HXX.o wr HB.o).1;have HLB:=hid (ww wr (HXX.o wr HB.o).2.1 hl HT.o);go_wp2_with fail;clear y0 y1 y2 y3 y4 y5 y6 y7 y8 hil hiI;refine HLB.o.mono ?_;rintro e w5 ⟨g,rfl,hgs,hg5,hb5⟩;have HB5:=hid (HB.o.trans (hb5.mono HB.o.size));have HG5:=hid hg5;have hs5:g<w5.heap.size:=(aZ hg5);obtain ⟨⟨y0,_⟩,_⟩:=Mi.get (HXX.o w5 HB5.o).1;clear hg5 hb5 HLB HB;go_wp2_with fail;clear y0
 go_loopw [72] (fun x wr=>∃i:Nat,i<=m.hl/\x=iV (i:Int)/\(∀j,j<i->¬LH m j)/\Below wa.heap.size wa wr/\Below w5.heap.size w5 wr) (fun x _=>m.hl-(intOf x).toNat)
 case atStart=>exact ⟨0,oZ,rfl,fun j hj=>absurd hj (nL j),HB5.o,bR⟩
 obtain ⟨i,hi,rfl,hk,hb,hb'⟩:=hrel;have HK4:=hid hk;have HB:=hid hb;have HBx:=hid hb';clear hk hb hb'
 by_cases hil:i<m.hl
 case neg=>
  have hiI: ¬((i:Int)<(m.hl:Int)):=by omega
  obtain rfl:i=m.hl:=by omega
  go_wp2_with fail;go_ret;refine ⟨false,rfl,⟨fun h=>(by cases h),fun h=>?_⟩,(HXX.o _ HB.o).2.2⟩
  exfalso
  rcases h with ⟨j,hj,h⟩| ⟨j,hj,h⟩| ⟨j,hj,h⟩| ⟨j,hj,h⟩
  .exact HK1.o j hj h
  .exact HK2.o j hj h
  .exact HK3.o j hj h
  .exact HK4.o j hj h
 have hiI:(i:Int)<(m.hl:Int):=by omega
 obtain ⟨b,o,hha,c0,c1,c2⟩:=(HXX.o wr HB.o).2.1.h.row i hil;rw[hha];have HCn:Hid ((wr.alloc (.cells #[iV (m.h i).k,iV (m.h i).n,.string (m.h i).nm] 81)).heap[wr.heap.size]?=some (.cells #[iV (m.h i).k,iV (m.h i).n,.string (m.h i).nm] 81)):=hZ _ _;have HBc:Hid (Below wr.heap.size wr (wr.alloc (.cells #[iV (m.h i).k,iV (m.h i).n,.string (m.h i).nm] 81))):=bA;have hWc:wr.alloc (.cells #[iV (m.h i).k,iV (m.h i).n,.string (m.h i).nm] 81)=wr.alloc (.cells #[iV (m.h i).k,iV (m.h i).n,.string (m.h i).nm] 81):=rfl;generalize hwc:wr.alloc (.cells #[iV (m.h i).k,iV (m.h i).n,.string (m.h i).nm] 81)=wc at*;obtain ⟨a0,a1,a2,_⟩:=ae HCn.o;have HBc1:=hid (HB.o.trans (HBc.o.mono HB.o.size));have HFu:Hid (Calls prog 71 #[.agg #[iV (m.h i).k,iV (m.h i).n,.string (m.h i).nm],iV (i:Int)] wc fun e w'=>e=.returned (iV (Dm (m.h i) i))/\Below wc.heap.size wc w'):=Aq (m.h i) i wc (fun h=>by have:=HF.o i hil h;omega)
 go_wp2_with fail;clear hWc hwc c0 c1 c2 a0 a1 a2;refine HFu.o.mono ?_;rintro e w6 ⟨rfl,hb6⟩;have HB6:=hid (HBc1.o.trans (hb6.mono HBc1.o.size));have HBx6:=hid (HBx.o.trans ((HBc.o.trans (hb6.mono HBc.o.size)).mono HBx.o.size));clear hb6 HFu;go_wp2_with fail;refine (HLa.o (Dm (m.h i) i) _ HB6.o).mono ?_;rintro e w7 ⟨c,rfl,hlk,hb7⟩;have HB7:=hid (HB6.o.trans (hb7.mono HB6.o.size));have HBx7:=hid (HBx6.o.trans (hb7.mono HBx6.o.size));have HLk:Hid (((i:Int)<c.hp/\lk m m.tl i<c.tr)↔LH m i):=Q1 hlk HGw.o i;rw[show Value.agg c.cells=.agg #[iV c.goal,iV c.cl,iV c.hp,iV c.tr,iV c.gs]from rfl]
 clear hlk hb7;have HCx:Hid ((w7.alloc (.cells c.cells 78)).heap[w7.heap.size]?=some (.cells c.cells 78)):=hZ _ _;have HBe:Hid (Below w7.heap.size w7 (w7.alloc (.cells c.cells 78))):=bA;have hW8:w7.alloc (.cells #[iV c.goal,iV c.cl,iV c.hp,iV c.tr,iV c.gs] 78)=w7.alloc (.cells c.cells 78):=rfl;generalize w7.alloc (.cells c.cells 78)=w8 at*;have HB8:=hid (HB7.o.trans (HBe.o.mono HB7.o.size));have HBx8:=hid (HBx7.o.trans (HBe.o.mono HBx7.o.size));have HG8:=hid ((HBx8.o.block _ hs5).trans HG5.o)
 have hbd:w8.cell? (dZ g i)=some (iV (lk m m.tl i)):=by
  have:=Ga (m:=m) (k:=m.tl) (j:=i) hil;simp[World.cell?,HG8.o,this]
 obtain ⟨⟨z0,z1,z2,z3,z4⟩,_⟩:=Ci.get HCx.o;go_wp2_with fail;clear hW8
 by_cases hc1:(i:Int)<c.hp
 case neg=>
  have hd:=decide_eq_false hc1
  have HK5:Hid (∀j,j<i+1->¬LH m j):=fun j hj=>by
   by_cases e:j<i
   .exact HK4.o j e
   .obtain rfl:j=i:=by omega
    exact fun h=>hc1 (HLk.o.2 h).1
  go_quiet (fail)
  have HB9:Hid (Below wa.heap.size wa (w8.drewN nq)/\Below w5.heap.size w5 (w8.drewN nq)):=⟨lq HB8.o nq,lq HBx8.o nq⟩;go_wp2_with fail;go_roundw
  case rel=>exact ⟨i+1,by omega,by go_num,HK5.o,HB9.o.1,HB9.o.2⟩
  case measure=>simp[intOf];omega
 have hd:=decide_eq_true hc1
 by_cases hc2:lk m m.tl i<c.tr
 case neg=>
  have hd2:=decide_eq_false hc2
  have HK5:Hid (∀j,j<i+1->¬LH m j):=fun j hj=>by
   by_cases e:j<i
   .exact HK4.o j e
   .obtain rfl:j=i:=by omega
    exact fun h=>hc2 (HLk.o.2 h).2
  go_quiet (fail)
  have HB9:Hid (Below wa.heap.size wa (w8.drewN nq)/\Below w5.heap.size w5 (w8.drewN nq)):=⟨lq HB8.o nq,lq HBx8.o nq⟩;go_wp2_with fail;go_roundw
  case rel=>exact ⟨i+1,by omega,by go_num,HK5.o,HB9.o.1,HB9.o.2⟩
  case measure=>simp[intOf];omega
 have hd2:=decide_eq_true hc2;have HN:=hid (HLk.o.1 ⟨hc1,hc2⟩)
 go_quiet (fail)
 have HB9:=hid (lq HB8.o nq);go_wp2_with fail;go_ret;exact ⟨true,rfl,⟨fun _=> rZ (.inr ⟨i,hil,HN.o⟩),fun _=>rfl⟩,(HXX.o _ HB9.o).2.2⟩
def Th (m:Mi) (n:Int):Prop:=Jy m/\oi m n/\¬J4 m
def Rq (m:Mi):Prop:=(0<=m.st/\m.st<=400)/\(0<=m.fin/\m.fin<=4)
def Qd (P:Pg) (m:Mi) (c:Int):Prop:=(ck P≠0/\c=ck P)\/(ck P=0/\((c≠0/\zi m c)\/(zi m 0/\((¬Th m P.len/\c=4)\/(Th m P.len/\((¬Rq m/\c=3)\/(Rq m/\c=0)))))))
theorem Qd.same {P:Pg} {m:Mi} {c c':Int} (H:Qd P m c) (H':Qd P m c'):c=c':=by
 rcases H with ⟨h1,h2⟩| ⟨h1,h2⟩ <;> rcases H' with ⟨k1,k2⟩| ⟨k1,k2⟩
 .omega
 .exact absurd k1 h1
 .exact absurd h1 k1
 .rcases h2 with ⟨h2,h3⟩| ⟨h2,h3⟩ <;> rcases k2 with ⟨k2,k3⟩| ⟨k2,k3⟩
  .exact h3.same k3
  .exact absurd (h3.same k2) h2
  .exact absurd (k3.same h2) k2
  .rcases h3 with ⟨h3,h4⟩| ⟨h3,h4⟩ <;> rcases k3 with ⟨k3,k4⟩| ⟨k3,k4⟩
   .omega
   .exact absurd k3 h3
   .exact absurd h3 k3
   .rcases h4 with ⟨h4,h5⟩| ⟨h4,h5⟩ <;> rcases k4 with ⟨k4,k5⟩| ⟨k4,k5⟩
    .omega
    .exact absurd k4 h4
    .exact absurd h4 k4
    .omega
theorem zi.zero {m:Mi} (H:zi m 0):HG m.h m.hl/\m.hl<=400000/\ii m=true:=by
 rcases H with ⟨h,_⟩| ⟨h1,h2⟩
 .exact absurd rfl h
 .refine ⟨h1.good.1,h1.good.2,?_⟩
  rcases h2 with ⟨_,h2⟩| ⟨_,⟨_,h2⟩| ⟨h2,_⟩⟩
  .cases h2
  .cases h2
  .exact h2
theorem ii.t {m:Mi} (H:ii m=true) (i:Nat) (hi:i<m.tl):0<=m.t i/\m.t i<m.hl:=by
 unfold ii at H;rw[Bool.and_eq_true,Bool.and_eq_true]at H;have:=dm.1 H.2.1 i hi;unfold fb at this;simp at this;omega
theorem vi (P:Pg) {m:Mi} (w:World) (hP:kg w P) (hm:vv w m) (hpc:P.len<=17592186043904):
 Calls prog 11 #[.slice P.a P.len P.cap,.agg m.cells] w fun e w'=>∃c:Int,e=.returned (iV c)/\Qd P m c/\Below w.heap.size w w':=by
 have HX:Hid ((w.alloc (.cells m.cells 31)).heap[w.heap.size]?=some (.cells m.cells 31)):=hZ _ _;have HBa:Hid (Below w.heap.size w (w.alloc (.cells m.cells 31))):=bA;have HM:Hid (∀W,Below w.heap.size w W->vv W m):=fun W hW=>hm.below hW
 have HP:Hid (∀W,Below w.heap.size w W->kg W P):=fun W hW=>hP.below hW
 have hsz:w.heap.size<(w.alloc (.cells m.cells 31)).heap.size:=(aZ HX.o);clear hm hP
 go_enter Tryz.func11,Tryz.ntmps11
 rw[show Value.agg m.cells=.agg #[.slice m.ha m.hl m.hc,.slice m.ga m.gl m.gc,iV m.first,.slice m.ca m.cl m.cc,.slice m.ta m.tl m.tc,.slice m.qa m.ql m.qc,iV m.st,iV m.fin,.slice m.aa m.al m.ac]from rfl]
 have hW:w.alloc (.cells #[.slice m.ha m.hl m.hc,.slice m.ga m.gl m.gc,iV m.first,.slice m.ca m.cl m.cc,.slice m.ta m.tl m.tc,.slice m.qa m.ql m.qc,iV m.st,iV m.fin,.slice m.aa m.al m.ac] 31)=w.alloc (.cells m.cells 31):=rfl;generalize w.alloc (.cells m.cells 31)=wa at*;have HXX:Hid (∀W,Below wa.heap.size wa W->W.heap[w.heap.size]?=some (.cells m.cells 31)/\vv W m/\Below w.heap.size w W):=fun W hW=>⟨(hW.block _ hsz).trans HX.o,HM.o W (HBa.o.trans (hW.mono HBa.o.size)),HBa.o.trans (hW.mono HBa.o.size)⟩
 have HK1:=hid (m7 P wa (HP.o wa HBa.o));go_wp2_with fail;clear hW;refine HK1.o.mono ?_;rintro e w1 ⟨rfl,hb1⟩;have HB1:=hid hb1;clear hb1 HK1
 by_cases hp0:ck P=0
 case neg=>
  have hpb:=bne_iff_ne.2 hp0;have HN:=hid hp0;clear hp0;go_wp2_with fail;go_ret;exact ⟨ck P,rfl,.inl ⟨HN.o,rfl⟩,(HXX.o _ HB1.o).2.2⟩
 have HP0:=hid hp0;rw[hp0];clear hp0;obtain ⟨⟨y0,y1,y2,y3,y4⟩,⟨y5,y6,y7,y8⟩,_⟩:=Mi.get (HXX.o w1 HB1.o).1;have HPa:=hid (En w1 (HXX.o w1 HB1.o).2.1);go_wp2_with fail;clear y0 y1 y2 y3 y4 y5 y6 y7 y8;refine HPa.o.mono ?_;rintro e w2 ⟨c,rfl,hpt,hb2⟩;have HB2:=hid (HB1.o.trans (hb2.mono HB1.o.size));have HPt:=hid hpt;clear hb2 HPa hpt
 by_cases hc0:c=0
 case neg=>
  have hcb:=bne_iff_ne.2 hc0;have HN:=hid hc0;clear hc0;go_wp2_with fail;go_ret;exact ⟨c,rfl,.inr ⟨HP0.o,.inl ⟨HN.o,HPt.o⟩⟩,(HXX.o _ HB2.o).2.2⟩
 subst hc0;have HZ:=hid HPt.o.zero;obtain ⟨⟨y0,y1,y2,y3,y4⟩,⟨y5,y6,y7,y8⟩,_⟩:=Mi.get (HXX.o w2 HB2.o).1;have HOr:=hid (C2 w2 (HXX.o w2 HB2.o).2.1);go_wp2_with fail;clear y0 y1 y2 y3 y4 y5 y6 y7 y8;refine HOr.o.mono ?_;rintro e w3 ⟨b1,rfl,hor,hb3⟩;have HB3:=hid (HB2.o.trans (hb3.mono HB2.o.size));have HO:=hid hor;clear hb3 HOr hor
 cases b1 with
 |false=>
  go_wp2_with fail;go_ret;exact ⟨4,rfl,.inr ⟨HP0.o,.inr ⟨HPt.o,.inl ⟨fun h=>(by cases HO.o.2 h.1),rfl⟩⟩⟩,(HXX.o _ HB3.o).2.2⟩
 |true=>
 obtain ⟨⟨y0,y1,y2,y3,y4⟩,⟨y5,y6,y7,y8⟩,_⟩:=Mi.get (HXX.o w3 HB3.o).1;have HGr:=hid (Io P.len w3 (HXX.o w3 HB3.o).2.1);go_wp2_with fail;clear y0 y1 y2 y3 y4 y5 y6 y7 y8;refine HGr.o.mono ?_;rintro e w4 ⟨b2,rfl,hgr,hb4⟩;have HB4:=hid (HB3.o.trans (hb4.mono HB3.o.size));have HG2:=hid hgr;clear hb4 HGr hgr
 cases b2 with
 |false=>
  go_wp2_with fail;go_ret;exact ⟨4,rfl,.inr ⟨HP0.o,.inr ⟨HPt.o,.inl ⟨fun h=>(by cases HG2.o.2 h.2.1),rfl⟩⟩⟩,(HXX.o _ HB4.o).2.2⟩
 |true=>
 obtain ⟨⟨y0,y1,y2,y3,y4⟩,⟨y5,y6,y7,y8⟩,_⟩:=Mi.get (HXX.o w4 HB4.o).1
 have HLo:Hid (Calls prog 36 #[.agg m.cells] w4 (BR (J4 m) w4)):=L9 w4 (HXX.o w4 HB4.o).2.1 HZ.o.2.1 (ii.t HZ.o.2.2) (HG2.o.1 (by trivial)) (fun i hi hk=>by
  have h1:=HZ.o.1.ok.n0 i hi;have h2:=HZ.o.1.ok.n4 i hi (by omega)
  omega)
 go_wp2_with fail;clear y0 y1 y2 y3 y4 y5 y6 y7 y8;refine HLo.o.mono ?_;rintro e w5 ⟨b3,rfl,hlo,hb5⟩;have HB5:=hid (HB4.o.trans (hb5.mono HB4.o.size));have HL:=hid hlo;clear hb5 HLo hlo
 cases b3 with
 |true=>
  go_wp2_with fail;go_ret;exact ⟨4,rfl,.inr ⟨HP0.o,.inr ⟨HPt.o,.inl ⟨fun h=>h.2.2 (HL.o.1 (by trivial)),rfl⟩⟩⟩,(HXX.o _ HB5.o).2.2⟩
 |false=>
 have HSt:Hid (Th m P.len):=⟨HO.o.1 (by trivial),HG2.o.1 (by trivial),fun h=>(by cases HL.o.2 h)⟩
 obtain ⟨_,⟨_,y6,y7,_⟩,_⟩:=Mi.get (HXX.o w5 HB5.o).1
 by_cases h1:0<=m.st/\m.st<=400
 case neg=>
  have HW1:Hid (∀W,Calls prog 37 #[iV m.st,iV 0,iV 400] W fun e w'=>e=.returned (.bool false)/\w'=W):=fun W=>dc (by simp;omega) W
  have HN:Hid (¬Rq m):=fun h=>h1 h.1
  clear h1;go_wp2_with fail;refine (HW1.o _).mono ?_;rintro e w6 ⟨rfl,hw⟩;have hw':=hw.symm;clear hw;subst hw';go_wp2_with fail;go_ret;exact ⟨3,rfl,.inr ⟨HP0.o,.inr ⟨HPt.o,.inr ⟨HSt.o,.inl ⟨HN.o,rfl⟩⟩⟩⟩,(HXX.o _ HB5.o).2.2⟩
 have HW1:Hid (∀W,Calls prog 37 #[iV m.st,iV 0,iV 400] W fun e w'=>e=.returned (.bool true)/\w'=W):=fun W=>dc (by simp;omega) W
 have H1:=hid h1;clear h1
 by_cases h2:0<=m.fin/\m.fin<=4
 case neg=>
  have HW2:Hid (∀W,Calls prog 37 #[iV m.fin,iV 0,iV 4] W fun e w'=>e=.returned (.bool false)/\w'=W):=fun W=>dc (by simp;omega) W
  have HN:Hid (¬Rq m):=fun h=>h2 h.2
  clear h2;go_wp2_with fail;refine (HW1.o _).mono ?_;rintro e w6 ⟨rfl,hw⟩;have hw':=hw.symm;clear hw;subst hw';go_wp2_with fail;refine (HW2.o _).mono ?_;rintro e w6 ⟨rfl,hw⟩;have hw':=hw.symm;clear hw;subst hw';go_wp2_with fail;go_ret;exact ⟨3,rfl,.inr ⟨HP0.o,.inr ⟨HPt.o,.inr ⟨HSt.o,.inl ⟨HN.o,rfl⟩⟩⟩⟩,(HXX.o _ HB5.o).2.2⟩
 have HW2:Hid (∀W,Calls prog 37 #[iV m.fin,iV 0,iV 4] W fun e w'=>e=.returned (.bool true)/\w'=W):=fun W=>dc (by simp;omega) W
 have HN:Hid (Rq m):=⟨H1.o,h2⟩;clear h2;go_wp2_with fail;refine (HW1.o _).mono ?_;rintro e w6 ⟨rfl,hw⟩;have hw':=hw.symm;clear hw;subst hw';go_wp2_with fail;refine (HW2.o _).mono ?_;rintro e w6 ⟨rfl,hw⟩;have hw':=hw.symm;clear hw;subst hw';go_wp2_with fail;go_ret;exact ⟨0,rfl,.inr ⟨HP0.o,.inr ⟨HPt.o,.inr ⟨HSt.o,.inr ⟨HN.o,rfl⟩⟩⟩⟩,(HXX.o _ HB5.o).2.2⟩
end
end Go.Proofs.YtmggaclaoefdaabGreat
