/- Part of the proof. -/
import Derived.Test.YtmggaclaoefdaabGreatSq0
import Derived.Test.YtmggaclaoefdaabGreatGAM
namespace Go.Proofs.YtmggaclaoefdaabGreat
open Go.RowKit
theorem made1 (z:Value) (hz:z.cells= #[z]) (n:Nat):(madeCells z.cells (n*1)).toList=(List.range n).map fun _:Nat=>z:=by
 rw[hz,Nat.mul_one,toList_madeCells_one];refine List.ext_getElem (by simp) fun i h1 h2=>?_
 simp
theorem Tryz.info28:(Tryz.prog.info? 28).map (fun i=>(i.zero,i.size,i.bytes))=some (some (.slice none 0 0),1,24):=by kernel_rfl
theorem IntsR.form {lo:Nat} {w:World} {v:Value} {l:List Nat} (h:IntsR lo w v l): ∃sa cp,v=.slice sa l.length cp∧∀k (hk:k<l.length),∃g,sa=some ⟨g,0,none⟩∧w.cell? ⟨g,k,none⟩=some (iV (l[k]:Int)):=by
 rcases h.2 with ⟨hv,h0⟩| ⟨g,cp,cur,hv,_⟩
 ·exact ⟨none,0,by rw[hv,h0],fun k hk=>by omega⟩
 ·refine ⟨some ⟨g,0,none⟩,cp,hv,fun k hk=>⟨g,rfl,?_⟩⟩
  have h':w.ownsRow lo 3 1 (.slice (some ⟨g,0,none⟩) l.length cp) l.length (l.map fun x:Nat=>iV (x:Int)):=hv▸h
  refine (h'.cellAt k (by omega)).trans ?_
  rw[List.getElem?_map,List.getElem?_eq_getElem hk]
  rfl
theorem IntsR.cell {lo:Nat} {w:World} {sa:Option Addr} {m cp:Nat} {l:List Nat} (h:IntsR lo w (.slice sa m cp) l) (k:Nat) (hk:k<l.length): ∃g,sa=some ⟨g,0,none⟩∧w.cell? ⟨g,k,none⟩=some (iV (l[k]:Int)):=by
 obtain ⟨sa',cp',e,hc⟩:=h.form;obtain ⟨e1,_,_⟩:=Value.slice.inj e;rw[e1];exact hc k hk
theorem range_get {α:Type} (f:Nat→α) (n i:Nat) (h:i<n):((List.range n).map f)[i]?=some (f i):=by simp[h]
theorem owns_froz {w:World} {lo g n cap:Nat} {t:TypeId} {s:Nat} {xs:List Value} (h:w.ownsRow lo t s (.slice (some ⟨g,0,none⟩) n cap) n xs) (i:Nat):w.frozen? ⟨g,i,none⟩=false:=by
 rcases h.2 with ⟨h',_⟩| ⟨g',cap',cur,h',_,hg',_⟩
 ·cases h'
 ·cases h';simp[World.frozen?,hg']
def leadB (h:Nat→Cl) (len x:Nat):List Nat:=if x<len then leads h x else []
theorem acy_leadB (h:Nat→Cl) (len:Nat):Acy len (leadB h len)↔Acy len (leads h):=by
 constructor
 ·rintro ⟨r,hr⟩
  exact ⟨r,fun x hx y hy=>hr x hx y (by unfold leadB;rw[if_pos hx];exact hy)⟩
 ·rintro ⟨r,hr⟩
  exact ⟨r,fun x hx y hy=>hr x hx y (by unfold leadB at hy;rw[if_pos hx]at hy;exact hy)⟩
structure HOk (h:Nat→Cl) (len:Nat):Prop where
 n0: ∀i,i<len→0≤(h i).n
 n4: ∀i,i<len→(h i).k≠1→(h i).n≤4
 inn: ∀i,i<len→∀y∈leads h i,y<len
 few:len≤400000
theorem HOk.four {h:Nat→Cl} {len:Nat} (H:HOk h len) (x:Nat):(leadB h len x).length≤4:=by
 unfold leadB
 by_cases hx:x<len
 ·rw[if_pos hx]
  unfold leads
  by_cases hk:(h x).k=1
  ·rw[if_pos hk]
   split <;> simp
  ·rw[if_neg hk,List.length_map,List.length_range]
   have:=H.n4 x hx hk;omega
 ·rw[if_neg hx];simp
theorem HOk.din {h:Nat→Cl} {len:Nat} (H:HOk h len): ∀x,x<len→∀y∈leadB h len x,y<len:=fun x hx y hy=>by
 unfold leadB at hy;rw[if_pos hx]at hy;exact H.inn x hx y hy
theorem KI.len {n:Nat} {deps rd:Nat→List Nat} {c:Nat→Int} {q:List Nat} {k:Nat} {ds:List Nat} (h:KI n deps rd c q k ds):q.length≤n:=by
 have:=List.Nodup.length_le_of_subset h.nd (fun x hx=>List.mem_range.2 (h.lt x hx):q ⊆ List.range n)
 rwa [List.length_range]at this
theorem KI.le4 {n:Nat} {deps rd:Nat→List Nat} {c:Nat→Int} {q:List Nat} {k:Nat} {ds:List Nat} (h:KI n deps rd c q k ds) (h4: ∀x,(deps x).length≤4) {x:Nat} (hx:x<n):c x≤4:=by
 rw[h.cn x hx];have h1:lft deps q k x≤(deps x).length:=List.length_filter_le _ _;have h2:=h4 x;omega
set_option maxRecDepth 100000 in
set_option maxHeartbeats 8000000 in
theorem straight_any {a:Option Addr} {len cap:Nat} {h:Nat→Cl} (w:World) (hh:HIn w a len h) (hok:HOk h len):
 Calls Tryz.prog 73 #[.slice a len cap] w fun e w'=>∃ok:Bool,e=.returned (.bool ok)∧(ok=true↔Acy len (leads h))∧Below w.heap.size w w':=by
 have HH:Hid (∀W,Below w.heap.size w W→HIn W a len h):=fun W hW=>hh.below hW
 have HOK:Hid (HOk h len):=hok;have hl4:len≤400000:=hok.few;clear hh hok;obtain ⟨i0,hi,hi0,hi1,hi2⟩:=info_parts Tryz.info3;obtain ⟨j0,hj,hj0,hj1,hj2⟩:=info_parts Tryz.info28
 go_enter Tryz.func73,Tryz.ntmps73
 have tok1:True:=trivial
 go_wp2_with (first
  | (at_make;have _t:=tok1;refine wpList_make_full _ rfl _ _ 28 rfl w.heap.size 3 i0 (iV 0) 1 Tryz.underlying28 hi hi0 hi1 _ _ _ _ len rfl rfl rfl rfl (by rw[hi2];omega) (by unfold maxLen;omega) (Nat.le_refl _) ?_
     intro w1 ho1 hg1;rw[made1 _ rfl]at ho1;have HO1:Hid (w1.ownsRow w.heap.size 3 1 (.slice (some ⟨w.heap.size,0,none⟩) len len) len ((List.range len).map fun _:Nat=>iV 0)):=ho1
     have HB1:Hid (Below w.heap.size w w1):=⟨hg1.os,hg1.tape,hg1.output,hg1.size,fun k hk=>hg1.block k hk (by simp)⟩
     clear ho1 hg1 tok1)
  | (at_make;refine wpList_make_full _ rfl _ _ 157 rfl w.heap.size 28 j0 (.slice none 0 0) 1 Tryz.underlying157 hj hj0 hj1 _ _ _ _ len rfl rfl rfl rfl (by rw[hj2];omega) (by unfold maxLen;omega) HB1.o.size ?_
     intro w2 ho2 hg2;rw[made1 _ rfl]at ho2;have HO2:Hid (w2.ownsRow w.heap.size 28 1 (.slice (some ⟨w1.heap.size,0,none⟩) len len) len ((List.range len).map fun _:Nat=>Value.slice none 0 0)):=ho2
     have HB2:Hid (Below w1.heap.size w1 w2):=⟨hg2.os,hg2.tape,hg2.output,hg2.size,fun k hk=>hg2.block k hk (by simp)⟩
     clear ho2 hg2))
 have hs1:w.heap.size<w1.heap.size:=(HO1.o.lt _ rfl).2;have hs2:w1.heap.size<w2.heap.size:=(HO2.o.lt _ rfl).2
 have HSM:Hid (StM w2 w.heap.size w.heap.size w1.heap.size len (fun _=>0) (fun _=> .slice none 0 0) (rd0 (leadB h len) 0)):=
  ⟨HO1.o.kept (grown_of_below HB2.o none) (.inr (fun e=>by cases e)),HO2.o,fun y hy=>World.ownsRow_nil _ _ _ _,fun y hy g hg=>(by cases hg),by omega⟩
 have HBw:Hid (Below w.heap.size w w2):=below_after HB1.o HB2.o;clear HO1 HO2 HB1 HB2;generalize hgf:w1.heap.size=gf at*;generalize hgl:w.heap.size=gl at*;clear hgf
 go_loopw [5] (fun x wr=>∃(i:Nat) (c:Nat→Int) (fv:Nat→Value),i≤len∧x=iV i∧StM wr gl gl gf len c fv (rd0 (leadB h len) i)∧(∀x,x<i→c x=((leadB h len x).length:Int))∧Below gl w wr) (fun x _=>len-(intOf x).toNat)
 case atStart=>exact ⟨0,_,_,Nat.zero_le _,rfl,HSM.o,fun x hx=>absurd hx (Nat.not_lt_zero x),HBw.o⟩
 case round=>
  obtain ⟨i,c,fv,hil,rfl,hSM,hc,hBr⟩:=hrel;have HS:Hid (StM wr gl gl gf len c fv (rd0 (leadB h len) i)):=hSM;have HC:Hid (∀x,x<i→c x=((leadB h len x).length:Int)):=hc;have HBr:Hid (Below gl w wr):=hBr;clear hSM hc hBr HSM HBw
  by_cases hlt:i<len
  case neg=>
   obtain rfl:i=len:=by omega
   have hSlt:=HS.o.lt;have hsr:gl≤wr.heap.size:=by omega
   have HG:=gr_of HOK.o.din;have HGr:Hid (Gr i (leadB h i) (rd0 (leadB h i) i)):=HG;have HFl:Hid (∀y,y<i→∀q,(fv y).ownBlock=some q→q<wr.heap.size):=fun y hy q hq=>(hSlt.2.2.2.2 y hy q hq).2
   have hgl1:gl<wr.heap.size∧gf<wr.heap.size:=⟨hSlt.1,hSlt.2.1⟩;clear hlt hSlt HG;generalize wr=W at*;go_wp2_with fail
   go_loopw [8,9] (fun v x wr=>∃j:Nat,j≤i∧x=iV j∧IntsR W.heap.size wr v ((List.range j).filter fun x=>decide (c x=0))∧Below W.heap.size W wr) (fun _ x _=>i-(intOf x).toNat)
   case atStart=>exact ⟨0,Nat.zero_le _,rfl,World.ownsRow_nil _ _ _ _,Below.refl _ _⟩
   case round=>
    obtain ⟨j,hji,rfl,hV,hBr⟩:=hrel;have HV:Hid (IntsR W.heap.size wr u8 ((List.range j).filter fun x=>decide (c x=0))):=hV
    have HBr2:Hid (Below W.heap.size W wr):=hBr;have hsW:=hBr.size;clear hV hBr
    by_cases hlt:j<i
    case neg=>
     obtain rfl:j=i:=by omega
     have HK:Hid (KI j (leadB h j) (rd0 (leadB h j) j) c ((List.range j).filter fun x=>decide (c x=0)) 0 []):=KI.start HC.o
     have HSw:Hid (StM wr gl gl gf j c fv (rd0 (leadB h j) j)):=HS.o.below HBr2.o;have HBw2:Hid (Below gl w wr):=HBr.o.trans (HBr2.o.mono hsr);have HAc:Hid (Acy j (leadB h j)↔Acy j (leads h)):=acy_leadB h j;have HF4:Hid (∀x,(leadB h j x).length≤4):=HOK.o.four;generalize ((List.range j).filter fun x=>decide (c x=0))=q0 at HV HK
     generalize hlw:W.heap.size=lw at*;go_wp2_with fail;clear HBr2 hsW HS HC HBr
     go_loopw [8,10] (fun v x wr=>∃(k:Nat) (c2:Nat→Int) (q:List Nat),x=iV k∧KI j (leadB h j) (rd0 (leadB h j) j) c2 q k []∧StM wr gl gl gf j c2 fv (rd0 (leadB h j) j)∧IntsR lw wr v q∧Below gl w wr) (fun _ x _=>j-(intOf x).toNat)
     case atStart=>exact ⟨0,c,q0,rfl,HK.o,HSw.o,HV.o,HBw2.o⟩
     case round=>
      obtain ⟨k,c2,q,rfl,hK,hS,hV,hB⟩:=hrel;have HK2:Hid (KI j (leadB h j) (rd0 (leadB h j) j) c2 q k []):=hK;have HS2:Hid (StM wr gl gl gf j c2 fv (rd0 (leadB h j) j)):=hS;have HV2:Hid (IntsR lw wr u8 q):=hV;have HB2:Hid (Below gl w wr):=hB;have hql:=hK.len;have hkq:=hK.kle;obtain ⟨va,vc,hv8,_⟩:=hV.form;subst hv8;clear hK hS hV hB HK HSw HV HBw2
      by_cases hk:k<q.length
      case neg=>
       have hdk:decide ((k:Int)<(q.length:Int))=false:=decide_eq_false (by omega)
       have HD:Hid (q.length=j↔Acy j (leads h)):=(HK2.o.done HGr.o (by omega)).trans HAc.o
       go_wp2_with fail;go_ret;refine ⟨_,rfl,?_,by rw[hgl];exact HB2.o⟩
       rw[←HD.o];simp;omega
      have hkI:(k:Int)<(q.length:Int):=by omega
      obtain ⟨gq,hva,cq⟩:=HV2.o.cell k hk;subst hva;have hyj:q[k]<j:=HK2.o.lt _ (List.getElem_mem hk);generalize hy:q[k]=y at*;have Hy:Hid (q[k]=y):=hy;clear hy;have hyI:(y:Int)<(j:Int):=by omega
      have cf:=HS2.o.frm.cellAt y (by omega)
      rw[range_get _ _ _ hyj]at cf;obtain ⟨sa,cp,hfy,hfc⟩:=(HS2.o.lst y hyj).form;clear hfc;rw[hfy]at cf;have HFy:Hid (fv y=.slice sa (rd0 (leadB h j) j y).length cp):=hfy;have hrl:(rd0 (leadB h j) j y).length≤1600000:=by have:=rd0_len (leadB h j) HF4.o y j;omega
      generalize hm:(rd0 (leadB h j) j y).length=m at*;clear hfy;go_wp2_with fail
      go_loopw [8,12] (fun v x wr=>∃(n:Nat) (c2:Nat→Int) (q:List Nat) (hkq:k<q.length),n≤m∧x=iV n∧q[k]=y∧KI j (leadB h j) (rd0 (leadB h j) j) c2 q k ((rd0 (leadB h j) j y).take n)∧StM wr gl gl gf j c2 fv (rd0 (leadB h j) j)∧IntsR lw wr v q∧Below gl w wr) (fun _ x _=>m-(intOf x).toNat)
      case atStart=>exact ⟨0,c2,q,hk,Nat.zero_le _,rfl,Hy.o,HK2.o,HS2.o,HV2.o,HB2.o⟩
      case round=>
       obtain ⟨n,c3,q3,hk3,hnm,rfl,hy3,hK,hS,hV,hB⟩:=hrel;have HK3:Hid (KI j (leadB h j) (rd0 (leadB h j) j) c3 q3 k ((rd0 (leadB h j) j y).take n)):=hK;have HS3:Hid (StM wr gl gl gf j c3 fv (rd0 (leadB h j) j)):=hS;have HV3:Hid (IntsR lw wr u8 q3):=hV;have HB3:Hid (Below gl w wr):=hB;have Hy3:Hid (q3[k]=y):=hy3;have hq3:=hK.len;clear hK hS hV hB hy3 cq cf
       by_cases hn:n<m
       case neg=>
        obtain rfl:n=m:=by omega
        have HKn:Hid (KI j (leadB h j) (rd0 (leadB h j) j) c3 q3 (k+1) []):=by
         have h1:=HK3.o;rw[←hm,List.take_length,←Hy3.o]at h1;exact h1.next HGr.o hk3
        have hdn:decide ((n:Int)<(n:Int))=false:=decide_eq_false (by omega)
        go_wp2_with fail;go_roundw
        case rel=>exact ⟨k+1,c3,q3,by go_num,HKn.o,HS3.o,HV3.o,HB3.o⟩
        case measure=>simp[intOf];omega
       have hnl:n<(rd0 (leadB h j) j y).length:=by omega
       have hFL:IntsR gl wr (.slice sa m cp) (rd0 (leadB h j) j y):=by
        have:=HS3.o.lst y hyj;rw[HFy.o]at this;exact this
       obtain ⟨gy,hsa,cy⟩:=hFL.cell n hnl;subst hsa
       have hgyd:gy≠gl∧gy≠gf:=by
        have:=HS3.o.dis y hyj gy (by rw[HFy.o];rfl)
        exact ⟨this.1,this.2.1⟩
       have hspl:rd0 (leadB h j) j q3[k]=(rd0 (leadB h j) j y).take n++(rd0 (leadB h j) j y)[n]::(rd0 (leadB h j) j y).drop (n+1):=by
        rw[Hy3.o,←List.drop_eq_getElem_cons hnl,List.take_append_drop]
       obtain ⟨hxj,hc1,hst1,hst2⟩:=KI.step HGr.o hk3 hspl HK3.o;have hc4:=HK3.o.le4 HF4.o hxj;have htk:(rd0 (leadB h j) j y).take (n+1)=(rd0 (leadB h j) j y).take n++ [(rd0 (leadB h j) j y)[n]]:=List.take_succ_eq_append_getElem hnl;rw[←htk]at hst1 hst2;generalize (rd0 (leadB h j) j y)[n]=x at*;clear hspl htk hFL;have hnI:(n:Int)<(m:Int):=by omega
       have hxI:(x:Int)<(j:Int):=by omega
       have cl:=HS3.o.left.cellAt x (by omega)
       rw[range_get _ _ _ hxj]at cl;have fl:=owns_froz HS3.o.left x;have hwp:IntKind.i64.wrap (c3 x-1)=c3 x-1:=by simp[IntKind.wrap,IntKind.bits,IntKind.signed];omega
       have HS4:Hid (StM (wr.setCell ⟨gl,x,none⟩ (iV (c3 x-1))) gl gl gf j (fun i=>if i=x then c3 i-1 else c3 i) fv (rd0 (leadB h j) j)):=by
        have h1:=HS3.o.setL x (c3 x-1)
        have e:(fun i=>if i=x then c3 x-1 else c3 i)=fun i=>if i=x then c3 i-1 else c3 i:=by
         funext i
         by_cases e:i=x
         ·rw[if_pos e,if_pos e,e]
         ·rw[if_neg e,if_neg e]
        rw[e]at h1;exact h1
       have HV4:Hid (IntsR lw (wr.setCell ⟨gl,x,none⟩ (iV (c3 x-1))) u8 q3):=HV3.o.kept (grown_set gl x _) (by
        cases hq:u8.ownBlock with
        |none=>exact .inl rfl
        |some g'=>exact .inr (fun e=>by have h1:=(World.ownsRow.lt HV3.o g' hq).1;have h2:=Option.some.inj e;omega))
       have HB4:Hid (Below gl w (wr.setCell ⟨gl,x,none⟩ (iV (c3 x-1)))):=by
        have h1:=HB3.o;rw[←hgl]at h1 ⊢;exact below_set h1 (Nat.le_refl _)
       have hswr:(wr.setCell ⟨gl,x,none⟩ (iV (c3 x-1))).heap.size=wr.heap.size:=by simp[World.setCell]
       have hlwr:lw≤wr.heap.size:=by
        rcases HV3.o.2 with ⟨_,h1⟩| ⟨g',cp',cur,h1,h2,_⟩
        ·omega
        ·have:=(World.ownsRow.lt HV3.o g' (by rw[h1];rfl)).2;omega
       by_cases hc:c3 x=1
       ·have hcb:(c3 x-1==0)=true:=beq_iff_eq.2 (by omega)
        have HK5:Hid (KI j (leadB h j) (rd0 (leadB h j) j) (fun i=>if i=x then c3 i-1 else c3 i) (q3++ [x]) k ((rd0 (leadB h j) j y).take (n+1))):=hst1 hc
        have Ba:Below (wr.setCell ⟨gl,x,none⟩ (iV (c3 x-1))).heap.size (wr.setCell ⟨gl,x,none⟩ (iV (c3 x-1))) ((wr.setCell ⟨gl,x,none⟩ (iV (c3 x-1))).alloc (.cells #[iV (x:Int)] 3)):=(Below.refl _ _).alloc (Nat.le_refl _) _;have HSa:Hid (StM ((wr.setCell ⟨gl,x,none⟩ (iV (c3 x-1))).alloc (.cells #[iV (x:Int)] 3)) gl gl gf j (fun i=>if i=x then c3 i-1 else c3 i) fv (rd0 (leadB h j) j)):=HS4.o.below Ba
        have HVa:Hid (IntsR lw ((wr.setCell ⟨gl,x,none⟩ (iV (c3 x-1))).alloc (.cells #[iV (x:Int)] 3)) u8 q3):=HV4.o.below Ba;have HBa:Hid (Below gl w ((wr.setCell ⟨gl,x,none⟩ (iV (c3 x-1))).alloc (.cells #[iV (x:Int)] 3))):=HB4.o.alloc (by rw[hswr];omega) _
        have hsa:lw≤((wr.setCell ⟨gl,x,none⟩ (iV (c3 x-1))).alloc (.cells #[iV (x:Int)] 3)).heap.size:=by simp;omega
        have hcy:(wr.setCell ⟨gl,x,none⟩ (iV (c3 x-1))).cell? ⟨gy,n,none⟩=some (iV (x:Int)):=(grown_set (W:=wr) gl x (iV (c3 x-1))).cell cy (fun e=>hgyd.1 (Option.some.inj e))
        have HNc:Hid (∀t u,[iV (x:Int)][t]?=some u→((wr.setCell ⟨gl,x,none⟩ (iV (c3 x-1))).alloc (.cells #[iV (x:Int)] 3)).cell? ((⟨wr.heap.size,0,none⟩:Addr).add t)=some u):=by
         have:=cell_one_new (wr.setCell ⟨gl,x,none⟩ (iV (c3 x-1))) (iV (x:Int)) 3;rw[hswr]at this;exact this
        clear hst1 hst2 hc Ba;go_wp2_with (at_builtin;refine wpList_append_own_at _ rfl (.tmp 106) (.tmp 111) 28 rfl lw 3 i0 (iV 0) 1 8 Tryz.underlying28 hi hi0 hi1 hi2 rfl (by decide) u8 _ _ rfl HVa.o ⟨wr.heap.size,0,none⟩ 1 1 [iV (x:Int)] rfl rfl HNc.o (by simp[Value.oneCell']) (by unfold maxLen;omega) (by omega) hsa ?_;intro v' w6 hown' hgrow hnil hat)
        have HB6:Hid (Below gl w w6):=HBa.o.grown hgrow (by omega) (fun q hq=>by have:=(World.ownsRow.lt HVa.o q hq).1;omega)
        have HV6:Hid (IntsR lw w6 v' (q3++ [x])):=by
         rw[Hid];unfold IntsR;rw[List.length_append,List.map_append];exact hown'
        have hne6: ∀g',g'<lw→some g'≠u8.ownBlock:=fun g' hg' e=>by have:=(World.ownsRow.lt HVa.o g' e.symm).1;omega
        have HS6:Hid (StM w6 gl gl gf j (fun i=>if i=x then c3 i-1 else c3 i) fv (rd0 (leadB h j) j)):=⟨HSa.o.left.kept hgrow (.inr (hne6 gl (by omega))),HSa.o.frm.kept hgrow (.inr (hne6 gf (by omega))),fun z hz=>(HSa.o.lst z hz).kept hgrow (by
         cases hq:(fv z).ownBlock with
         |none=>exact .inl rfl
         |some g'=>exact .inr (hne6 g' (HFl.o z hz g' hq))),HSa.o.dis,HSa.o.ne⟩
        have hk4:k<(q3++ [x]).length:=by simp;omega
        have HY6:Hid ((q3++ [x])[k]=y):=by rw[Hid,List.getElem_append_left hk3];exact Hy3.o
        clear hown' hgrow hnil hat;go_wp2_with fail;go_roundw
        case rel=>exact ⟨n+1,_,q3++ [x],hk4,by omega,by go_num,HY6.o,HK5.o,HS6.o,HV6.o,HB6.o⟩
        case measure=>simp[intOf];omega
       ·have hcb:(c3 x-1==0)=false:=beq_eq_false_iff_ne.2 (by omega)
        have HK5:Hid (KI j (leadB h j) (rd0 (leadB h j) j) (fun i=>if i=x then c3 i-1 else c3 i) q3 k ((rd0 (leadB h j) j y).take (n+1))):=hst2 hc
        clear hst1 hst2 hc;go_wp2_with fail;go_roundw
        case rel=>exact ⟨n+1,_,q3,hk3,by omega,by go_num,Hy3.o,HK5.o,HS4.o,HV4.o,HB4.o⟩
        case measure=>simp[intOf];omega
    have hltI:(j:Int)<(i:Int):=by omega
    have s0:=(HS.o.below HBr2.o).left.cellAt j (by omega)
    rw[range_get _ _ _ hlt]at s0
    by_cases hc0:c j=0
    ·have hcb:(c j==0)=true:=beq_iff_eq.2 hc0
     have HFi:Hid (((List.range (j+1)).filter fun x=>decide (c x=0))=((List.range j).filter fun x=>decide (c x=0))++ [j]):=by
      rw[Hid,List.range_succ,List.filter_append];simp[hc0]
     have hfl:((List.range j).filter fun x=>decide (c x=0)).length≤j:=by
      have:=List.length_filter_le (fun x=>decide (c x=0)) (List.range j)
      rwa [List.length_range]at this
     have HVa:Hid (IntsR W.heap.size (wr.alloc (.cells #[iV (j:Int)] 3)) u8 ((List.range j).filter fun x=>decide (c x=0))):=HV.o.below ((Below.refl _ _).alloc (Nat.le_refl _) _)
     have HBa:Hid (Below W.heap.size W (wr.alloc (.cells #[iV (j:Int)] 3))):=HBr2.o.alloc hsW _;clear hc0;go_wp2_with (at_builtin;refine wpList_append_own_at _ rfl (.tmp 66) (.tmp 68) 28 rfl W.heap.size 3 i0 (iV 0) 1 8 Tryz.underlying28 hi hi0 hi1 hi2 rfl (by decide) u8 _ _ rfl HVa.o ⟨wr.heap.size,0,none⟩ 1 1 [iV (j:Int)] rfl rfl (cell_one_new _ _ _) (by simp[Value.oneCell']) (by unfold maxLen;omega) (by omega) (by simp;omega) ?_;intro v' w6 hown' hgrow hnil hat)
     have HB6:Hid (Below W.heap.size W w6):=HBa.o.grown hgrow HBa.o.size (fun q hq=>(World.ownsRow.lt HVa.o q hq).1)
     have HV6:Hid (IntsR W.heap.size w6 v' ((List.range (j+1)).filter fun x=>decide (c x=0))):=by
      rw[Hid,HFi.o];unfold IntsR;rw[List.length_append,List.map_append];exact hown'
     clear hown' hgrow hnil hat;go_wp2_with fail;go_roundw
     case rel=>exact ⟨j+1,by omega,by go_num,HV6.o,HB6.o⟩
     case measure=>simp[intOf];omega
    ·have hcb:(c j==0)=false:=beq_eq_false_iff_ne.2 hc0
     have HFi:Hid (((List.range (j+1)).filter fun x=>decide (c x=0))=((List.range j).filter fun x=>decide (c x=0))):=by
      rw[Hid,List.range_succ,List.filter_append];simp[hc0]
     clear hc0;go_wp2_with fail;go_roundw
     case rel=>exact ⟨j+1,by omega,by go_num,by rw[HFi.o];exact HV.o,HBr2.o⟩
     case measure=>simp[intOf];omega
  have hltI:(i:Int)<(len:Int):=by omega
  have HLd:Hid (Calls Tryz.prog 54 #[.slice a len cap,iV i] wr fun e w'=>∃v,e=.returned v∧IntsR wr.heap.size w' v (leads h i)∧Below wr.heap.size wr w'):=leadsOf_any hlt wr (HH.o _ HBr.o) (HOK.o.n0 i hlt) (HOK.o.n4 i hlt) (by omega)
  go_wp2_with fail;refine HLd.o.mono ?_;rintro e w3 ⟨v,rfl,hv,hb3⟩;have hle:leadB h len i=leads h i:=by unfold leadB;rw[if_pos hlt]
  rw[←hle]at hv;have HV:Hid (IntsR wr.heap.size w3 v (leadB h len i)):=hv;have HS3:Hid (StM w3 gl gl gf len c fv (rd0 (leadB h len) i)):=HS.o.below hb3;have HB3:Hid (Below gl w w3):=HBr.o.trans (hb3.mono (by have:=HS.o.lt;omega))
  have HVd:Hid (∀y,y<len→∀q,(fv y).ownBlock=some q→v.ownBlock≠some q):=fun y hy q hq e=>by
   have h1:=(World.ownsRow.lt hv q e).1;have h2:=(HS.o.lt.2.2.2.2 y hy q hq).2;omega
  have Hvg:Hid (∀q,v.ownBlock=some q→q≠gl∧q≠gf∧gl≤q):=fun q e=>by
   have h1:=(World.ownsRow.lt hv q e).1;have h2:=HS.o.lt;omega
  have hf4:=HOK.o.four i;obtain ⟨sa,cp,rfl,hcl⟩:=hv.form;clear hv hcl;generalize hm:(leadB h len i).length=m at*;have s0:=HS3.o.left.cellAt i (by omega)
  rw[range_get _ _ _ hlt]at s0;have f0:=owns_froz HS3.o.left i;clear hb3 hle;go_wp2_with fail;have HS4:Hid (StM (w3.setCell ⟨gl,i,none⟩ (iV (m:Int))) gl gl gf len (fun j=>if j=i then (m:Int)else c j) fv (rd1 (leadB h len) i 0)):=by rw[Hid,rd1_zero];exact HS3.o.setL i m
  have HV4:Hid (IntsR wr.heap.size (w3.setCell ⟨gl,i,none⟩ (iV (m:Int))) (.slice sa m cp) (leadB h len i)):=HV.o.kept (grown_set gl i _) (by
   cases hq:(Value.slice sa m cp).ownBlock with
   |none=>exact .inl rfl
   |some q=>exact .inr (fun e=>(Hvg.o q hq).1 (Option.some.inj e)))
  have HB4:Hid (Below gl w (w3.setCell ⟨gl,i,none⟩ (iV (m:Int)))):=by
   have h1:=HB3.o;rw[←hgl]at h1 ⊢;exact below_set h1 (Nat.le_refl _)
  have HC4:Hid (∀x,x<i+1→(if x=i then (m:Int)else c x)=((leadB h len x).length:Int)):=fun x hx=>by
   by_cases e:x=i
   ·rw[if_pos e,e,hm]
   ·rw[if_neg e];exact HC.o x (by omega)
  generalize w3.setCell ⟨gl,i,none⟩ (iV (m:Int))=w4 at*;clear s0 f0 HS HC HBr HS3 HB3 HV HLd;generalize wr.heap.size=lw at HV4
  go_loopw [7] (fun x wr2=>∃(k:Nat) (fv2:Nat→Value),k≤m∧x=iV k∧StM wr2 gl gl gf len (fun j=>if j=i then (m:Int)else c j) fv2 (rd1 (leadB h len) i k)∧IntsR lw wr2 (.slice sa m cp) (leadB h len i)∧(∀y,y<len→∀q,(fv2 y).ownBlock=some q→(Value.slice sa m cp).ownBlock≠some q)∧Below gl w wr2) (fun x _=>m-(intOf x).toNat)
  case atStart=>exact ⟨0,fv,Nat.zero_le _,rfl,HS4.o,HV4.o,HVd.o,HB4.o⟩
  case round=>
   obtain ⟨k,fv2,hkm,rfl,hS,hV,hD,hB⟩:=hrel;have HS:Hid (StM wr gl gl gf len (fun j=>if j=i then (m:Int)else c j) fv2 (rd1 (leadB h len) i k)):=hS
   have HD:Hid (∀y,y<len→∀q,(fv2 y).ownBlock=some q→(Value.slice sa m cp).ownBlock≠some q):=hD;have HB:Hid (Below gl w wr):=hB;have HV:Hid (IntsR lw wr (.slice sa m cp) (leadB h len i)):=hV;clear hS hV hD hB HS4 HV4 HVd HB4
   by_cases hk:k<m
   case neg=>
    obtain rfl:k=m:=by omega
    have HSn:Hid (StM wr gl gl gf len (fun j=>if j=i then (k:Int)else c j) fv2 (rd0 (leadB h len) (i+1))):=by
     have:=HS.o;rw[←hm,rd1_end,hm]at this;exact this
    go_wp2_with fail;go_roundw
    case rel=>exact ⟨i+1,_,fv2,by omega,by go_num,HSn.o,HC4.o,HB.o⟩
    case measure=>simp[intOf];omega
   have hkl:k<(leadB h len i).length:=by omega
   obtain ⟨gv,hsa,cv⟩:=HV.o.cell k hkl;subst hsa;have hyl:(leadB h len i)[k]<len:=HOK.o.din i hlt _ (List.getElem_mem hkl);generalize hy:(leadB h len i)[k]=y at*;have Hy:Hid ((leadB h len i)[k]=y):=hy;clear hy;have cf:=HS.o.frm.cellAt y (by omega)
   rw[range_get _ _ _ hyl]at cf;have ff:=owns_froz HS.o.frm y;have hkI:(k:Int)<(m:Int):=by omega
   have hyI:(y:Int)<(len:Int):=by omega
   have hgfl:=HS.o.lt;have hrl:=rd1_len (leadB h len) HOK.o.four i k y;have HSa:Hid (StM (wr.alloc (.cells #[iV (i:Int)] 3)) gl gl gf len (fun j=>if j=i then (m:Int)else c j) fv2 (rd1 (leadB h len) i k)):=HS.o.below ((Below.refl _ _).alloc (Nat.le_refl _) _)
   have HVa:Hid (IntsR lw (wr.alloc (.cells #[iV (i:Int)] 3)) (.slice (some ⟨gv,0,none⟩) m cp) (leadB h len i)):=HV.o.below ((Below.refl _ _).alloc (Nat.le_refl _) _);have HBa:Hid (Below gl w (wr.alloc (.cells #[iV (i:Int)] 3))):=HB.o.alloc (by omega) _
   have hsa:(wr.alloc (.cells #[iV (i:Int)] 3)).heap.size=wr.heap.size+1:=by simp
   have Hgf:Hid (some gf≠(fv2 y).ownBlock):=fun e=>(HS.o.dis y hyl gf e.symm).2.1 rfl
   have Hlen:Hid (4*i+4≤1600004):=by rw[Hid];omega
   have hgv:gv<wr.heap.size:=(World.ownsRow.lt HV.o gv rfl).2;have HNv:Hid (some gv≠(fv2 y).ownBlock):=fun e=>HD.o y hyl gv e.symm rfl
   have HVk:Hid ((wr.alloc (.cells #[iV (i:Int)] 3)).cell? ⟨gv,k,none⟩=some (iV (y:Int))):=by
    obtain ⟨g',e,hc⟩:=HVa.o.cell k hkl;cases e;rw[Hy.o]at hc;exact hc
   go_wp2_with fail
   go_region_law (refine step_append_own_at rfl (.tmp 50) (.tmp 52) 28 rfl gl 3 i0 (iV 0) 1 8 Tryz.underlying28 hi hi0 hi1 hi2 rfl (by decide) (fv2 y) (rd1 (leadB h len) i k y).length ((rd1 (leadB h len) i k y).map fun x:Nat=>iV (x:Int)) (by first|rfl|simp[Act.eval,Act.put]) (HSa.o.lst y hyl) ⟨wr.heap.size,0,none⟩ 1 1 [iV (i:Int)] (by first|rfl|simp[Act.eval,Act.put]) rfl (cell_one_new _ _ _) (by simp[Value.oneCell']) (by have:=Hlen.o;unfold maxLen;omega) (by have:=Hlen.o;omega) (by simp;omega) (by omega) ?_
                  intro g1 c1 w6 ho6 hg6 hat6;have HO6:Hid (w6.ownsRow gl 3 1 (.slice (some ⟨g1,0,none⟩) ((rd1 (leadB h len) i k y).length+1) c1) ((rd1 (leadB h len) i k y).length+1) (((rd1 (leadB h len) i k y).map fun x:Nat=>iV (x:Int))++ [iV (i:Int)])):=ho6
                  have HG6:Hid ((wr.alloc (.cells #[iV (i:Int)] 3)).grownBy w6 (fv2 y).ownBlock):=⟨hg6.os,hg6.tape,hg6.output,hg6.size,hg6.block⟩;have HA6:Hid (some g1=(fv2 y).ownBlock∨g1=(wr.alloc (.cells #[iV (i:Int)] 3)).heap.size):=hat6;obtain ⟨zf,hzf⟩: ∃z,w6.cell? ⟨gf,y,none⟩=some z:=⟨_,HG6.o.cell ((HSa.o.frm.cellAt y (by omega)).trans (range_get _ _ _ hyl)) Hgf.o⟩
                  have hff:w6.frozen? ⟨gf,y,none⟩=false:=(World.frozen?_of_block (HG6.o.block gf (by omega) Hgf.o)).trans (owns_froz HSa.o.frm y)
                  have hv6:w6.cell? ⟨gv,k,none⟩=some (iV (y:Int)):=HG6.o.cell HVk.o HNv.o;clear ho6 hg6 hat6)
   all_goals
    have HSf:Hid (StM (w6.setCell ⟨gf,y,none⟩ (.slice (some ⟨g1,0,none⟩) ((rd1 (leadB h len) i k y).length+1) c1)) gl gl gf len (fun j=>if j=i then (m:Int)else c j) (fun j=>if j=y then .slice (some ⟨g1,0,none⟩) ((rd1 (leadB h len) i k y).length+1) c1 else fv2 j) (rd1 (leadB h len) i (k+1))):=by
     have h1:=HSa.o.add hyl HO6.o HG6.o (by
      rcases HA6.o with e|e
      ·exact .inl e
      ·exact .inr (by rw[←e];rfl))
     have e:(fun j=>if j=y then rd1 (leadB h len) i k j++ [i]else rd1 (leadB h len) i k j)=rd1 (leadB h len) i (k+1):=by
      funext j
      rw[rd1_succ _ _ _ hkl,Hy.o]
     rw[e]at h1;exact h1
    have HVf:Hid (IntsR lw (w6.setCell ⟨gf,y,none⟩ (.slice (some ⟨g1,0,none⟩) ((rd1 (leadB h len) i k y).length+1) c1)) (.slice (some ⟨gv,0,none⟩) m cp) (leadB h len i)):=(HVa.o.kept HG6.o (.inr HNv.o)).kept (grown_set gf y _) (.inr (fun e=>(Hvg.o gv rfl).2.1 (Option.some.inj e)))
    have HDf:Hid (∀z,z<len→∀q,((fun j=>if j=y then (.slice (some ⟨g1,0,none⟩) ((rd1 (leadB h len) i k y).length+1) c1:Value)else fv2 j) z).ownBlock=some q→(Value.slice (some ⟨gv,0,none⟩) m cp).ownBlock≠some q):=fun z hz q hq=>by
     have hq':(if z=y then (.slice (some ⟨g1,0,none⟩) ((rd1 (leadB h len) i k y).length+1) c1:Value)else fv2 z).ownBlock=some q:=hq
     by_cases e:z=y
     ·rw[if_pos e]at hq'
      have hqg:g1=q:=Option.some.inj hq'
      rcases HA6.o with e'|e'
      ·exact HD.o y hyl q (by rw[←e',hqg])
      ·intro h2
       have:gv=q:=Option.some.inj h2;omega
     ·rw[if_neg e]at hq'
      exact HD.o z hz q hq'
    have HBf:Hid (Below gl w (w6.setCell ⟨gf,y,none⟩ (.slice (some ⟨g1,0,none⟩) ((rd1 (leadB h len) i k y).length+1) c1))):=(HBa.o.grown HG6.o (by omega) (fun q hq=>(hgfl.2.2.2.2 y hyl q hq).1)).grown (grown_set gf y _) (by have:=HG6.o.size;omega) (fun q hq=>by have:=Option.some.inj hq;omega)
    go_wp2_with fail;go_roundw
    case rel=>first|exact ⟨k+1,_,by omega,by go_num,HSf.o,HVf.o,HDf.o,HBf.o⟩|exact ⟨k+1,_,by omega,by go_num,HSf.o.below (Below.refl _ _).drew,HVf.o.below (Below.refl _ _).drew,HDf.o,HBf.o.drew⟩
    case measure=>simp[intOf];omega
end Go.Proofs.YtmggaclaoefdaabGreat
