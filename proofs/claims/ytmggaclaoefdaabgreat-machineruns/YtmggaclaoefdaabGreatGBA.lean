/- Part of the proof. -/
import Derived.Test.YtmggaclaoefdaabGreatMz4
import Derived.Laws.StructEq
namespace Go.Proofs.YtmggaclaoefdaabGreat
open Go.RowKit Go.Proofs.Tryz
set_option linter.unusedVariables false
set_option linter.unusedSimpArgs false
set_option maxRecDepth 100000
set_option maxHeartbeats 8000000
section
attribute [local go_sem] Oper.semAt_some
def gw (l:List Cl) (ats:List Nat):List Cl:=ats.foldl (fun l x=>if x<l.length then l.set x (fa x)else l) l
theorem mq (ats:List Nat): ∀l:List Cl,(gw l ats).length=l.length:=by
 induction ats with
 |nil=>intro l;rfl
 |cons x ats ih=>
  intro l
  show (gw (if x<l.length then l.set x (fa x)else l) ats).length=_
  rw[ih]
  split <;> simp
theorem xu (l:List Cl) (ats:List Nat) (x:Nat):gw l (ats++ [x])=if x<l.length then (gw l ats).set x (fa x)else gw l ats:=by
 unfold gw;rw[List.foldl_append];have:=mq ats l;unfold gw at this;simp only[List.foldl_cons,List.foldl_nil,this]
section
variable {lo:Nat} {w w':World} {s:Nat} {r:Rn} {h:List Cl} {gs:List Gq} {cs:List jo} {tr qs:List Nat} {an:List Tm}
theorem St (a:Option Addr) (ln cp k:Nat) (h:k<=ln) (hc:ln<=cp) (hn:a=none->ln=0/\cp=0) (hg: ∀ad,a=some ad->∃g,ad=⟨g,0,none⟩): ∃a',(∀W:World,(Instr.slice 28 (.slice a ln cp) (some (iV k)) none none).run prog W=.ok (.slice a' (ln-k) (cp-k)) W)/\(k<ln->∃g,a=some ⟨g,0,none⟩/\a'=some ⟨g,k,none⟩):=by
 cases a with
 |none=>
  obtain ⟨rfl,rfl⟩:=hn rfl;obtain rfl:k=0:=by omega
  exact ⟨none,fun W=>B5 W,fun h=>absurd h (Nat.lt_irrefl 0)⟩
 |some ad=>
  obtain ⟨g,rfl⟩:=hg ad rfl;obtain ⟨o,h1,h2⟩:=B4 g ln cp k h hc;exact ⟨some ⟨g,o,none⟩,h1,fun hk=>⟨g,rfl,by rw[h2 hk]⟩⟩
theorem Ui (a:Option Addr) (ln cp k:Nat) (h:k<=ln) (hc:ln<=cp) (hn:a=none->ln=0/\cp=0) (hg: ∀ad,a=some ad->∃g,ad=⟨g,0,none⟩) (W:World):(Instr.slice 28 (.slice a ln cp) none (some (iV k)) none).run prog W=.ok (.slice a k cp) W:=by
 cases a with
 |none=>
  obtain ⟨rfl,rfl⟩:=hn rfl;obtain rfl:k=0:=by omega
  exact J9 W
 |some ad=>
  obtain ⟨g,rfl⟩:=hg ad rfl;exact J8 g ln cp k h hc W
theorem Q4:(prog.info? 76).map (fun i=>(i.zero,i.size,i.bytes))=some (some (.agg #[iV 0,iV 0,iV 0]),3,24):=by kernel_rfl
theorem N2 (a:Option Addr) (ln cp k:Nat) (h:k<=ln) (hc:ln<=cp) (W:World):(Instr.slice 26 (.slice a ln cp) none (some (iV k)) none).run prog W=.ok (.slice a k cp) W:=by
 obtain ⟨i0,hi,hz0,hz1,hz2⟩:=info_parts Q4;have h':(k:Int)<=(cp:Int):=by omega
 cases a with
 |none=>simp[Instr.slice,run_underlying Tryz.underlying26,Instr.sliceBounds,run_sliceBound,sizeOf,typeInfo,hi,h',Addr.add]
 |some ad=>simp[Instr.slice,run_underlying Tryz.underlying26,Instr.sliceBounds,run_sliceBound,sizeOf,typeInfo,hi,h',Addr.add]
theorem j3.setF {lo:Nat} {w:World} {g n cp:Nat} {l:List Cl} (h:j3 lo w (.slice (some ⟨g,0,none⟩) n cp) l) (hn:n=l.length) {i:Nat} (hi:i<l.length) (c:Cl):
 j3 lo (((w.setCell ⟨g,i*3,none⟩ (iV c.k)).setCell ⟨g,i*3+1,none⟩ (iV c.n)).setCell ⟨g,i*3+2,none⟩ (.string c.nm)) (.slice (some ⟨g,0,none⟩) n cp) (l.set i c):=by
 obtain ⟨h1,h2⟩:=h
 rcases h2 with ⟨h2,_⟩| ⟨g',cap',cur,hv,hlo,hg,hnc,hcm,hsz,htk⟩
 .cases h2
 cases hv
 have hfl:ce (l.set i c)=(((ce l).set (i*3) (iV c.k)).set (i*3+1) (iV c.n)).set (i*3+2) (.string c.nm):=by
  clear h1 hnc hsz htk hg
  induction l generalizing i with
  |nil=>exact absurd hi (nL i)
  |cons d l ih=>
   cases i with
   |zero=>rfl
   |succ i=>
    show dg d++ce (l.set i c)=_
    rw[ih (Nat.lt_of_succ_lt_succ hi) rfl]
    show _=(((dg d++ce l).set ((i+1)*3) _).set ((i+1)*3+1) _).set ((i+1)*3+2) _
    rw[List.set_append_right _ _ (by show 3<=_;omega),List.set_append_right _ _ (by show 3<=_;omega),List.set_append_right _ _ (by show 3<=_;omega)]
    rw[show (i+1)*3-(dg d).length=i*3 by show (i+1)*3-3=_;omega,show (i+1)*3+1-(dg d).length=i*3+1 by show (i+1)*3+1-3=_;omega,show (i+1)*3+2-(dg d).length=i*3+2 by show (i+1)*3+2-3=_;omega]
 refine ⟨by rw[hfl];simpa using h1,.inr ⟨g,cp,((cur.setIfInBounds (i*3) (iV c.k)).setIfInBounds (i*3+1) (iV c.n)).setIfInBounds (i*3+2) (.string c.nm),?_,hlo,?_,?_,hcm,by simp[hsz],?_⟩⟩
 .rw[List.length_set,<-hn]
 .simp only[World.setCell,Array.getElem?_modify]
  simp[hg]
 .simpa using hnc
 .rw[hfl,<-htk]
  simp only[List.length_set];have e: ∀(a:List Value) (k j:Nat) (x:Value),(a.set j x).take k=(a.take k).set j x:=fun a k j x=>by rw[List.take_set]
  simp[e]
theorem lm (a:Option Addr) (n c m d:Nat):(Value.slice a n c).ownBlock=(Value.slice a m d).ownBlock:=by cases a <;> rfl
def R7 (lo:Nat) (w:World) (s:Nat) (r:Rn) (h:List Cl) (gs:List Gq) (cs:List jo) (tr qs:List Nat) (an:List Tm) (c:jo) (w':World):Prop:=∃hv' gv' tv',MN lo w' s { r with hv:=hv',gv:=gv',tv:=tv',first:=(c.goal:Int)} (gw (h.take c.hp) (tr.drop c.tr)) (gs.take c.gs) cs (tr.take c.tr) qs an/\hv'.ownBlock=r.hv.ownBlock/\gv'.ownBlock=r.gv.ownBlock/\tv'.ownBlock=r.tv.ownBlock/\Bw (cm s r) w.heap.size w w'
theorem Ie {c:jo} (w:World) (M:MN lo w s r h gs cs tr qs an) (h1:c.hp<=h.length) (h2:c.tr<=tr.length) (h3:c.gs<=gs.length) (htr:tr.length<=10000000):
 Calls prog 136 #[.pointer (some ⟨s,0,none⟩),.agg #[iV (c.goal:Int),iV (c.cl:Int),iV (c.hp:Int),iV (c.tr:Int),iV (c.gs:Int)]] w fun e w'=>e=.returned (.tuple #[])/\R7 lo w s r h gs cs tr qs an c w':=by
 obtain ⟨ha,hcp,hhv,hhc,hhn,hhg⟩:=ak M.hp;obtain ⟨ta,tcp,htv,htc,htn,htg⟩:=ak M.tl;obtain ⟨ga,gcp,hgv,hgc,hgn,hgg⟩:=ak M.go;have HBa:Hid (Below w.heap.size w (w.alloc (.cells #[iV (c.goal:Int),iV (c.cl:Int),iV (c.hp:Int),iV (c.tr:Int),iV (c.gs:Int)] 78))):=bA;have HXa:Hid ((w.alloc (.cells #[iV (c.goal:Int),iV (c.cl:Int),iV (c.hp:Int),iV (c.tr:Int),iV (c.gs:Int)] 78)).heap[w.heap.size]?=some (.cells #[iV (c.goal:Int),iV (c.cl:Int),iV (c.hp:Int),iV (c.tr:Int),iV (c.gs:Int)] 78)):=hZ _ _;have hMa:=M.below HBa.o;have HMa:Hid (MN lo (w.alloc (.cells #[iV (c.goal:Int),iV (c.cl:Int),iV (c.hp:Int),iV (c.tr:Int),iV (c.gs:Int)] 78)) s r h gs cs tr qs an):=hMa;have hsa:(w.alloc (.cells #[iV (c.goal:Int),iV (c.cl:Int),iV (c.hp:Int),iV (c.tr:Int),iV (c.gs:Int)] 78)).heap.size=w.heap.size+1:=by simp
 have hsl:=M.blk.lt;clear M;generalize hwa:w.alloc (.cells #[iV (c.goal:Int),iV (c.cl:Int),iV (c.hp:Int),iV (c.tr:Int),iV (c.gs:Int)] 78)=wa at*
 have b5: ∀W:World,W.heap[w.heap.size]?=some (.cells #[iV (c.goal:Int),iV (c.cl:Int),iV (c.hp:Int),iV (c.tr:Int),iV (c.gs:Int)] 78)->W.cell? ⟨w.heap.size,0,none⟩=some (iV (c.goal:Int))/\W.cell? ⟨w.heap.size,2,none⟩=some (iV (c.hp:Int))/\W.cell? ⟨w.heap.size,3,none⟩=some (iV (c.tr:Int))/\W.cell? ⟨w.heap.size,4,none⟩=some (iV (c.gs:Int)):=fun W hW=>by
  refine ⟨?_,?_,?_,?_⟩ <;> simp[World.cell?,hW]
 obtain ⟨⟨c0,c1,c2,c3,c4,c5⟩,_,cf⟩:=hMa.blk.get;have cf0:=cf 0;rw[hhv]at c0;obtain ⟨k0,k2,k3,k4⟩:=b5 wa HXa.o;have hto:=Fs ha h.length hcp c.hp h1 hhc
 have h9:=hMa.toH (X:=fun _=>False) (v':=.slice ha c.hp hcp) (h':=h.take c.hp) (Bw.refl _ _ _) (fun k hk=>hk.elim) (fun A hA=>NM.old (hMa.all A hA).1 (fun k hk=>hk.elim)) (by
  have:=su (k:=c.hp) (ys:=ce (h.take c.hp)) (by rw[<-hhv];exact hMa.hp) h1 (E2 h c.hp) (fun e=>by have:=hhn e;omega)
  unfold j3;rw[List.length_take,Nat.min_eq_left h1];exact this) (.inl (by rw[hhv];exact lm _ _ _ _ _))
 have HM1:Hid (MN lo (wa.setCell ⟨s,0,none⟩ (.slice ha c.hp hcp)) s { r with hv:=.slice ha c.hp hcp} (h.take c.hp) gs cs tr qs an):=h9.1
 have HB1:Hid (Bw (cm s r) w.heap.size w (wa.setCell ⟨s,0,none⟩ (.slice ha c.hp hcp))):=(Bw.ofBelow HBa.o).trans ((h9.2.mono HBa.o.size).wide fun k _ hk=>by rcases hk with e|e;(·exact .inl e);(·exact e.elim))
 have HX1:Hid ((wa.setCell ⟨s,0,none⟩ (.slice ha c.hp hcp)).heap[w.heap.size]?=some (.cells #[iV (c.goal:Int),iV (c.cl:Int),iV (c.hp:Int),iV (c.tr:Int),iV (c.gs:Int)] 78)):=((af (W:=wa) s 0 _).block _ (by omega) (fun e=>by have:=oj e;omega)).trans HXa.o
 clear h9 cf
 go_enter Tryz.func136,Tryz.ntmps136
 go_wp2_with fail
 go_region
 have HM2:Hid (MN lo (wa.setCell ⟨s,0,none⟩ (.slice ha c.hp hcp)).drew s { r with hv:=.slice ha c.hp hcp} (h.take c.hp) gs cs tr qs an):=HM1.o.below (bR.drew)
 have HB2:Hid (Bw (cm s r) w.heap.size w (wa.setCell ⟨s,0,none⟩ (.slice ha c.hp hcp)).drew):=HB1.o.drew;have HX2:Hid ((wa.setCell ⟨s,0,none⟩ (.slice ha c.hp hcp)).drew.heap[w.heap.size]?=some (.cells #[iV (c.goal:Int),iV (c.cl:Int),iV (c.hp:Int),iV (c.tr:Int),iV (c.gs:Int)] 78)):=HX1.o;generalize (wa.setCell ⟨s,0,none⟩ (.slice ha c.hp hcp)).drew=w2 at*;have Hb5:Hid (∀W:World,W.heap[w.heap.size]?=some (.cells #[iV (c.goal:Int),iV (c.cl:Int),iV (c.hp:Int),iV (c.tr:Int),iV (c.gs:Int)] 78)->W.cell? ⟨w.heap.size,0,none⟩=some (iV (c.goal:Int))/\W.cell? ⟨w.heap.size,2,none⟩=some (iV (c.hp:Int))/\W.cell? ⟨w.heap.size,3,none⟩=some (iV (c.tr:Int))/\W.cell? ⟨w.heap.size,4,none⟩=some (iV (c.gs:Int))):=b5;have Hhv:Hid (r.hv=.slice ha h.length hcp):=hhv;have Htv:Hid (r.tv=.slice ta tr.length tcp):=htv;have Hgv:Hid (r.gv=.slice ga gs.length gcp):=hgv;have Hhg:Hid (∀ad,ha=some ad->∃g,ad=⟨g,0,none⟩):=hhg;have Hhn:Hid (ha=none->h.length=0/\hcp=0):=hhn;have Hgn:Hid (ga=none->gs.length=0/\gcp=0):=hgn;have Htn:Hid (ta=none->tr.length=0/\tcp=0):=htn;have Htg:Hid (∀ad,ta=some ad->∃g,ad=⟨g,0,none⟩):=htg;obtain ⟨a',hfr,hfr2⟩:=St ta tr.length tcp c.tr h2 htc htn htg;have Hfr2:Hid (c.tr<tr.length->∃g,ta=some ⟨g,0,none⟩/\a'=some ⟨g,c.tr,none⟩):=hfr2;clear hMa hwa HMa c0 c1 c2 c3 c4 c5 cf0 k0 k2 k3 k4 hto HM1 HB1 HX1 b5 hhv htv hgv hhg hhn hgn htn htg hgg hfr2 HXa;obtain ⟨k0,k2,k3,k4⟩:=Hb5.o w2 HX2.o;obtain ⟨⟨_,_,_,_,c4,_⟩,_,_⟩:=HM2.o.blk.get
 rw[show ({ r with hv:=.slice ha c.hp hcp}:Rn).tv=.slice ta tr.length tcp from Htv.o]at c4
 go_wp2_with fail
 go_region
 have HM3:Hid (MN lo w2.drew s { r with hv:=.slice ha c.hp hcp} (h.take c.hp) gs cs tr qs an):=HM2.o.below (bR.drew)
 have HB3:Hid (Bw (cm s r) w.heap.size w w2.drew):=HB2.o.drew;have HX3:Hid (w2.drew.heap[w.heap.size]?=some (.cells #[iV (c.goal:Int),iV (c.cl:Int),iV (c.hp:Int),iV (c.tr:Int),iV (c.gs:Int)] 78)):=HX2.o;generalize w2.drew=w3 at*;clear HM2 HB2 HX2 k0 k2 k3 k4 c4 hfr;generalize hnn:tr.length-c.tr=n at*;go_wp2_with fail
 go_loopw [5,27] (fun v5 iv wq=>∃j:Nat,j<=n/\iv=iV j/\MN lo wq s { r with hv:=.slice ha c.hp hcp} (gw (h.take c.hp) ((tr.drop c.tr).take j)) gs cs tr qs an/\wq.heap[w.heap.size]?=some (.cells #[iV (c.goal:Int),iV (c.cl:Int),iV (c.hp:Int),iV (c.tr:Int),iV (c.gs:Int)] 78)/\Bw (cm s r) w.heap.size w wq) (fun _ v _=>n-(intOf v).toNat)
 case atStart=>exact ⟨0,oZ,rfl,HM3.o,HX3.o,HB3.o⟩
 case round=>
  obtain ⟨j,hjn,rfl,hMr,hXr,hBr⟩:=hrel
  have HMr:Hid (MN lo wr s { r with hv:=.slice ha c.hp hcp} (gw (h.take c.hp) ((tr.drop c.tr).take j)) gs cs tr qs an):=hMr
  have HXr:Hid (wr.heap[w.heap.size]?=some (.cells #[iV (c.goal:Int),iV (c.cl:Int),iV (c.hp:Int),iV (c.tr:Int),iV (c.gs:Int)] 78)):=hXr;have HBr:Hid (Bw (cm s r) w.heap.size w wr):=hBr;clear hMr hXr hBr HM3 HB3 HX3;obtain ⟨k0,k2,k3,k4⟩:=Hb5.o wr HXr.o
  by_cases hlt:j<n
  case pos=>
   have hjI:(j:Int)<(n:Int):=by omega
   have hjb:j<10000000:=by omega
   obtain ⟨tg,hta,ha'⟩:=Hfr2.o (by omega)
   subst ha';have hx:c.tr+j<tr.length:=by omega
   have hcx:wr.cell? ⟨tg,c.tr+j,none⟩=some (iV ((tr[c.tr+j]:Nat):Int)):=by
    have h8:=HMr.o.tl
    rw[show ({ r with hv:=.slice ha c.hp hcp}:Rn).tv=.slice (some ⟨tg,0,none⟩) tr.length tcp from by rw[<-hta];exact Htv.o]at h8
    refine (h8.cellAt (c.tr+j) (by omega)).trans ?_
    unfold fg;rw[List.getElem?_map,gE hx]
    rfl
   have HTk:Hid ((tr.drop c.tr).take (j+1)=(tr.drop c.tr).take j++ [tr[c.tr+j]]):=by
    rw[Hid,List.take_add_one,List.getElem?_drop,gE hx]
    rfl
   clear hta;generalize hxx:tr[c.tr+j]=x at*;have HLn:Hid ((h.take c.hp).length=c.hp):=by rw[Hid,List.length_take,Nat.min_eq_left h1]
   clear hxx
   by_cases hxh:x<c.hp
   case pos=>
    have hxI:(x:Int)<(c.hp:Int):=by omega
    obtain ⟨hg,hha⟩: ∃hg,ha=some ⟨hg,0,none⟩:=by
     cases hae:ha with
     |none=>have:=Hhn.o hae;omega
     |some ad=>obtain ⟨g,e⟩:=Hhg.o ad hae;exact ⟨g,by rw[e]⟩
    subst hha;have HSn:Hid (gw (h.take c.hp) ((tr.drop c.tr).take (j+1))=(gw (h.take c.hp) ((tr.drop c.tr).take j)).set x (fa x)):=by rw[Hid,HTk.o,xu,if_pos (by rw[HLn.o];exact hxh)]
    obtain ⟨⟨c0,_⟩,_,_⟩:=HMr.o.blk.get;have c0':wr.cell? ⟨s,0,none⟩=some (.slice (some ⟨hg,0,none⟩) c.hp hcp):=c0;have HRl:Hid ((gw (h.take c.hp) ((tr.drop c.tr).take j)).length=c.hp):=by rw[Hid,mq,HLn.o]
    have HRow:Hid (∀W,Below wr.heap.size wr W->j3 lo W (.slice (some ⟨hg,0,none⟩) c.hp hcp) (gw (h.take c.hp) ((tr.drop c.tr).take j))):=fun W hW=>World.ownsRow.kept HMr.o.hp (aq hW none) (.inr (fun e=>by cases e))
    have HFr:Hid (∀W,Calls prog 109 #[iV (x:Int)] W fun e w'=>e=.returned (zg (fa x))/\Below W.heap.size W w'):=fun W=>qd _ W
    clear c0;have hsr:=HMr.o.blk.lt;go_wp2_with fail
    go_region_law (first
     | (go_simp
        go_at_call 109
        refine (HFr.o _).mono ?_;rintro e w5 ⟨rfl,hb5⟩;have HB5:Hid (Below wr.heap.size wr w5):=Below.trans (by repeat (first|exact bR|refine Below.drew ?_)) (hb5.mono lZ)
        rw[show zg (fa (x:Int))=.agg #[iV 1,iV (x:Int),.string ⟨#[]⟩]from rfl]
        have hrow5:=HRow.o w5 HB5.o;obtain ⟨cu5,hcu5⟩:=de hrow5 (g:=hg) rfl;have hrow6:w5.ownsRow lo 81 3 (.slice (some ⟨hg,0,none⟩) c.hp hcp) c.hp (ce (gw (h.take c.hp) ((tr.drop c.tr).take j))):=by have h8:=hrow5;unfold j3 at h8;rw[HRl.o]at h8;exact h8
        have ex5: ∀i,i<c.hp*3->∃v,w5.cell? ⟨hg,i,none⟩=some v:=fun i hi=>by
         have h8:=World.ownsRow.cellAt hrow6 i hi;have hl:i<(ce (gw (h.take c.hp) ((tr.drop c.tr).take j))).length:=by rw[At,HRl.o];exact hi
         exact ⟨_,h8.trans (gE hl)⟩
        obtain ⟨z0,y0⟩:=ex5 (x*3) (by omega)
        obtain ⟨z1,y1⟩:=ex5 (x*3+1) (by omega)
        obtain ⟨z2,y2⟩:=ex5 (x*3+2) (by omega)
        have q0:w5.frozen? ⟨hg,x*3,none⟩=false:=by simp[World.frozen?,hcu5]
        have q1:w5.frozen? ⟨hg,x*3+1,none⟩=false:=by simp[World.frozen?,hcu5]
        have q2:w5.frozen? ⟨hg,x*3+2,none⟩=false:=by simp[World.frozen?,hcu5]
        have c05:w5.cell? ⟨s,0,none⟩=some (.slice (some ⟨hg,0,none⟩) c.hp hcp):=(HB5.o.cell (p:=⟨s,0,none⟩) hsr).trans c0';clear hb5 hrow5 hrow6 hcu5 ex5))
    all_goals
     have hM5:=HMr.o.below HB5.o;have hS5:=j3.setF (HRow.o w5 HB5.o) HRl.o.symm (i:=x) (by rw[HRl.o];exact hxh) (fa x)
     have hg3:w5.grownBy (((w5.setCell ⟨hg,x*3,none⟩ (iV 1)).setCell ⟨hg,x*3+1,none⟩ (iV (x:Int))).setCell ⟨hg,x*3+2,none⟩ (.string ⟨#[]⟩)) (some hg):=((af _ _ _).trans (af _ _ _)).trans (af _ _ _);have hB6:Bw (fun k=>k=hg) w5.heap.size w5 (((w5.setCell ⟨hg,x*3,none⟩ (iV 1)).setCell ⟨hg,x*3+1,none⟩ (iV (x:Int))).setCell ⟨hg,x*3+2,none⟩ (.string ⟨#[]⟩)):=⟨hg3.os,hg3.tape,hg3.output,hg3.size,fun k hk hm=>hg3.block k hk (fun e=>hm (oj e))⟩
     have hM6:=hM5.inH (h':=(gw (h.take c.hp) ((tr.drop c.tr).take j)).set x (fa x)) hB6 (fun k hk=> .inl (by rw[hk];rfl)) (fun A hA=>eo (hM5.all A hA).1 fun k hk=>by subst hk;exact (hM5.all A hA).2.nb (.inr (.inl rfl))) hS5
     have HM6:Hid (MN lo (((w5.setCell ⟨hg,x*3,none⟩ (iV 1)).setCell ⟨hg,x*3+1,none⟩ (iV (x:Int))).setCell ⟨hg,x*3+2,none⟩ (.string ⟨#[]⟩)) s { r with hv:=.slice (some ⟨hg,0,none⟩) c.hp hcp} (gw (h.take c.hp) ((tr.drop c.tr).take (j+1))) gs cs tr qs an):=by rw[Hid,HSn.o];exact hM6
     have hs5:=HB5.o.size;have hsb:=HBr.o.size;have HB6:Hid (Bw (cm s r) w.heap.size w (((w5.setCell ⟨hg,x*3,none⟩ (iV 1)).setCell ⟨hg,x*3+1,none⟩ (iV (x:Int))).setCell ⟨hg,x*3+2,none⟩ (.string ⟨#[]⟩))):=(HBr.o.trans (Bw.ofBelow (HB5.o.mono hsb))).trans ((hB6.mono (by omega)).wide fun k _ hk=> .inr (.inl (by rw[Hhv.o,hk];rfl)))
     have hgw:hg≠w.heap.size:=fun e=>by
      obtain ⟨cu,hcu⟩:=de HMr.o.hp (g:=hg) rfl;have h7:=HXr.o;rw[<-e,hcu]at h7
      injection h7 with h7
      injection h7 with _ h8
      cases h8
     have hwl:w.heap.size<wr.heap.size:=(aZ HXr.o);have HX6:Hid ((((w5.setCell ⟨hg,x*3,none⟩ (iV 1)).setCell ⟨hg,x*3+1,none⟩ (iV (x:Int))).setCell ⟨hg,x*3+2,none⟩ (.string ⟨#[]⟩)).heap[w.heap.size]?=some (.cells #[iV (c.goal:Int),iV (c.cl:Int),iV (c.hp:Int),iV (c.tr:Int),iV (c.gs:Int)] 78)):=(hg3.block _ (by omega) (fun e=>hgw (oj e).symm)).trans ((HB5.o.block _ hwl).trans HXr.o)
     clear hM5 hS5 hg3 hB6 hM6 hgw;go_wp2_with fail;go_roundw
     case rel=>exact ⟨j+1,by omega,by go_num,HM6.o,HX6.o,HB6.o⟩
     case measure=>simp[intOf];omega
   have hxI: ¬((x:Int)<(c.hp:Int)):=by omega
   have HSn:Hid (gw (h.take c.hp) ((tr.drop c.tr).take (j+1))=gw (h.take c.hp) ((tr.drop c.tr).take j)):=by rw[Hid,HTk.o,xu,if_neg (by rw[HLn.o];exact hxh)]
   go_wp2_with fail;go_roundw
   case rel=>exact ⟨j+1,by omega,by go_num,by rw[HSn.o];exact HMr.o,HXr.o,HBr.o⟩
   case measure=>simp[intOf];omega
  have hjI: ¬((j:Int)<(n:Int)):=by omega
  have HAll:Hid (gw (h.take c.hp) ((tr.drop c.tr).take j)=gw (h.take c.hp) (tr.drop c.tr)):=by rw[Hid,show (tr.drop c.tr).take j=tr.drop c.tr from List.take_of_length_le (by rw[List.length_drop];omega)]
  have hM7:MN lo wr s { r with hv:=.slice ha c.hp hcp} (gw (h.take c.hp) (tr.drop c.tr)) gs cs tr qs an:=by rw[<-HAll.o];exact HMr.o
  obtain ⟨⟨_,_,_,_,c4,_⟩,_,cf⟩:=hM7.blk.get
  rw[show ({ r with hv:=.slice ha c.hp hcp}:Rn).tv=.slice ta tr.length tcp from Htv.o]at c4
  have cf4:=cf 4;have htoT:=Ui ta tr.length tcp c.tr h2 htc Htn.o Htg.o
  have h9:=hM7.toT (X:=fun _=>False) (v':=.slice ta c.tr tcp) (tr':=tr.take c.tr) (Bw.refl _ _ _) (fun k hk=>hk.elim) (fun A hA=>NM.old (hM7.all A hA).1 (fun k hk=>hk.elim)) (by
   have h8:=hM7.tl
   rw[show ({ r with hv:=.slice ha c.hp hcp}:Rn).tv=.slice ta tr.length tcp from Htv.o]at h8
   have:=su (k:=c.tr) (ys:=fg (tr.take c.tr)) h8 h2 (Ic tr c.tr) (fun e=>by have:=Htn.o e;omega)
   rw[List.length_take,Nat.min_eq_left h2]
   exact this) (.inl (by rw[show ({ r with hv:=.slice ha c.hp hcp}:Rn).tv=.slice ta tr.length tcp from Htv.o];exact lm _ _ _ _ _))
  have HM8:Hid (MN lo (wr.setCell ⟨s,4,none⟩ (.slice ta c.tr tcp)).drew s { r with hv:=.slice ha c.hp hcp,tv:=.slice ta c.tr tcp} (gw (h.take c.hp) (tr.drop c.tr)) gs cs (tr.take c.tr) qs an):=h9.1.below (bR.drew)
  have hsb:=HBr.o.size;have HB8:Hid (Bw (cm s r) w.heap.size w (wr.setCell ⟨s,4,none⟩ (.slice ta c.tr tcp)).drew):=(HBr.o.grown (af s 4 _) hsb (fun k e=> .inr (.inl (oj e).symm))).drew
  have hwl:w.heap.size<wr.heap.size:=(aZ HXr.o);have HX8:Hid ((wr.setCell ⟨s,4,none⟩ (.slice ta c.tr tcp)).drew.heap[w.heap.size]?=some (.cells #[iV (c.goal:Int),iV (c.cl:Int),iV (c.hp:Int),iV (c.tr:Int),iV (c.gs:Int)] 78)):=((af (W:=wr) s 4 _).block _ hwl (fun e=>by have:=oj e;omega)).trans HXr.o
  clear h9 hM7 cf;go_wp2_with fail
  go_region
  generalize (wr.setCell ⟨s,4,none⟩ (.slice ta c.tr tcp)).drew=w8 at*;clear k0 k2 k3 k4 c4 cf4 htoT;obtain ⟨k0,k2,k3,k4⟩:=Hb5.o w8 HX8.o;have hM8:=HM8.o;obtain ⟨⟨_,c1,_⟩,_,cf⟩:=hM8.blk.get
  rw[show ({ r with hv:=.slice ha c.hp hcp,tv:=.slice ta c.tr tcp}:Rn).gv=.slice ga gs.length gcp from Hgv.o]at c1
  have cf1:=cf 1;have htoG:=N2 ga gs.length gcp c.gs h3 hgc
  have h9:=hM8.toG (X:=fun _=>False) (v':=.slice ga c.gs gcp) (gs':=gs.take c.gs) (Bw.refl _ _ _) (fun k hk=>hk.elim) (fun A hA=>NM.old (hM8.all A hA).1 (fun k hk=>hk.elim)) (by
   have h8:=hM8.go
   rw[show ({ r with hv:=.slice ha c.hp hcp,tv:=.slice ta c.tr tcp}:Rn).gv=.slice ga gs.length gcp from Hgv.o]at h8
   have:=su (k:=c.gs) (ys:=db (gs.take c.gs)) h8 h3 (E1 gs c.gs) (fun e=>by have:=Hgn.o e;omega)
   rw[List.length_take,Nat.min_eq_left h3]
   exact this) (.inl (by rw[show ({ r with hv:=.slice ha c.hp hcp,tv:=.slice ta c.tr tcp}:Rn).gv=.slice ga gs.length gcp from Hgv.o];exact lm _ _ _ _ _))
  have hM9:=h9.1.below (bR.drew);have HM9:=hid hM9;have hs8:=HB8.o.size;have HB9:Hid (Bw (cm s r) w.heap.size w (w8.setCell ⟨s,1,none⟩ (.slice ga c.gs gcp)).drew):=(HB8.o.grown (af s 1 _) hs8 (fun k e=> .inr (.inl (oj e).symm))).drew
  have hwl8:w.heap.size<w8.heap.size:=(aZ HX8.o);have HX9:Hid ((w8.setCell ⟨s,1,none⟩ (.slice ga c.gs gcp)).drew.heap[w.heap.size]?=some (.cells #[iV (c.goal:Int),iV (c.cl:Int),iV (c.hp:Int),iV (c.tr:Int),iV (c.gs:Int)] 78)):=((af (W:=w8) s 1 _).block _ hwl8 (fun e=>by have:=oj e;omega)).trans HX8.o
  clear h9 hM8 hM9 cf;go_wp2_with fail
  go_region
  generalize (w8.setCell ⟨s,1,none⟩ (.slice ga c.gs gcp)).drew=w9 at*;clear k0 k2 k3 k4 c1 cf1 htoG;obtain ⟨k0,k2,k3,k4⟩:=Hb5.o w9 HX9.o;obtain ⟨⟨_,_,c2,_⟩,_,cf⟩:=HM9.o.blk.get;have cf2:=cf 2
  have HMf:Hid (MN lo (w9.setCell ⟨s,2,none⟩ (iV (c.goal:Int))) s { r with hv:=.slice ha c.hp hcp,tv:=.slice ta c.tr tcp,gv:=.slice ga c.gs gcp,first:=(c.goal:Int)} (gw (h.take c.hp) (tr.drop c.tr)) (gs.take c.gs) cs (tr.take c.tr) qs an):=HM9.o.int 2 (c.goal:Int) rfl ⟨rfl,rfl,rfl,rfl,rfl,rfl⟩
  have hs9:=HB9.o.size;have HBf:Hid (Bw (cm s r) w.heap.size w (w9.setCell ⟨s,2,none⟩ (iV (c.goal:Int)))):=HB9.o.grown (af s 2 _) hs9 (fun k e=> .inr (.inl (oj e).symm))
  clear cf;go_wp2_with fail
  go_end0
  exact ⟨rfl,_,_,_,HMf.o,by rw[Hhv.o];exact lm _ _ _ _ _,by rw[Hgv.o];exact lm _ _ _ _ _,by rw[Htv.o];exact lm _ _ _ _ _,HBf.o⟩
end
end
def di (x y:Cl):Bool:=(x.k==y.k)&&((x.n==y.n)&&(x.nm.toList==y.nm.toList))
section
attribute [local go_sem] Oper.semAt_some
theorem we (x y:Cl) (w:World):(binOp .eql 81 (.agg #[iV x.k,iV x.n,.string x.nm]) (.agg #[iV y.k,iV y.n,.string y.nm])).run prog w=.ok (.bool (di x y)) w:=by
 rw[run_eql_struct];unfold di
 by_cases h1:x.k=y.k <;> by_cases h2:x.n=y.n <;> by_cases h3:x.nm.toList=y.nm.toList
 all_goals simp[go_sem,Tryz.underlying81,Tryz.underlying3,Tryz.underlying9,h1,h2,h3]
theorem vz (x y:Cl) (w:World) (p q:Operand):(eqGuard .eql 81 p q (.agg #[iV x.k,iV x.n,.string x.nm]) (.agg #[iV y.k,iV y.n,.string y.nm])).run prog w=.ok () w:=run_eqGuard_agg _ _ _ _ _ _ _ (by kernel_rfl)
theorem f9 (nm:ByteArray) (n:Int) (w:World):Calls prog 110 #[.string nm,iV n] w fun e w'=>e=.returned (.agg #[iV 2,iV n,.string nm])/\Below w.heap.size w w':=by
 go_enter Tryz.func110,Tryz.ntmps110
 go_wp2_with fail;exact bodyPost_ret (v:=.agg #[iV 2,iV n,.string nm]) (by simp[results,Tryz.results110,go_sem]) rfl ⟨rfl,bA⟩
theorem Mv {H B:Tm} {c:Cl} {bx:Nat} (w:World) (hc:w.heap[bx]?=some (.cells #[iV c.k,iV c.n,.string c.nm] 81)):
 Calls prog 162 #[.agg #[iV H.v,.string H.nm,.slice H.a H.len H.cap,.slice B.a B.len B.cap],.pointer (some ⟨bx,0,none⟩)] w fun e w'=>e=.returned (.bool (di ⟨2,H.len,H.nm⟩ c))/\Below w.heap.size w w':=by
 have HBa:Hid (Below w.heap.size w (w.alloc (.cells #[iV H.v,.string H.nm,.slice H.a H.len H.cap,.slice B.a B.len B.cap] 107))):=bA;have HXa:Hid ((w.alloc (.cells #[iV H.v,.string H.nm,.slice H.a H.len H.cap,.slice B.a B.len B.cap] 107)).heap[w.heap.size]?=some (.cells #[iV H.v,.string H.nm,.slice H.a H.len H.cap,.slice B.a B.len B.cap] 107)):=hZ _ _;have hsa:(w.alloc (.cells #[iV H.v,.string H.nm,.slice H.a H.len H.cap,.slice B.a B.len B.cap] 107)).heap.size=w.heap.size+1:=by simp
 have hbl:bx<w.heap.size:=(aZ hc);have hE:=we ⟨2,H.len,H.nm⟩ c;have hEG:=vz ⟨2,H.len,H.nm⟩ c;simp only at hE hEG;generalize hwa:w.alloc (.cells #[iV H.v,.string H.nm,.slice H.a H.len H.cap,.slice B.a B.len B.cap] 107)=wa at*
 have HKp:Hid (∀W,Below wa.heap.size wa W->(W.cell? (dZ w.heap.size 1)=some (.string H.nm)/\W.cell? (dZ w.heap.size 2)=some (.slice H.a H.len H.cap))/\W.cell? (dZ bx 0)=some (iV c.k)/\W.cell? (dZ bx 1)=some (iV c.n)/\W.cell? (dZ bx 2)=some (.string c.nm)):=fun W hW=>by
  have h1:=(hW.block w.heap.size (by omega)).trans HXa.o
  have h2:=(hW.block bx (by omega)).trans ((HBa.o.block bx hbl).trans hc)
  exact ⟨⟨by simp[World.cell?,h1],by simp[World.cell?,h1]⟩,(ae h2).1,(ae h2).2.1,(ae h2).2.2.1⟩
 obtain ⟨⟨x1,x2⟩,y0,y1,y2⟩:=HKp.o wa bR;have HB0:Hid (Below wa.heap.size wa wa):=bR;clear hc
 go_enter Tryz.func162,Tryz.ntmps162
 go_wp2_with fail
 go_region_held3 (fun W=>(W.cell? (dZ w.heap.size 1)=some (.string H.nm)/\W.cell? (dZ w.heap.size 2)=some (.slice H.a H.len H.cap))/\W.cell? (dZ bx 0)=some (iV c.k)/\W.cell? (dZ bx 1)=some (iV c.n)/\W.cell? (dZ bx 2)=some (.string c.nm)) ((refine HKp.o _ ?_;repeat (first|exact HB0.o|refine Below.drew ?_))) (first
  | (go_at_call 110
     refine (f9 _ _ _).mono ?_;rintro e wk ⟨rfl,hb⟩;replace HB0:Hid (Below wa.heap.size wa wk):=Below.trans (by repeat (first|exact HB0.o|refine Below.drew ?_)) (hb.mono HB0.o.size)
     clear hb))
 all_goals
  go_wp2_with fail;go_ret;exact ⟨rfl,jl HBa.o (by repeat (first|exact HB0.o|refine Below.drew ?_))⟩
theorem Mg {a:Option Addr} {m cap bx:Nat} {c:Cl} {hd bd:Nat->Tm} (w:World) (hR: ∀i,i<m->wu w a i (hd i) (bd i)) (hc:w.heap[bx]?=some (.cells #[iV c.k,iV c.n,.string c.nm] 81)) (hm:m<=1000000):
 Calls prog 161 #[.slice a m cap,.func (.func 162) #[] #[.pointer (some ⟨bx,0,none⟩)]] w fun e w'=>Below w.heap.size w w'/\((e=.returned (iV (-1))/\∀j,j<m->di ⟨2,(hd j).len,(hd j).nm⟩ c=false)\/∃j,j<m/\e=.returned (iV (j:Int))/\di ⟨2,(hd j).len,(hd j).nm⟩ c=true/\∀k,k<j->di ⟨2,(hd k).len,(hd k).nm⟩ c=false):=by
 have HR:Hid (∀W,Below w.heap.size w W->∀i,i<m->wu W a i (hd i) (bd i)):=fun W hW i hi=>(hR i hi).below hW
 have hbl:bx<w.heap.size:=(aZ hc);have HC:Hid (∀W,Below w.heap.size w W->W.heap[bx]?=some (.cells #[iV c.k,iV c.n,.string c.nm] 81)):=fun W hW=>(hW.block bx hbl).trans hc
 clear hR hc
 go_enter Tryz.func161,Tryz.ntmps161
 go_wp2_with fail
 go_loopw [8] (fun x wr=>∃i:Nat,i<=m/\x=iV i/\(∀j,j<i->di ⟨2,(hd j).len,(hd j).nm⟩ c=false)/\Below w.heap.size w wr) (fun x _=>m-(intOf x).toNat)
 case atStart=>exact ⟨0,oZ,rfl,fun j hj=>absurd hj (nL j),bR⟩
 case round=>
  obtain ⟨i,hi,rfl,hk,hb⟩:=hrel;have HK:=hid hk;have HB:=hid hb;clear hk hb
  by_cases hlt:i<m
  case neg=>
   have hI: ¬((i:Int)<(m:Int)):=by omega
   go_wp2_with fail;go_ret;exact ⟨HB.o,.inl ⟨rfl,fun j hj=>HK.o j (by omega)⟩⟩
  have hI:(i:Int)<(m:Int):=by omega
  obtain ⟨b,o,ha,c0,c1,c2,c3⟩:=HR.o wr HB.o i hlt;subst ha;have HF:Hid (Calls prog 162 #[.agg #[iV (hd i).v,.string (hd i).nm,.slice (hd i).a (hd i).len (hd i).cap,.slice (bd i).a (bd i).len (bd i).cap],pZ bx] wr fun e w'=>e=.returned (.bool (di ⟨2,(hd i).len,(hd i).nm⟩ c))/\Below wr.heap.size wr w'):=Mv wr (HC.o wr HB.o)
  go_wp2_with fail;refine HF.o.mono ?_;rintro e w1 ⟨rfl,hb1⟩;have HB1:=hid (jl HB.o hb1);clear hb1 c0 c1 c2 c3
  cases hs:di ⟨2,(hd i).len,(hd i).nm⟩ c with
  |true=>
   have HS:=hid hs;clear hs;go_wp2_with fail;go_ret;exact ⟨HB1.o,.inr ⟨i,hlt,rfl,HS.o,HK.o⟩⟩
  |false=>
   have HS:=hid hs;clear hs;go_wp2_with fail;go_roundw
   case rel=>exact ⟨i+1,by omega,by go_num,fun j hj=>by by_cases e:j=i;(·rw[e];exact HS.o);(·exact HK.o j (by omega)),HB1.o⟩
   case measure=>simp[intOf];omega
theorem qz (H T:Tm):di ⟨2,H.len,H.nm⟩ ⟨2,T.len,T.nm⟩=gn H T.nm T.len:=by
 unfold di gn
 by_cases h1:H.len=T.len <;> by_cases h2:H.nm.toList=T.nm.toList <;> simp[h1,h2] <;> omega
theorem Ly {s:Nat} {r:Rn} (T:Tm) (i:Nat) (w:World) (hr:o9 w s r) (hP:kg w r.P) (hc:r.P.len<=r.P.cap) (hm:r.P.len<=1000) (hi:i<=r.P.len):
 Calls prog 138 #[.pointer (some ⟨s,0,none⟩),.agg #[iV 2,iV (T.len:Int),.string T.nm],iV i] w fun e w'=>e=.returned (iV (jq (cj (bm r.P) T i)))/\Below w.heap.size w w':=by
 have hs:=hr.lt;have HBx:Hid (Below w.heap.size w (w.alloc (.cells #[iV 2,iV (T.len:Int),.string T.nm] 81))):=bA;have HX0:Hid ((w.alloc (.cells #[iV 2,iV (T.len:Int),.string T.nm] 81)).heap[w.heap.size]?=some (.cells #[iV 2,iV (T.len:Int),.string T.nm] 81)):=hZ w _;obtain ⟨_,⟨_,_,_,c9,_⟩,_⟩:=(hr.kept (HBx.o.block s hs)).get;obtain ⟨a',hsl,hao⟩:=P3 r.P.a r.P.len r.P.cap i hi hc
 have HRow:Hid (∀W,Below w.heap.size w W->∀j,j<r.P.len-i->wu W a' j (r.P.hd (i+j)) (r.P.bd (i+j))):=fun W hW j hj=>by
  obtain ⟨b,o,ha,c0,c1,c2,c3⟩:=((hP.below hW).2 (i+j) (by omega)).1
  refine ⟨b,o+i*4,hao b o ha (by omega),?_⟩
  rw[show o+(i+j)*4=o+i*4+j*4 from by rw[Nat.add_mul];omega]at c0 c1 c2 c3
  exact ⟨c0,c1,c2,c3⟩
 have HNo:Hid ((∀j,j<r.P.len-i->di ⟨2,((r.P.hd (i+j)).len:Int),(r.P.hd (i+j)).nm⟩ ⟨2,(T.len:Int),T.nm⟩=false)->cj (bm r.P) T i=none):=fun h=>Ca fun k h1 h2=>by
  have:=h (k-i) (by omega)
  rw[qz,show i+(k-i)=k from by omega]at this
  exact this
 have HYes:Hid (∀j,j<r.P.len-i->di ⟨2,((r.P.hd (i+j)).len:Int),(r.P.hd (i+j)).nm⟩ ⟨2,(T.len:Int),T.nm⟩=true->(∀k,k<j->di ⟨2,((r.P.hd (i+k)).len:Int),(r.P.hd (i+k)).nm⟩ ⟨2,(T.len:Int),T.nm⟩=false)->cj (bm r.P) T i=some (i+j)):=fun j hj h1 h2=>B8 (by omega) (by omega) (by rw[<-qz];exact h1) fun k h3 h4=>by
  have:=h2 (k-i) (by omega)
  rw[qz,show i+(k-i)=k from by omega]at this
  exact this
 generalize hcell:w.alloc (.cells #[iV 2,iV (T.len:Int),.string T.nm] 81)=wa at*
 have HIx:Hid (∀cp,Calls prog 161 #[.slice a' (r.P.len-i) cp,.func (.func 162) #[] #[pZ w.heap.size]] wa fun e w'=>Below wa.heap.size wa w'/\((e=.returned (iV (-1))/\cj (bm r.P) T i=none)\/∃j,j<r.P.len-i/\e=.returned (iV (j:Int))/\cj (bm r.P) T i=some (i+j))):=fun cp=>
  (Mg (c:=⟨2,(T.len:Int),T.nm⟩) (hd:=fun j=>r.P.hd (i+j)) (bd:=fun j=>r.P.bd (i+j)) wa (HRow.o wa HBx.o) HX0.o (by omega)).mono (by
    rintro e w' ⟨hb,⟨he,hn⟩| ⟨j,hj,he,hy,hn⟩⟩
    .exact ⟨hb,.inl ⟨he,HNo.o hn⟩⟩
    .exact ⟨hb,.inr ⟨j,hj,he,HYes.o j hj hy hn⟩⟩)
 clear hr hP hao HRow HNo HYes HX0;generalize hfp:cj (bm r.P) T i=fp at*;clear hfp
 go_enter Tryz.func138,Tryz.ntmps138
 go_wp2_with fail;refine (HIx.o _).mono ?_;rintro e w1 ⟨hb1,⟨rfl,hn⟩| ⟨j,hj,rfl,hn⟩⟩
 .have HB1:=hid (jl HBx.o hb1)
  subst hn;clear hb1 c9;go_wp2_with fail;go_ret;exact ⟨rfl,HB1.o⟩
 .have HB1:=hid (jl HBx.o hb1)
  subst hn;have hwr:IntKind.i64.wrap ((i:Int)+(j:Int))=(i:Int)+(j:Int):=by simp[IntKind.wrap,IntKind.bits,IntKind.signed];omega
  clear hb1 c9;go_wp2_with fail;go_ret;exact ⟨by show _=Ending.returned (iV ((i+j:Nat):Int));rw[Int.natCast_add];rfl,HB1.o⟩
end
end Go.Proofs.YtmggaclaoefdaabGreat
