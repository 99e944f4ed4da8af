/- Part of the proof. -/
import Derived.Test.YtmggaclaoefdaabGreatGBT
import Derived.Laws.EntriesVeiled
import Derived.Laws.Shifts
import Derived.Laws.ShiftsVar
import Derived.Laws.ShiftsVarLaws
import Derived.Shelf.Bits.Mul64
namespace Go.Proofs.YtmggaclaoefdaabGreat
open Go.RowKit Go.Shelf Go.Proofs.Tryz
set_option linter.unusedVariables false
set_option linter.unusedSimpArgs false
set_option maxRecDepth 100000
set_option maxHeartbeats 8000000
section
attribute [local go_sem] Oper.semAt_some
def ii (m:Mi):Bool:=cq (fun j=>!fb m.hl (m.g j).at_) m.gl&&(cq (fun j=>!fb m.hl (m.t j)) m.tl&&cq (fun j=>!fb m.hl (m.q j)) m.ql)
def zi (m:Mi) (c:Int):Prop:=(c≠0/\zj m.h m.hl c)\/(zj m.h m.hl 0/\(((m.gl>5000\/m.ql>12)/\c=2)\/(¬(m.gl>5000\/m.ql>12)/\((ii m=false/\c=5)\/(ii m=true/\c=0)))))
theorem zi.same {m:Mi} {c c':Int} (H:zi m c) (H':zi m c'):c=c':=by
 rcases H with ⟨h1,h2⟩| ⟨h1,h2⟩
 .rcases H' with ⟨k1,k2⟩| ⟨k1,k2⟩
  .exact h2.same k2
  .exact absurd (h2.same k1) h1
 .rcases H' with ⟨k1,k2⟩| ⟨k1,k2⟩
  .exact absurd (k2.same h1) k1
  .rcases h2 with ⟨a,b⟩| ⟨a,b⟩ <;> rcases k2 with ⟨a',b'⟩| ⟨a',b'⟩
   .omega
   .exact absurd a a'
   .exact absurd a' a
   .rcases b with ⟨b1,b2⟩| ⟨b1,b2⟩ <;> rcases b' with ⟨d1,d2⟩| ⟨d1,d2⟩
    .omega
    .rw[b1]at d1;cases d1
    .rw[b1]at d1;cases d1
    .omega
theorem En {m:Mi} (w:World) (hm:vv w m):
 Calls prog 33 #[.agg m.cells] w fun e w'=>∃c:Int,e=.returned (iV c)/\zi m c/\Below w.heap.size w w':=by
 have HX:Hid ((w.alloc (.cells m.cells 31)).heap[w.heap.size]?=some (.cells m.cells 31)):=hZ _ _;have HBa:Hid (Below w.heap.size w (w.alloc (.cells m.cells 31))):=bA;have HM:Hid (∀W,Below w.heap.size w W->vv W m):=fun W hW=>hm.below hW
 obtain ⟨hbg,hbc,hbt,hbq⟩:=hm.big;have hsz:(w.alloc (.cells m.cells 31)).heap.size=w.heap.size+1:=by simp
 clear hm
 go_enter Tryz.func33,Tryz.ntmps33
 rw[show Value.agg m.cells=.agg #[.slice m.ha m.hl m.hc,.slice m.ga m.gl m.gc,iV m.first,.slice m.ca m.cl m.cc,.slice m.ta m.tl m.tc,.slice m.qa m.ql m.qc,iV m.st,iV m.fin,.slice m.aa m.al m.ac]from rfl]
 have HCh:=hid (Ew _ (HM.o _ HBa.o).h (HM.o _ HBa.o).hc);obtain ⟨⟨x0,_⟩,_⟩:=Mi.get HX.o;have hW:w.alloc (.cells #[.slice m.ha m.hl m.hc,.slice m.ga m.gl m.gc,iV m.first,.slice m.ca m.cl m.cc,.slice m.ta m.tl m.tc,.slice m.qa m.ql m.qc,iV m.st,iV m.fin,.slice m.aa m.al m.ac] 31)=w.alloc (.cells m.cells 31):=rfl;generalize w.alloc (.cells m.cells 31)=wa at*;go_wp2_with fail;clear x0 hW;refine HCh.o.mono ?_;rintro e w1 ⟨c,rfl,hc,hb1⟩;have HB1:=hid (HBa.o.trans (hb1.mono HBa.o.size));have HX1:=hid ((hb1.block _ (by omega)).trans HX.o)
 have hs1:w.heap.size<w1.heap.size:=(aZ HX1.o);have HC:=hid hc;clear hc hb1 HCh
 by_cases hc0:c=0
 case neg=>
  have hcb:=bne_iff_ne.2 hc0;have HN:=hid hc0;clear hc0;go_wp2_with fail;go_ret;exact ⟨c,rfl,.inl ⟨HN.o,HC.o⟩,HB1.o⟩
 subst hc0;obtain ⟨⟨_,x1,_,_,_⟩,⟨x5,_⟩,_⟩:=Mi.get HX1.o
 by_cases h1:(m.gl:Int)>5000
 case pos=>
  have HP:Hid (m.gl>5000\/m.ql>12):=.inl (by omega)
  go_wp2_with fail;go_ret;exact ⟨2,rfl,.inr ⟨HC.o,.inl ⟨HP.o,rfl⟩⟩,HB1.o⟩
 by_cases h2:(m.ql:Int)>12
 case pos=>
  have HP:Hid (m.gl>5000\/m.ql>12):=.inr (by omega)
  go_wp2_with fail;go_ret;exact ⟨2,rfl,.inr ⟨HC.o,.inl ⟨HP.o,rfl⟩⟩,HB1.o⟩
 have HN:Hid (¬(m.gl>5000\/m.ql>12)):=by rw[Hid];omega
 have hmf: ∀(fn:Fn) (first cap:Array Value) (w:World),(Instr.makeFunc fn first cap).run prog w=.ok (.func fn first cap) w:=fun _ _ _ _=>rfl
 have HB2:Hid (Below w.heap.size w (w1.alloc (.cells #[.func (.func 63) #[] #[pZ w.heap.size]] 110))):=HB1.o.trans (bA.mono HB1.o.size);have HN2:Hid ((w1.alloc (.cells #[.func (.func 63) #[] #[pZ w.heap.size]] 110)).heap[w1.heap.size]?=some (.cells #[.func (.func 63) #[] #[pZ w.heap.size]] 110)):=hZ _ _;have HX2:Hid ((w1.alloc (.cells #[.func (.func 63) #[] #[pZ w.heap.size]] 110)).heap[w.heap.size]?=some (.cells m.cells 31)):=(jZ _ _ hs1).trans HX1.o;obtain ⟨⟨_,y1,_,_,_⟩,_⟩:=Mi.get HX2.o;have hs2:w1.heap.size<(w1.alloc (.cells #[.func (.func 63) #[] #[pZ w.heap.size]] 110)).heap.size:=(aZ HN2.o);have HG:Hid (Calls prog 64 #[.slice m.ga m.gl m.gc,.func (.func 65) #[] #[pZ w1.heap.size]] (w1.alloc (.cells #[.func (.func 63) #[] #[pZ w.heap.size]] 110)) fun e w'=>e=.returned (.bool (!cq (fun j=>!fb m.hl (m.g j).at_) m.gl))/\Below (w1.alloc (.cells #[.func (.func 63) #[] #[pZ w.heap.size]] 110)).heap.size (w1.alloc (.cells #[.func (.func 63) #[] #[pZ w.heap.size]] 110)) w'):=I5 m.g _ (fun W hW i hi=>(HM.o W (HB2.o.trans (hW.mono HB2.o.size))).g i hi) HX2.o HN2.o (by omega)
 go_wp2_with fail;generalize w1.alloc (.cells #[.func (.func 63) #[] #[pZ w.heap.size]] 110)=w2 at*;refine HG.o.mono ?_;rintro e w3 ⟨rfl,hb3⟩;have HB3:=hid (HB2.o.trans (hb3.mono HB2.o.size));have HX3:=hid ((hb3.block _ (by omega)).trans HX2.o)
 have HN3:=hid ((hb3.block _ (by omega)).trans HN2.o)
 have hs3:=hb3.size;clear hb3 HG y1 x1 x5
 cases hg:cq (fun j=>!fb m.hl (m.g j).at_) m.gl with
 |false=>
  have HT:Hid (ii m=false):=by rw[Hid];unfold ii;rw[hg];rfl
  rw[show (!false)=true from rfl]
  clear hg;go_wp2_with fail;go_ret;exact ⟨5,rfl,.inr ⟨HC.o,.inr ⟨HN.o,.inl ⟨HT.o,rfl⟩⟩⟩,HB3.o⟩
 |true=>
  have Hg:=hid hg;rw[show (!true)=false from rfl]
  clear hg;obtain ⟨⟨_,_,_,_,z4⟩,⟨z5,_⟩,_⟩:=Mi.get HX3.o;have zn:w3.cell? (dZ w1.heap.size 0)=some (.func (.func 63) #[] #[pZ w.heap.size]):=by simp[World.cell?,HN3.o]
  have HT3:Hid (∀W,Below w3.heap.size w3 W->Calls prog 66 #[.slice m.ta m.tl m.tc,.func (.func 63) #[] #[pZ w.heap.size]] W fun e w'=>e=.returned (.bool (!cq (fun j=>!fb m.hl (m.t j)) m.tl))/\Below W.heap.size W w'):=fun W hW=>yt m.t _ (fun W' hW' i hi=>(HM.o W' (HB3.o.trans ((hW.trans (hW'.mono hW.size)).mono HB3.o.size))).t i hi) ((hW.block _ (by omega)).trans HX3.o) (by omega)
  have HQ3:Hid (∀W,Below w3.heap.size w3 W->Calls prog 66 #[.slice m.qa m.ql m.qc,.func (.func 63) #[] #[pZ w.heap.size]] W fun e w'=>e=.returned (.bool (!cq (fun j=>!fb m.hl (m.q j)) m.ql))/\Below W.heap.size W w'):=fun W hW=>yt m.q _ (fun W' hW' i hi=>(HM.o W' (HB3.o.trans ((hW.trans (hW'.mono hW.size)).mono HB3.o.size))).q i hi) ((hW.block _ (by omega)).trans HX3.o) (by omega)
  cases ht:cq (fun j=>!fb m.hl (m.t j)) m.tl with
  |false=>
   have HT:Hid (ii m=false):=by rw[Hid];unfold ii;rw[Hg.o,ht];rfl
   rw[ht]at HT3;clear ht;go_wp2_with fail;refine (HT3.o _ bR).mono ?_;rintro e w4 ⟨rfl,hb4⟩;have HB4:=hid (HB3.o.trans (hb4.mono HB3.o.size));clear hb4;go_wp2_with fail;go_ret;exact ⟨5,rfl,.inr ⟨HC.o,.inr ⟨HN.o,.inl ⟨HT.o,rfl⟩⟩⟩,HB4.o⟩
  |true=>
   have Ht:=hid ht;rw[ht]at HT3;clear ht;go_wp2_with fail;refine (HT3.o _ bR).mono ?_;rintro e w4 ⟨rfl,hb4⟩;have HB4:=hid (HB3.o.trans (hb4.mono HB3.o.size));have HB34:=hid hb4;have u5:=(hb4.cell (p:=(dZ w.heap.size 5)) (ag z5)).trans z5;have un:=(hb4.cell (p:=(dZ w1.heap.size 0)) (ag zn)).trans zn;clear hb4 z4 z5 zn
   cases hq:cq (fun j=>!fb m.hl (m.q j)) m.ql with
   |false=>
    have HT:Hid (ii m=false):=by rw[Hid];unfold ii;rw[Hg.o,Ht.o,hq];rfl
    rw[hq]at HQ3;clear hq;go_wp2_with fail;refine (HQ3.o _ HB34.o).mono ?_;rintro e w5 ⟨rfl,hb5⟩;have HB5:=hid (HB4.o.trans (hb5.mono HB4.o.size));clear hb5;go_wp2_with fail;go_ret;exact ⟨5,rfl,.inr ⟨HC.o,.inr ⟨HN.o,.inl ⟨HT.o,rfl⟩⟩⟩,HB5.o⟩
   |true=>
    have HT:Hid (ii m=true):=by rw[Hid];unfold ii;rw[Hg.o,Ht.o,hq];rfl
    rw[hq]at HQ3;clear hq;go_wp2_with fail;refine (HQ3.o _ HB34.o).mono ?_;rintro e w5 ⟨rfl,hb5⟩;have HB5:=hid (HB4.o.trans (hb5.mono HB4.o.size));clear hb5;go_wp2_with fail;go_ret;exact ⟨0,rfl,.inr ⟨HC.o,.inr ⟨HN.o,.inr ⟨HT.o,rfl⟩⟩⟩,HB5.o⟩
def Ql (m:Mi) (n:Nat):Prop:=∀i,i<n->0<=(m.g i).nx/\(m.g i).nx<=i/\0<=(m.g i).cut
def Jy (m:Mi):Prop:=Ql m m.gl/\0<=m.first/\m.first<=m.gl
theorem dc {n a b:Int} {r:Bool} (h:r=(decide (a<=n)&&decide (n<=b))) (W:World):Calls prog 37 #[iV n,iV a,iV b] W fun e w'=>e=.returned (.bool r)/\w'=W:=by
 subst h;exact mz n a b W
theorem C2 {m:Mi} (w:World) (hm:vv w m):
 Calls prog 34 #[.agg m.cells] w fun e w'=>∃b:Bool,e=.returned (.bool b)/\(b=true↔Jy m)/\Below w.heap.size w w':=by
 have HX:Hid ((w.alloc (.cells m.cells 31)).heap[w.heap.size]?=some (.cells m.cells 31)):=hZ _ _;have HBa:Hid (Below w.heap.size w (w.alloc (.cells m.cells 31))):=bA;have HM:Hid (∀W,Below w.heap.size w W->vv W m):=fun W hW=>hm.below hW
 obtain ⟨hbg,hbc,hbt,hbq⟩:=hm.big;have hsz:(w.alloc (.cells m.cells 31)).heap.size=w.heap.size+1:=by simp
 clear hm
 go_enter Tryz.func34,Tryz.ntmps34
 rw[show Value.agg m.cells=.agg #[.slice m.ha m.hl m.hc,.slice m.ga m.gl m.gc,iV m.first,.slice m.ca m.cl m.cc,.slice m.ta m.tl m.tc,.slice m.qa m.ql m.qc,iV m.st,iV m.fin,.slice m.aa m.al m.ac]from rfl]
 obtain ⟨⟨_,x1,_⟩,_⟩:=Mi.get HX.o;have hW:w.alloc (.cells #[.slice m.ha m.hl m.hc,.slice m.ga m.gl m.gc,iV m.first,.slice m.ca m.cl m.cc,.slice m.ta m.tl m.tc,.slice m.qa m.ql m.qc,iV m.st,iV m.fin,.slice m.aa m.al m.ac] 31)=w.alloc (.cells m.cells 31):=rfl;generalize w.alloc (.cells m.cells 31)=wa at*;go_wp2_with fail;clear x1 hW
 go_loopw [8] (fun x wr=>∃i:Nat,i<=m.gl/\x=iV i/\Ql m i/\Below wa.heap.size wa wr) (fun x _=>m.gl-(intOf x).toNat)
 case atStart=>exact ⟨0,oZ,rfl,fun j hj=>absurd hj (nL j),bR⟩
 case round=>
  obtain ⟨i,hi,rfl,hk,hb⟩:=hrel;have HK:=hid hk;have HB:=hid hb;have HB0:=hid (HBa.o.trans (hb.mono HBa.o.size));have HXr:=hid ((hb.block _ (by omega)).trans HX.o)
  clear hk hb
  by_cases hil:i<m.gl
  case neg=>
   have hiI: ¬((i:Int)<(m.gl:Int)):=by omega
   obtain rfl:i=m.gl:=by omega
   obtain ⟨⟨_,y1,y2,_⟩,_⟩:=Mi.get HXr.o;have HWi:Hid (∀W,Calls prog 37 #[iV m.first,iV 0,iV (m.gl:Int)] W fun e w'=>e=.returned (.bool (decide (0<=m.first)&&decide (m.first<=(m.gl:Int))))/\w'=W):=fun W=>dc rfl W
   go_wp2_with fail;refine (HWi.o _).mono ?_;rintro e w1 ⟨rfl,rfl⟩;go_wp2_with fail;go_ret;refine ⟨_,rfl,?_,HB0.o⟩;have:=HK.o;unfold Jy;simp[this]
  have hiI:(i:Int)<(m.gl:Int):=by omega
  obtain ⟨b,o,hga,c0,c1,c2⟩:=(HM.o wr HB0.o).g i hil;rw[hga];have HBg:Hid (Below wa.heap.size wa (wr.alloc (.cells #[iV (m.g i).at_,iV (m.g i).cut,iV (m.g i).nx] 76))):=HB.o.trans (bA.mono HB.o.size);obtain ⟨a0,a1,a2,_⟩:=ae (hZ wr (.cells #[iV (m.g i).at_,iV (m.g i).cut,iV (m.g i).nx] 76))
  by_cases hn:0<=(m.g i).nx/\(m.g i).nx<=i
  case neg=>
   have HWi:Hid (∀W,Calls prog 37 #[iV (m.g i).nx,iV 0,iV (i:Int)] W fun e w'=>e=.returned (.bool false)/\w'=W):=fun W=>dc (by simp;omega) W
   have HN:Hid (¬Jy m):=fun h=>hn ⟨(h.1 i hil).1,(h.1 i hil).2.1⟩
   clear hn;go_wp2_with fail;refine (HWi.o _).mono ?_;rintro e w1 ⟨rfl,rfl⟩;go_wp2_with fail;go_ret;exact ⟨false,rfl,⟨fun h=>absurd h (by decide),fun h=>absurd h HN.o⟩,HBa.o.trans (HBg.o.mono HBa.o.size)⟩
  have HWi:Hid (∀W,Calls prog 37 #[iV (m.g i).nx,iV 0,iV (i:Int)] W fun e w'=>e=.returned (.bool true)/\w'=W):=fun W=>dc (by simp;omega) W
  by_cases hcu:(m.g i).cut<0
  case pos=>
   have HN:Hid (¬Jy m):=fun h=>by have:=(h.1 i hil).2.2;omega
   clear hn;go_wp2_with fail;refine (HWi.o _).mono ?_;rintro e w1 ⟨rfl,rfl⟩;go_wp2_with fail;go_ret;exact ⟨false,rfl,⟨fun h=>absurd h (by decide),fun h=>absurd h HN.o⟩,HBa.o.trans (HBg.o.mono HBa.o.size)⟩
  have HK1:Hid (Ql m (i+1)):=fun j hj=>by
   by_cases e:j<i
   .exact HK.o j e
   .obtain rfl:j=i:=by omega
    exact ⟨hn.1,hn.2,by omega⟩
  clear hn;go_wp2_with fail;refine (HWi.o _).mono ?_;rintro e w1 ⟨rfl,rfl⟩;go_wp2_with fail;go_roundw
  case rel=>exact ⟨i+1,by omega,by go_num,HK1.o,HBg.o⟩
  case measure=>simp[intOf];omega
def Ci.cells (c:Ci):Array Value:= #[iV c.goal,iV c.cl,iV c.hp,iV c.tr,iV c.gs]
def sj:Ci:=⟨0,0,0,0,0⟩
def je (m:Mi):Nat->Ci|0=>sj|k+1=>m.c k
theorem Ci.get {W:World} {k:Nat} {c:Ci} {t:TypeId} (h:W.heap[k]?=some (.cells c.cells t)):(W.cell? ⟨k,0,none⟩=some (iV c.goal)/\W.cell? ⟨k,1,none⟩=some (iV c.cl)/\W.cell? ⟨k,2,none⟩=some (iV c.hp)/\W.cell? ⟨k,3,none⟩=some (iV c.tr)/\W.cell? ⟨k,4,none⟩=some (iV c.gs))/\∀i,W.frozen? ⟨k,i,none⟩=false:=by
 refine ⟨⟨?_,?_,?_,?_,?_⟩,fun i=>?_⟩ <;> simp[World.cell?,World.frozen?,h,Ci.cells]
def qi (W:World) (k:Nat) (c:Ci):World:=((((W.setCell ⟨k,0,none⟩ (iV c.goal)).setCell ⟨k,1,none⟩ (iV c.cl)).setCell ⟨k,2,none⟩ (iV c.hp)).setCell ⟨k,3,none⟩ (iV c.tr)).setCell ⟨k,4,none⟩ (iV c.gs)
theorem Ba {W:World} {k:Nat} {r0 r:Ci} {t:TypeId} (h:W.heap[k]?=some (.cells r0.cells t)):(qi W k r).heap[k]?=some (.cells r.cells t)/\W.grownBy (qi W k r) (some k):=by
 refine ⟨?_,?_⟩
 .unfold qi
  simp only[World.setCell,Array.getElem?_modify];simp[h,Ci.cells]
 .exact G.trans (G.trans (G.trans (G.trans (af k 0 _) (af k 1 _)) (af k 2 _)) (af k 3 _)) (af k 4 _)
def BR (p:Prop) (w:World) (e:Ending) (w':World):Prop:=∃b:Bool,e=.returned (.bool b)/\(b=true↔p)/\Below w.heap.size w w'
structure Qn (m:Mi) (n:Int) (k:Nat):Prop where
 h:(je m k).hp<=(m.c k).hp/\(m.c k).hp<=m.hl
 t:(je m k).tr<=(m.c k).tr/\(m.c k).tr<=m.tl
 g:(je m k).gs<=(m.c k).gs/\(m.c k).gs<=m.gl
 a:1<=(m.c k).goal/\(m.c k).goal<=(m.c k).gs
 c:0<=(m.c k).cl/\(m.c k).cl<=n
def oi (m:Mi) (n:Int):Prop:=∀k,k<m.cl->Qn m n k
theorem Io {m:Mi} (n:Int) (w:World) (hm:vv w m):
 Calls prog 35 #[.agg m.cells,iV n] w (BR (oi m n) w):=by
 have HX:Hid ((w.alloc (.cells m.cells 31)).heap[w.heap.size]?=some (.cells m.cells 31)):=hZ _ _;have HBa:Hid (Below w.heap.size w (w.alloc (.cells m.cells 31))):=bA;have HM:Hid (∀W,Below w.heap.size w W->vv W m):=fun W hW=>hm.below hW
 obtain ⟨hbg,hbc,hbt,hbq⟩:=hm.big;have hsz:w.heap.size<(w.alloc (.cells m.cells 31)).heap.size:=(aZ HX.o);clear hm
 go_enter Tryz.func35,Tryz.ntmps35
 rw[show Value.agg m.cells=.agg #[.slice m.ha m.hl m.hc,.slice m.ga m.gl m.gc,iV m.first,.slice m.ca m.cl m.cc,.slice m.ta m.tl m.tc,.slice m.qa m.ql m.qc,iV m.st,iV m.fin,.slice m.aa m.al m.ac]from rfl]
 have hW:w.alloc (.cells #[.slice m.ha m.hl m.hc,.slice m.ga m.gl m.gc,iV m.first,.slice m.ca m.cl m.cc,.slice m.ta m.tl m.tc,.slice m.qa m.ql m.qc,iV m.st,iV m.fin,.slice m.aa m.al m.ac] 31)=w.alloc (.cells m.cells 31):=rfl;generalize w.alloc (.cells m.cells 31)=wa at*;have HL:Hid ((wa.alloc (.cells sj.cells 78)).heap[wa.heap.size]?=some (.cells sj.cells 78)):=hZ _ _;have HBb:Hid (Below wa.heap.size wa (wa.alloc (.cells sj.cells 78))):=bA;have hW2:wa.alloc (.cells #[iV 0,iV 0,iV 0,iV 0,iV 0] 78)=wa.alloc (.cells sj.cells 78):=rfl;generalize wa.alloc (.cells sj.cells 78)=wb at*;have HXb:=hid ((HBb.o.block _ (by omega)).trans HX.o)
 have HBw:=hid (HBa.o.trans (HBb.o.mono HBa.o.size));have hsb:wa.heap.size<wb.heap.size:=(aZ HL.o);obtain ⟨⟨_,_,_,x3,_⟩,_⟩:=Mi.get HXb.o;go_wp2_with fail;clear x3 hW hW2
 go_loopw [11] (fun x wr=>∃i:Nat,i<=m.cl/\x=iV i/\(∀k,k<i->Qn m n k)/\Below w.heap.size w wr/\wb.heap.size<=wr.heap.size/\wr.heap[w.heap.size]?=some (.cells m.cells 31)/\wr.heap[wa.heap.size]?=some (.cells (je m i).cells 78)) (fun x _=>m.cl-(intOf x).toNat)
 case atStart=>exact ⟨0,oZ,rfl,fun j hj=>absurd hj (nL j),HBw.o,lZ,HXb.o,HL.o⟩
 case round=>
  obtain ⟨i,hi,rfl,hk,hb,hsr,hx,hl⟩:=hrel;have HK:=hid hk;have HB:=hid hb;have HXr:=hid hx;have HLr:=hid hl;clear hk hb hx hl
  by_cases hil:i<m.cl
  case neg=>
   have hiI: ¬((i:Int)<(m.cl:Int)):=by omega
   obtain rfl:i=m.cl:=by omega
   go_wp2_with fail;go_ret;exact ⟨true,rfl,⟨fun _=>HK.o,fun _=>rfl⟩,HB.o⟩
  have hiI:(i:Int)<(m.cl:Int):=by omega
  obtain ⟨b,o,hga,c0,c1,c2,c3,c4⟩:=(HM.o wr HB.o).c i hil;rw[hga];have HG:Hid ((wr.alloc (.cells (m.c i).cells 78)).heap[wr.heap.size]?=some (.cells (m.c i).cells 78)):=hZ _ _;have HBg:Hid (Below wr.heap.size wr (wr.alloc (.cells (m.c i).cells 78))):=bA;have hWg:wr.alloc (.cells #[iV (m.c i).goal,iV (m.c i).cl,iV (m.c i).hp,iV (m.c i).tr,iV (m.c i).gs] 78)=wr.alloc (.cells (m.c i).cells 78):=rfl;generalize wr.alloc (.cells (m.c i).cells 78)=wg at*;have HXg:=hid ((HBg.o.block _ (by omega)).trans HXr.o)
  have HLg:=hid ((HBg.o.block _ (by omega)).trans HLr.o)
  have HBh:=hid (HB.o.trans (HBg.o.mono HB.o.size));have hsg:=HBg.o.size;obtain ⟨⟨x0,x1,_,_,x4⟩,_⟩:=Mi.get HXg.o;obtain ⟨⟨g0,g1,g2,g3,g4⟩,_⟩:=Ci.get HG.o;obtain ⟨⟨l0,l1,l2,l3,l4⟩,lf⟩:=Ci.get HLg.o;have lf0:=lf 0;have lf1:=lf 1;have lf2:=lf 2;have lf3:=lf 3;have lf4:=lf 4;clear lf
  by_cases h0:(je m i).hp<=(m.c i).hp/\(m.c i).hp<=(m.hl:Int)
  case neg=>
   have HW0:Hid (∀W,Calls prog 37 #[iV (m.c i).hp,iV (je m i).hp,iV (m.hl:Int)] W fun e w'=>e=.returned (.bool false)/\w'=W):=fun W=>dc (by simp;omega) W
   have HN:Hid (¬oi m n):=fun h=>h0 (h i hil).h
   clear h0;go_wp2_with fail;refine (HW0.o _).mono ?_;rintro e w1 ⟨rfl,hw⟩;have hw':=hw.symm;clear hw;subst hw';go_wp2_with fail;go_ret;exact ⟨false,rfl,⟨fun h=>absurd h (by decide),fun h=>absurd h HN.o⟩,HBh.o⟩
  have HW0:Hid (∀W,Calls prog 37 #[iV (m.c i).hp,iV (je m i).hp,iV (m.hl:Int)] W fun e w'=>e=.returned (.bool true)/\w'=W):=fun W=>dc (by simp;omega) W
  have HH0:=hid h0;clear h0
  by_cases h1:(je m i).tr<=(m.c i).tr/\(m.c i).tr<=(m.tl:Int)
  case neg=>
   have HW1:Hid (∀W,Calls prog 37 #[iV (m.c i).tr,iV (je m i).tr,iV (m.tl:Int)] W fun e w'=>e=.returned (.bool false)/\w'=W):=fun W=>dc (by simp;omega) W
   have HN:Hid (¬oi m n):=fun h=>h1 (h i hil).t
   clear h1;go_wp2_with fail;refine (HW0.o _).mono ?_;rintro e w1 ⟨rfl,hw⟩;have hw':=hw.symm;clear hw;subst hw';go_wp2_with fail;refine (HW1.o _).mono ?_;rintro e w1 ⟨rfl,hw⟩;have hw':=hw.symm;clear hw;subst hw';go_wp2_with fail;go_ret;exact ⟨false,rfl,⟨fun h=>absurd h (by decide),fun h=>absurd h HN.o⟩,HBh.o⟩
  have HW1:Hid (∀W,Calls prog 37 #[iV (m.c i).tr,iV (je m i).tr,iV (m.tl:Int)] W fun e w'=>e=.returned (.bool true)/\w'=W):=fun W=>dc (by simp;omega) W
  have HH1:=hid h1;clear h1
  by_cases h2:(je m i).gs<=(m.c i).gs/\(m.c i).gs<=(m.gl:Int)
  case neg=>
   have HW2:Hid (∀W,Calls prog 37 #[iV (m.c i).gs,iV (je m i).gs,iV (m.gl:Int)] W fun e w'=>e=.returned (.bool false)/\w'=W):=fun W=>dc (by simp;omega) W
   have HN:Hid (¬oi m n):=fun h=>h2 (h i hil).g
   clear h2;go_wp2_with fail;refine (HW0.o _).mono ?_;rintro e w1 ⟨rfl,hw⟩;have hw':=hw.symm;clear hw;subst hw';go_wp2_with fail;refine (HW1.o _).mono ?_;rintro e w1 ⟨rfl,hw⟩;have hw':=hw.symm;clear hw;subst hw';go_wp2_with fail;refine (HW2.o _).mono ?_;rintro e w1 ⟨rfl,hw⟩;have hw':=hw.symm;clear hw;subst hw';go_wp2_with fail;go_ret;exact ⟨false,rfl,⟨fun h=>absurd h (by decide),fun h=>absurd h HN.o⟩,HBh.o⟩
  have HW2:Hid (∀W,Calls prog 37 #[iV (m.c i).gs,iV (je m i).gs,iV (m.gl:Int)] W fun e w'=>e=.returned (.bool true)/\w'=W):=fun W=>dc (by simp;omega) W
  have HH2:=hid h2;clear h2
  by_cases h3:1<=(m.c i).goal/\(m.c i).goal<=(m.c i).gs
  case neg=>
   have HW3:Hid (∀W,Calls prog 37 #[iV (m.c i).goal,iV 1,iV (m.c i).gs] W fun e w'=>e=.returned (.bool false)/\w'=W):=fun W=>dc (by simp;omega) W
   have HN:Hid (¬oi m n):=fun h=>h3 (h i hil).a
   clear h3;go_wp2_with fail;refine (HW0.o _).mono ?_;rintro e w1 ⟨rfl,hw⟩;have hw':=hw.symm;clear hw;subst hw';go_wp2_with fail;refine (HW1.o _).mono ?_;rintro e w1 ⟨rfl,hw⟩;have hw':=hw.symm;clear hw;subst hw';go_wp2_with fail;refine (HW2.o _).mono ?_;rintro e w1 ⟨rfl,hw⟩;have hw':=hw.symm;clear hw;subst hw';go_wp2_with fail;refine (HW3.o _).mono ?_;rintro e w1 ⟨rfl,hw⟩;have hw':=hw.symm;clear hw;subst hw';go_wp2_with fail;go_ret;exact ⟨false,rfl,⟨fun h=>absurd h (by decide),fun h=>absurd h HN.o⟩,HBh.o⟩
  have HW3:Hid (∀W,Calls prog 37 #[iV (m.c i).goal,iV 1,iV (m.c i).gs] W fun e w'=>e=.returned (.bool true)/\w'=W):=fun W=>dc (by simp;omega) W
  have HH3:=hid h3;clear h3
  by_cases h4:0<=(m.c i).cl/\(m.c i).cl<=n
  case neg=>
   have HW4:Hid (∀W,Calls prog 37 #[iV (m.c i).cl,iV 0,iV n] W fun e w'=>e=.returned (.bool false)/\w'=W):=fun W=>dc (by simp;omega) W
   have HN:Hid (¬oi m n):=fun h=>h4 (h i hil).c
   clear h4;go_wp2_with fail;refine (HW0.o _).mono ?_;rintro e w1 ⟨rfl,hw⟩;have hw':=hw.symm;clear hw;subst hw';go_wp2_with fail;refine (HW1.o _).mono ?_;rintro e w1 ⟨rfl,hw⟩;have hw':=hw.symm;clear hw;subst hw';go_wp2_with fail;refine (HW2.o _).mono ?_;rintro e w1 ⟨rfl,hw⟩;have hw':=hw.symm;clear hw;subst hw';go_wp2_with fail;refine (HW3.o _).mono ?_;rintro e w1 ⟨rfl,hw⟩;have hw':=hw.symm;clear hw;subst hw';go_wp2_with fail;refine (HW4.o _).mono ?_;rintro e w1 ⟨rfl,hw⟩;have hw':=hw.symm;clear hw;subst hw';go_wp2_with fail;go_ret;exact ⟨false,rfl,⟨fun h=>absurd h (by decide),fun h=>absurd h HN.o⟩,HBh.o⟩
  have HW4:Hid (∀W,Calls prog 37 #[iV (m.c i).cl,iV 0,iV n] W fun e w'=>e=.returned (.bool true)/\w'=W):=fun W=>dc (by simp;omega) W
  have HH4:=hid h4;clear h4
  have HK1:Hid (∀k,k<i+1->Qn m n k):=fun j hj=>by
   by_cases e:j<i
   .exact HK.o j e
   .obtain rfl:j=i:=by omega
    exact ⟨HH0.o,HH1.o,HH2.o,HH3.o,HH4.o⟩
  go_wp2_with fail;refine (HW0.o _).mono ?_;rintro e w1 ⟨rfl,hw⟩;have hw':=hw.symm;clear hw;subst hw';go_wp2_with fail;refine (HW1.o _).mono ?_;rintro e w1 ⟨rfl,hw⟩;have hw':=hw.symm;clear hw;subst hw';go_wp2_with fail;refine (HW2.o _).mono ?_;rintro e w1 ⟨rfl,hw⟩;have hw':=hw.symm;clear hw;subst hw';go_wp2_with fail;refine (HW3.o _).mono ?_;rintro e w1 ⟨rfl,hw⟩;have hw':=hw.symm;clear hw;subst hw';go_wp2_with fail;refine (HW4.o _).mono ?_;rintro e w1 ⟨rfl,hw⟩;have hw':=hw.symm;clear hw;subst hw';obtain ⟨hW1,hW2⟩:=Ba (r:=m.c i) HLg.o;have hf0:(qi wg wa.heap.size (m.c i)).heap[w.heap.size]?=some (.cells m.cells 31):=(hW2.block _ (by omega) (fun e=>by have:=oj e;omega)).trans HXg.o
  have hB':Below w.heap.size w (qi wg wa.heap.size (m.c i)):=HBh.o.grown hW2 HBh.o.size (fun k e=>by have:=oj e;omega)
  have hs':wg.heap.size<=(qi wg wa.heap.size (m.c i)).heap.size:=by simp[qi]
  go_wp2_with fail;go_roundw
  case rel=>exact ⟨i+1,by omega,by go_num,HK1.o,hB',lT (show wb.heap.size<=wg.heap.size by omega) hs',hf0,hW1⟩
  case measure=>simp[intOf];omega
theorem Er {m:Mi} {mb ab:Nat} {at_:Int} (i:Nat) (w:World) (hi:i<m.cl) (hk:Jz w m.ca i (m.c i)) (hb:w.heap[mb]?=some (.cells m.cells 31)) (hab:w.cell? ⟨ab,0,none⟩=some (iV at_)):
 Calls prog 69 #[iV (i:Int),.pointer (some ⟨mb,0,none⟩),.pointer (some ⟨ab,0,none⟩)] w fun e w'=>e=.returned (.bool (decide ((m.c i).hp>at_)))/\Below w.heap.size w w':=by
 obtain ⟨⟨_,_,_,x3,_⟩,_⟩:=Mi.get hb;obtain ⟨b,o,hga,c0,c1,c2,c3,c4⟩:=hk;rw[hga]at x3;have hiI:(i:Int)<(m.cl:Int):=by omega
 have HB:Hid (∀n,Below w.heap.size w (w.drewN n)):=fun n=>lq bR n
 clear hb hga c0 c1 c3 c4
 go_enter Tryz.func69,Tryz.ntmps69
 go_wp2_with fail
 go_quiet (fail)
 go_wp2_with fail;go_ret;exact ⟨by first|rfl|simp,HB.o _⟩
theorem K1 {m:Mi} {mb ab:Nat} {at_:Int} (w:World) (hm:vv w m) (hb:w.heap[mb]?=some (.cells m.cells 31)) (hab:w.cell? ⟨ab,0,none⟩=some (iV at_)):
 Calls prog 68 #[iV (m.cl:Int),.func (.func 69) #[] #[.pointer (some ⟨mb,0,none⟩),.pointer (some ⟨ab,0,none⟩)]] w fun e w'=>∃r:Nat,e=.returned (iV (r:Int))/\r<=m.cl/\(0<r->(m.c (r-1)).hp<=at_)/\(r<m.cl->at_<(m.c r).hp)/\Below w.heap.size w w':=by
 have HM:Hid (∀W,Below w.heap.size w W->vv W m):=fun W hW=>hm.below hW
 obtain ⟨hbg,hbc,hbt,hbq⟩:=hm.big;have HX:Hid (∀W,Below w.heap.size w W->W.heap[mb]?=some (.cells m.cells 31)/\W.cell? (dZ ab 0)=some (iV at_)):=fun W hW=>⟨(hW.block _ (aZ hb)).trans hb,(hW.cell (p:=(dZ ab 0)) (ag hab)).trans hab⟩
 clear hm hb hab
 go_enter Tryz.func68,Tryz.ntmps68
 go_wp2_with fail
 go_loopw [5,6] (fun x y wr=>∃lo hi:Nat,x=iV (lo:Int)/\y=iV (hi:Int)/\lo<=hi/\hi<=m.cl/\(0<lo->(m.c (lo-1)).hp<=at_)/\(hi<m.cl->at_<(m.c hi).hp)/\Below w.heap.size w wr) (fun x y _=>(intOf y).toNat-(intOf x).toNat)
 case atStart=>exact ⟨0,m.cl,rfl,rfl,oZ,lZ,fun h=>absurd h (Nat.lt_irrefl 0),fun h=>absurd h (Nat.lt_irrefl _),bR⟩
 case round=>
  obtain ⟨lo,hi,rfl,rfl,hlh,hhc,h1,h2,hbr⟩:=hrel;have H1:=hid h1;have H2:=hid h2;have HB:=hid hbr;clear h1 h2 hbr
  by_cases hlt:lo<hi
  case neg=>
   have hiI: ¬((lo:Int)<(hi:Int)):=by omega
   obtain rfl:lo=hi:=by omega
   go_wp2_with fail;go_ret;exact ⟨lo,rfl,hhc,H1.o,H2.o,HB.o⟩
  have hiI:(lo:Int)<(hi:Int):=by omega
  obtain ⟨md,hmd⟩: ∃md:Nat,md=(lo+hi) / 2:=⟨_,rfl⟩;have hmI:((lo:Int)+(hi:Int)) / 2=(md:Int):=by omega
  have hml:lo<=md:=by omega
  have hmh:md<hi:=by omega
  have HC:=hid (Er md wr (by omega) ((HM.o wr HB.o).c md (by omega)) (HX.o wr HB.o).1 (HX.o wr HB.o).2)
  have HmI:=hid hmI;have HmlI:Hid (lo<=md/\md<hi/\lo<=hi/\hi<=m.cl):=⟨hml,hmh,hlh,hhc⟩;have hloI:(lo:Int)<=17592186043904:=by omega
  have hhiI:(hi:Int)<=17592186043904:=by omega
  clear hmd hmI hml hmh hlh hhc hlt hbg hbc hbt hbq;go_wp2_with fail;rw[HmI.o];obtain ⟨hml,hmh,hlh,hhc⟩:=HmlI.o;refine HC.o.mono ?_;rintro e w1 ⟨rfl,hb1⟩;have HB1:=hid (HB.o.trans (hb1.mono HB.o.size));clear hb1 HC
  by_cases hp:(m.c md).hp>at_
  case pos=>
   have HP:Hid (md<m.cl->at_<(m.c md).hp):=fun _=>hp
   rw[decide_eq_true hp];clear hp;go_wp2_with fail;go_roundw
   case rel=>exact ⟨lo,md,rfl,rfl,hml,by omega,H1.o,HP.o,HB1.o⟩
   case measure=>simp[intOf];omega
  have HP:Hid (0<md+1->(m.c (md+1-1)).hp<=at_):=fun _=>by rw[Nat.add_sub_cancel];omega
  rw[decide_eq_false hp];clear hp;go_wp2_with fail;go_roundw
  case rel=>exact ⟨md+1,hi,by go_num,rfl,by omega,hhc,HP.o,H2.o,HB1.o⟩
  case measure=>simp[intOf];omega
def n9 (m:Mi) (at_:Int) (c:Ci):Prop:=(∃r,r<m.cl/\c=m.c r/\(m.c r).hp<=at_/\(r+1<m.cl->at_<(m.c (r+1)).hp))\/(c=sj/\(0<m.cl->at_<(m.c 0).hp))
theorem Ik {m:Mi} {mb:Nat} (at_:Int) (w:World) (hm:vv w m) (hb:w.heap[mb]?=some (.cells m.cells 31)):
 Calls prog 67 #[iV at_,.pointer (some ⟨mb,0,none⟩)] w fun e w'=>∃c:Ci,e=.returned (.agg c.cells)/\n9 m at_ c/\Below w.heap.size w w':=by
 have hsw:mb<w.heap.size:=(aZ hb);have HM:Hid (∀W,Below w.heap.size w W->vv W m/\W.heap[mb]?=some (.cells m.cells 31)):=fun W hW=>⟨hm.below hW,(hW.block _ hsw).trans hb⟩
 obtain ⟨hbg,hbc,hbt,hbq⟩:=hm.big;clear hm hb;have HA:Hid ((w.alloc (.cells #[iV at_] 3)).heap[w.heap.size]?=some (.cells #[iV at_] 3)):=hZ _ _;have HBa:Hid (Below w.heap.size w (w.alloc (.cells #[iV at_] 3))):=bA
 go_enter Tryz.func67,Tryz.ntmps67
 have hW:w.alloc (.cells #[iV at_] 3)=w.alloc (.cells #[iV at_] 3):=rfl;generalize hwa:w.alloc (.cells #[iV at_] 3)=wa at*;have hsa:w.heap.size<wa.heap.size:=(aZ HA.o);have HL:Hid ((wa.alloc (.cells sj.cells 78)).heap[wa.heap.size]?=some (.cells sj.cells 78)):=hZ _ _;have HBb:Hid (Below wa.heap.size wa (wa.alloc (.cells sj.cells 78))):=bA;have hW2:wa.alloc (.cells #[iV 0,iV 0,iV 0,iV 0,iV 0] 78)=wa.alloc (.cells sj.cells 78):=rfl;generalize wa.alloc (.cells sj.cells 78)=wb at*;have HBw:=hid (HBa.o.trans (HBb.o.mono HBa.o.size));have hsb:wa.heap.size<wb.heap.size:=(aZ HL.o);have HAb:=hid ((HBb.o.block _ hsa).trans HA.o);have HS:Hid (Calls prog 68 #[iV (m.cl:Int),.func (.func 69) #[] #[pZ mb,pZ w.heap.size]] wb fun e w'=>∃r:Nat,e=.returned (iV (r:Int))/\r<=m.cl/\(0<r->(m.c (r-1)).hp<=at_)/\(r<m.cl->at_<(m.c r).hp)/\Below wb.heap.size wb w'):=K1 wb (HM.o wb HBw.o).1 (HM.o wb HBw.o).2 (by have:=HAb.o;simp[World.cell?,this])
 obtain ⟨⟨_,_,_,x3,_⟩,_⟩:=Mi.get (HM.o wb HBw.o).2;have hmf: ∀(fn:Fn) (first cap:Array Value) (w:World),(Instr.makeFunc fn first cap).run prog w=.ok (.func fn first cap) w:=fun _ _ _ _=>rfl
 go_wp2_with fail;clear hW hW2 hwa x3;refine HS.o.mono ?_;rintro e w1 ⟨r,rfl,hr,h1,h2,hb1⟩;have HB1:=hid (HBw.o.trans (hb1.mono HBw.o.size));have HL1:=hid ((hb1.block _ hsb).trans HL.o);obtain ⟨⟨z0,z1,z2,z3,z4⟩,zf⟩:=Ci.get HL1.o;have zf0:=zf 0;have zf1:=zf 1;have zf2:=zf 2;have zf3:=zf 3;have zf4:=zf 4;clear HS hb1 zf
 have HFin:Hid (∀c:Ci,n9 m at_ c->Below w.heap.size w (qi w1 wa.heap.size c)/\(qi w1 wa.heap.size c).heap[wa.heap.size]?=some (.cells c.cells 78)):=fun c hc=>by
  obtain ⟨hW1,hW2⟩:=Ba (r:=c) HL1.o;exact ⟨HB1.o.grown hW2 HB1.o.size (fun k e=>by have:=oj e;omega),hW1⟩
 by_cases hr0:r=0
 case pos=>
  subst hr0;have HLk:Hid (n9 m at_ sj):=.inr ⟨rfl,h2⟩;clear h1 h2;go_wp2_with fail;obtain ⟨hB',hW'⟩:=HFin.o sj HLk.o;obtain ⟨⟨g0,g1,g2,g3,g4⟩,_⟩:=Ci.get hW'
  show bodyPost _ _ _ _ _ (qi w1 wa.heap.size sj)
  generalize qi w1 wa.heap.size sj=W' at*;refine bodyPost_ret (v:=.agg sj.cells) ?_ rfl ⟨sj,rfl,HLk.o,hB'⟩;simp[results,Tryz.results67,go_sem,g0,g1,g2,g3,g4,Ci.cells]
 obtain ⟨k,rfl⟩: ∃k,r=k+1:=⟨r-1,by omega⟩
 have HLk:Hid (n9 m at_ (m.c k)):=.inl ⟨k,by omega,rfl,by have:=h1 (by omega);rw[Nat.add_sub_cancel]at this;exact this,h2⟩
 obtain ⟨⟨_,_,_,y3,_⟩,_⟩:=Mi.get (HM.o w1 HB1.o).2;obtain ⟨b,o,hga,c0,c1,c2,c3,c4⟩:=(HM.o w1 HB1.o).1.c k (by omega)
 rw[hga]at y3;have hrb:(((k+1:Nat):Int)==0)=false:=by rw[beq_eq_false_iff_ne];omega
 have hk1:((k+1:Nat):Int)-1=(k:Int):=by omega
 have hkI:(k:Int)<(m.cl:Int):=by omega
 clear h1 h2;go_wp2_with fail;obtain ⟨hB',hW'⟩:=HFin.o (m.c k) HLk.o;obtain ⟨⟨g0,g1,g2,g3,g4⟩,_⟩:=Ci.get hW'
 show bodyPost _ _ _ _ _ (qi w1 wa.heap.size (m.c k))
 generalize qi w1 wa.heap.size (m.c k)=W' at*;refine bodyPost_ret (v:=.agg (m.c k).cells) ?_ rfl ⟨m.c k,rfl,HLk.o,hB'⟩;simp[results,Tryz.results67,go_sem,g0,g1,g2,g3,g4,Ci.cells]
theorem Ig (y:Nat) (hy:y<4294967296) (w:World):
 Calls prog 159 #[.int .u64 1,.int .u64 y] w fun e w'=>e=.returned (.tuple #[.int .u64 0,.int .u64 y])/\w'=w:=by
 have hm:bits .and .u64 (y:Int) 4294967295=(y:Int):=by rw[Mul64.maskN y (by omega),Nat.mod_eq_of_lt hy]
 have h1:bits .and .u64 1 4294967295=1:=by decide
 have h0:bits .and .u64 0 4294967295=0:=by decide
 have hd:(y:Int) / 4294967296=0:=by omega
 have hw:=Mul64.wrapN y (by omega)
 have hw0:IntKind.wrap .u64 0=0:=by decide
 go_enter Tryz.func159,Tryz.ntmps159
 go_wp2
 go_ret2
 exact ⟨rfl,rfl⟩
theorem mul_one (y:Nat) (hy:y<4294967296) (w:World):
 Calls prog 133 #[.int .u64 1,.int .u64 y] w fun e w'=>e=.returned (.tuple #[.int .u64 0,.int .u64 y])/\w'=w:=by
 have c64:=Ig y hy w
 go_enter Tryz.func133,Tryz.ntmps133
 go_wp2_with (go_at_call 159;refine c64.mono ?_;rintro e w' ⟨rfl,hw⟩;rw[hw])
 go_ret2
 exact ⟨rfl,rfl⟩
def Dm (c:Cl) (at_:Int):Int:=if c.k=2 then at_+c.n else c.n
theorem Aq (c:Cl) (at_:Int) (w:World) (h:c.k=2-> -9223372036854775808<=at_+c.n/\at_+c.n<9223372036854775808):
 Calls prog 71 #[.agg #[iV c.k,iV c.n,.string c.nm],iV at_] w fun e w'=>e=.returned (iV (Dm c at_))/\Below w.heap.size w w':=by
 have HBa:Hid (Below w.heap.size w (w.alloc (.cells #[iV c.k,iV c.n,.string c.nm] 81))):=bA;obtain ⟨a0,a1,a2,_⟩:=ae (hZ w (.cells #[iV c.k,iV c.n,.string c.nm] 81))
 go_enter Tryz.func71,Tryz.ntmps71
 by_cases hk:c.k=2
 .have hkb:=beq_iff_eq.2 hk
  have HE:Hid (Dm c at_=at_+c.n):=if_pos hk;obtain ⟨h1,h2⟩:=h hk;clear hk h;go_wp2_with fail;go_ret;exact ⟨by rw[HE.o];go_num,HBa.o⟩
 .have hkb:=bF hk
  have HE:Hid (Dm c at_=c.n):=if_neg hk;clear hk h;go_wp2_with fail;go_ret;exact ⟨by rw[HE.o];rfl,HBa.o⟩
end
end Go.Proofs.YtmggaclaoefdaabGreat
