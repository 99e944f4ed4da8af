/- Part of the proof. Part of the proof. Part of the proof. Part of the proof. Part of the proof. -/
import Derived.Test.YtmggaclaoefdaabGreatSq0
import Derived.Test.YtmggaclaoefdaabGreatGAF
import Derived.Test.YtmggaclaoefdaabGreatGAK
import Derived.Test.YtmggaclaoefdaabGreatHr8
namespace Go.Proofs.YtmggaclaoefdaabGreat
open Go.RowKit Go.ChangeShapes Go.WideShapes
theorem Tryz.cells81:Tryz.prog.cellsOf 81=3:=by kernel_rfl
instance:Inhabited Cl:=⟨⟨0,0,⟨#[]⟩⟩⟩
def cellsC (c:Cl):List Value:= [iV c.k,iV c.n,.string c.nm]
section
variable {H:Type} {enc:TypeId × Value→H} {W:World} {spare:Nat→Bool} {held:Bool}
theorem crow_of_cells {a:Addr} {i:Nat} {c:Cl} (hs:a.spot=none) (h:W.cells? 0 (a.add (i*3)) 3=some (cellsC c)):CRow W (some a) i c:=by
 obtain ⟨b,o,s⟩:=a;cases hs;obtain ⟨_,_,hc⟩:=World.cells?_some h
 have e: ∀j,((⟨b,o,none⟩:Addr).add (i*3)).add j=⟨b,o+i*3+j,none⟩:=fun j=>by
  rw[Go.Deep.add_add];unfold Addr.add
  split
  ·rename_i h0
   have h2:j=0:=by omega
   rw[h2];simp
  ·simp[Nat.add_assoc]
 refine ⟨b,o,rfl,?_,?_,?_⟩
 ·have:=hc 0 (by omega);rw[e]at this;exact this
 ·have:=hc 1 (by omega);rw[e]at this;exact this
 ·have:=hc 2 (by omega);rw[e]at this;exact this
set_option maxRecDepth 100000 in
theorem open_cell (n:Nat) (cs:List Value) (x:DataW H × List MemPlace) (h:DataW.trod enc Tryz.prog W 0 spare held n 81 cs=some x): ∃c:Cl,cs=cellsC c∧c.nm.size≤maxLen:=by
 obtain ⟨xs,m,hm,_,hl,hlen,hf⟩:=DataW.trod_struct Tryz.underlying81 h;rw[Tryz.cells81]at hl
 match cs,hl with
 | [c0,c1,c2],_=>
   match xs,hlen with
   | [y0,y1,y2],_=>
     have h0:DataW.trod enc Tryz.prog W 0 spare held m 3 (([c0,c1,c2].drop 0).take (Tryz.prog.cellsOf 3))=some y0:=hf 0 _ rfl;have h1:DataW.trod enc Tryz.prog W 0 spare held m 3 (([c0,c1,c2].drop 1).take (Tryz.prog.cellsOf 3))=some y1:=hf 1 _ rfl;have h2:DataW.trod enc Tryz.prog W 0 spare held m 9 (([c0,c1,c2].drop 2).take (Tryz.prog.cellsOf 9))=some y2:=hf 2 _ rfl;rw[Tryz.cells3]at h0 h1;rw[Tryz.cells9]at h2;obtain ⟨v,e0,_,_⟩:=DataW.trod_int Tryz.underlying3 h0;obtain ⟨u,e1,_,_⟩:=DataW.trod_int Tryz.underlying3 h1;obtain ⟨s,e2,_,hs⟩:=DataW.trod_string Tryz.underlying9 h2;simp at e0 e1 e2;subst e0 e1 e2;exact ⟨⟨v,u,s⟩,rfl,hs⟩
theorem open_heap (n:Nat) (cs:List Value) (x:DataW H × List MemPlace) (h:DataW.trod enc Tryz.prog W 0 spare held n 25 cs=some x): ∃(a:Option Addr) (len cap:Nat) (f:Nat→Cl),cs= [.slice a len cap]∧HIn W a len f:=by
 rcases DataW.trod_slice Tryz.underlying25 h with ⟨rfl,_⟩| ⟨a,len,cap,elems,rest,m,hm,rfl,_,hb,hl,hmx,hlen,hel,_,_⟩
 ·exact ⟨none,0,0,fun _=>default,rfl,fun i hi=>absurd hi (Nat.not_lt_zero i),Nat.zero_le _,fun i hi=>absurd hi (Nat.not_lt_zero i)⟩
 ·rw[Tryz.cells81]at hel
  have key: ∀i,i<len→∃c:Cl,W.cells? 0 (a.add (i*3)) 3=some (cellsC c)∧c.nm.size≤maxLen:=fun i hi=>by
   have:=hel i hi;rw[List.getElem?_eq_getElem (by omega)]at this
   obtain ⟨cs',g1,g2⟩:=Option.bind_eq_some_iff.1 this;obtain ⟨c,rfl,hc⟩:=open_cell _ _ _ g2;exact ⟨c,g1,hc⟩
  obtain ⟨f,hf⟩:=Go.Deep.choose_lt key;refine ⟨some a,len,cap,f,rfl,fun i hi=>?_,Nat.le_trans hl hmx,fun i hi=>(hf i hi).2⟩
  have hs:a.spot=none:=by
   obtain ⟨_,_,hc⟩:=World.cells?_some (hf 0 (by omega)).1
   have h0:=hc 0 (by omega)
   exact World.cell?_spot (w:=W) (a:=a) (v:=iV (f 0).k) (by simpa[Addr.add,cellsC]using h0)
  exact crow_of_cells hs (hf i hi).1
end
end Go.Proofs.YtmggaclaoefdaabGreat

namespace Go.Proofs.YtmggaclaoefdaabGreat
open Go.RowKit
set_option linter.unusedVariables false
set_option linter.unusedSimpArgs false
def flatC (l:List Cl):List Value:=l.flatMap cellsC
theorem flatC_length (l:List Cl):(flatC l).length=l.length*3:=by
 induction l with
 |nil=>rfl
 |cons c l ih=>show (cellsC c++flatC l).length=_;rw[List.length_append,ih];simp[cellsC];omega
theorem flatC_append (l r:List Cl):flatC (l++r)=flatC l++flatC r:=by simp[flatC]
theorem flatC_one (l:List Cl): ∀u∈flatC l,u.oneCell'=true:=by
 intro u hu;obtain ⟨c,_,hc⟩:=List.mem_flatMap.1 hu;simp[cellsC]at hc
 rcases hc with rfl|rfl|rfl <;> rfl
theorem flatC_get (l:List Cl): ∀(k:Nat) (h:k<l.length),(flatC l)[k*3]?=some (iV l[k].k)∧(flatC l)[k*3+1]?=some (iV l[k].n)∧(flatC l)[k*3+2]?=some (.string l[k].nm):=by
 induction l with
 |nil=>intro k h;exact absurd h (Nat.not_lt_zero k)
 |cons c l ih=>
  intro k h
  cases k with
  |zero=>exact ⟨rfl,rfl,rfl⟩
  |succ k=>
   obtain ⟨h1,h2,h3⟩:=ih k (by simpa using h)
   have e:flatC (c::l)=cellsC c++flatC l:=rfl;rw[e,List.getElem_cons_succ];refine ⟨?_,?_,?_⟩
   ·rw[List.getElem?_append_right (by simp[cellsC];omega)]
    rw[show (k+1)*3-(cellsC c).length=k*3 from by simp[cellsC];omega];exact h1
   ·rw[List.getElem?_append_right (by simp[cellsC];omega)]
    rw[show (k+1)*3+1-(cellsC c).length=k*3+1 from by simp[cellsC];omega];exact h2
   ·rw[List.getElem?_append_right (by simp[cellsC];omega)]
    rw[show (k+1)*3+2-(cellsC c).length=k*3+2 from by simp[cellsC];omega];exact h3
def setN (c:Cl) (x:Int):Cl:=⟨c.k,x,c.nm⟩
theorem flatC_setN (l:List Cl): ∀(i:Nat) (h:i<l.length) (x:Int),(flatC l).set (i*3+1) (iV x)=flatC (l.set i (setN l[i] x)):=by
 induction l with
 |nil=>intro i h;exact absurd h (Nat.not_lt_zero i)
 |cons c l ih=>
  intro i h x;have e:flatC (c::l)=cellsC c++flatC l:=rfl
  cases i with
  |zero=>rfl
  |succ i=>
   have hi:i<l.length:=by simpa using h
   rw[e,List.set_cons_succ,List.getElem_cons_succ]
   show _=cellsC c++flatC (l.set i (setN (l[i]'hi) x))
   rw[←ih i hi x,List.set_append_right _ _ (by simp[cellsC];omega)]
   rw[show (i+1)*3+1-(cellsC c).length=i*3+1 from by simp[cellsC];omega]
def CRw (lo:Nat) (w:World) (v:Value) (l:List Cl):Prop:=w.ownsRow lo 81 3 v l.length (flatC l)
def hOf (l:List Cl):Nat→Cl:=fun i=>l.getD i ⟨0,0,⟨#[]⟩⟩
theorem hOf_get {l:List Cl} {i:Nat} (h:i<l.length):hOf l i=l[i]:=by unfold hOf;simp[List.getD,List.getElem?_eq_getElem h]
theorem CRw.form {lo:Nat} {w:World} {v:Value} {l:List Cl} (h:CRw lo w v l): ∃sa cp,v=.slice sa l.length cp∧l.length≤cp∧l.length≤maxLen:=by
 rcases h.2 with ⟨hv,h0⟩| ⟨g,cp,cur,hv,_,_,hnc,hcm,_⟩
 ·exact ⟨none,0,by rw[hv,h0],by omega,by unfold maxLen;omega⟩
 ·exact ⟨_,_,hv,hnc,Nat.le_trans hnc hcm⟩
theorem CRw.hin {lo:Nat} {w:World} {sa:Option Addr} {n cp:Nat} {l:List Cl} (h:CRw lo w (.slice sa n cp) l) (hn:n=l.length) (hm: ∀c∈l,c.nm.size≤maxLen):HIn w sa l.length (hOf l):=by
 subst hn;have hb:=h.form;obtain ⟨sa',cp',e,_,hb⟩:=hb;refine ⟨fun i hi=>?_,hb,fun i hi=>by rw[hOf_get hi];exact hm _ (List.getElem_mem hi)⟩
 rcases h.2 with ⟨hv,h0⟩| ⟨g,cp2,cur,hv,_⟩
 ·omega
 ·cases hv
  obtain ⟨f0,f1,f2⟩:=flatC_get l i hi;rw[hOf_get hi];have hc:=fun j (hj:j<l.length*3)=>World.ownsRow.cellAt h j (by omega)
  refine ⟨g,0,rfl,?_,?_,?_⟩
  ·rw[Nat.zero_add];exact (hc (i*3) (by omega)).trans f0
  ·rw[Nat.zero_add];exact (hc (i*3+1) (by omega)).trans f1
  ·rw[Nat.zero_add];exact (hc (i*3+2) (by omega)).trans f2
theorem CRw.setN {lo:Nat} {w:World} {g n cp:Nat} {l:List Cl} (h:CRw lo w (.slice (some ⟨g,0,none⟩) n cp) l) (hn:n=l.length) {i:Nat} (hi:i<l.length) (x:Int):CRw lo (w.setCell ⟨g,i*3+1,none⟩ (iV x)) (.slice (some ⟨g,0,none⟩) n cp) (l.set i (setN l[i] x)):=by
 subst hn;obtain ⟨h1,h2⟩:=h
 rcases h2 with ⟨h2,_⟩| ⟨g',cap',cur,hv,hlo,hg,hnc,hcm,hsz,htk⟩
 ·cases h2
 cases hv;unfold CRw;rw[List.length_set,←flatC_setN l i hi x];refine ⟨by simp[h1],.inr ⟨g,cp,cur.setIfInBounds (i*3+1) (iV x),rfl,hlo,?_,hnc,hcm,by simp[hsz],?_⟩⟩
 ·simp only[World.setCell,Array.getElem?_modify]
  simp[hg]
 ·rw[←htk]
  simp[List.take_set]
def frC (n:Int):Cl:=⟨1,n,⟨#[]⟩⟩
def celV (c:Cl):Value:=.agg #[iV c.k,iV c.n,.string c.nm]
set_option maxHeartbeats 1000000 in
theorem free_any (n:Int) (w:World):Calls Tryz.prog 109 #[iV n] w fun e w'=>e=.returned (celV (frC n))∧Below w.heap.size w w':=by
 go_enter Tryz.func109,Tryz.ntmps109
 go_wp2_with fail;obtain ⟨y0,y1,y2,_⟩:=block_cells (heap_alloc_new w (.cells #[iV 1,iV n,.string ⟨#[]⟩] 81));refine bodyPost_ret (v:=celV (frC n)) ?_ rfl ⟨rfl,(Below.refl _ _).alloc (Nat.le_refl _) _⟩;simp[results,Tryz.results109,go_sem,y0,y1,y2,celV,frC]
theorem infoC:(Tryz.prog.info? 81).map (fun i=>(i.zero,i.size,i.bytes))=some (some (.agg #[iV 0,iV 0,.string ByteArray.empty]),3,32):=by kernel_rfl
end Go.Proofs.YtmggaclaoefdaabGreat

namespace Go.Proofs.YtmggaclaoefdaabGreat
open Go.RowKit
set_option linter.unusedVariables false
set_option linter.unusedSimpArgs false
inductive LkR where
 |ok (n:Nat)
 |hit (n:Nat)
 |over
def LkR.go:LkR→(Nat→LkR)→LkR
 | .ok n,f=>f n
 |r,_=>r
def LkR.yes:LkR→Bool
 | .ok _=>true
 |_=>false
def LkR.left:LkR→Int
 | .ok n=>n
 | .hit n=>n
 | .over=> -1
noncomputable def lkL (h:Nat→Cl) (len v:Nat):Nat→List Nat→LkR
 |0=>fun l=>match l with
  | []=> .ok 0
  |_::_=> .over
 |n+1=>fun l=>match l with
  | []=> .ok (n+1)
  |t::r=>if endA h len t=v then .hit n else lkL h len v n (leads h (endA h len t)++r)
theorem lkL_nil (h:Nat→Cl) (len v n:Nat):lkL h len v n []=.ok n:=by cases n <;> rfl
theorem lkL_append (h:Nat→Cl) (len v:Nat): ∀(n:Nat) (a r:List Nat),lkL h len v n (a++r)=(lkL h len v n a).go fun k=>lkL h len v k r:=by
 intro n
 induction n with
 |zero=>
  intro a r
  cases a with
  |nil=>rfl
  |cons x a=>rfl
 |succ n ih=>
  intro a r
  cases a with
  |nil=>rfl
  |cons x a=>
   show (if endA h len x=v then LkR.hit n else lkL h len v n (leads h (endA h len x)++(a++r)))=LkR.go (if endA h len x=v then LkR.hit n else lkL h len v n (leads h (endA h len x)++a)) _
   by_cases e:endA h len x=v
   ·rw[if_pos e,if_pos e];rfl
   ·rw[if_neg e,if_neg e,←List.append_assoc]
    exact ih _ r
theorem lkL_le (h:Nat→Cl) (len v:Nat): ∀(n:Nat) (a:List Nat),(∀k,lkL h len v n a=.ok k→k≤n)∧∀k,lkL h len v n a=.hit k→k<n:=by
 intro n
 induction n with
 |zero=>
  intro a
  cases a with
  |nil=>exact ⟨fun k e=>by cases e;exact Nat.le_refl _,fun k e=>by cases e⟩
  |cons=>exact ⟨fun k e=>(by cases e),fun k e=>(by cases e)⟩
 |succ n ih=>
  intro a
  cases a with
  |nil=>exact ⟨fun k e=>by cases e;exact Nat.le_refl _,fun k e=>by cases e⟩
  |cons x a=>
   rw[show lkL h len v (n+1) (x::a)=if endA h len x=v then .hit n else lkL h len v n (leads h (endA h len x)++a)from rfl]
   by_cases e:endA h len x=v
   ·rw[if_pos e];exact ⟨fun k e=>(by cases e),fun k e=>(by cases e;omega)⟩
   ·rw[if_neg e]
    have:=ih (leads h (endA h len x)++a);exact ⟨fun k e=>by have:=this.1 k e;omega,fun k e=>by have:=this.2 k e;omega⟩
structure MK (w:World) (mb vb m:Nat) (bv:Value) (left:Int) (a:Option Addr) (len cap:Nat) (h:Nat→Cl) (σ:Int→Option Int):Prop where
 blk:w.heap[mb]?=some (.cells #[.pointer (some ⟨vb,0,none⟩),bv,iV left] 212)
 view:VW w vb m a len cap h σ
variable {w w':World} {mb vb m:Nat} {bv:Value} {left:Int} {a:Option Addr} {len cap:Nat} {h:Nat→Cl} {σ:Int→Option Int}
theorem MK.lt (K:MK w mb vb m bv left a len cap h σ):mb<w.heap.size:=(Array.getElem?_eq_some_iff.1 K.blk).1
theorem MK.ne (K:MK w mb vb m bv left a len cap h σ):mb≠m∧mb≠vb:=by
 refine ⟨K.view.mp.ne_block K.blk,fun e=>?_⟩
 subst e;have:=K.blk.symm.trans K.view.blk;simp at this
theorem MK.ne_row (K:MK w mb vb m bv left a len cap h σ) {i:Nat} (hi:i<len) {b o:Nat} (ha:a=some ⟨b,o,none⟩):b≠mb:=by
 obtain ⟨b',o',e,c0,c1,c2⟩:=K.view.row.row i hi;rw[ha]at e;cases e;intro e;subst e;have hb:=K.blk;have h0: ∀j,w.cell? ⟨b,j,none⟩=(#[Value.pointer (some ⟨vb,0,none⟩),bv,iV left]:Array Value)[j]?:=fun j=>by simp[World.cell?,hb]
 rw[h0]at c0 c1 c2;have h2:=(Array.getElem?_eq_some_iff.1 c2).1;have h3:o+i*3=0:=by simp at h2;omega
 rw[h3]at c0;cases c0
theorem MK.cells (K:MK w mb vb m bv left a len cap h σ):w.cell? ⟨mb,0,none⟩=some (.pointer (some ⟨vb,0,none⟩))∧w.cell? ⟨mb,1,none⟩=some bv∧w.cell? ⟨mb,2,none⟩=some (iV left)∧∀j,w.frozen? ⟨mb,j,none⟩=false:=by
 have:=K.blk;refine ⟨?_,?_,?_,fun j=>?_⟩ <;> simp[World.cell?,World.frozen?,this]
theorem MK.below (K:MK w mb vb m bv left a len cap h σ) (hb:Below w.heap.size w w'):MK w' mb vb m bv left a len cap h σ:=⟨(hb.block _ K.lt).trans K.blk,K.view.below hb⟩
theorem MK.map {σ':Int→Option Int} (K:MK w mb vb m bv left a len cap h σ) (V:VW w' vb m a len cap h σ') (hg:w.grownBy w' (some m)):MK w' mb vb m bv left a len cap h σ':=⟨(hg.block _ K.lt (fun e=>K.ne.1 (Option.some.inj e))).trans K.blk,V⟩
theorem MK.view_set (K:MK w mb vb m bv left a len cap h σ) (hg:w.grownBy w' (some mb)):VW w' vb m a len cap h σ:=by
 refine ⟨(hg.block _ K.view.lt.1 (fun e=>K.ne.2 (Option.some.inj e).symm)).trans K.view.blk,⟨fun i hi=>?_,K.view.row.big,K.view.row.nm⟩,K.view.mp.kept hg (fun e=>K.ne.1 (Option.some.inj e).symm),K.view.ends⟩
 obtain ⟨b,o,e,c0,c1,c2⟩:=K.view.row.row i hi;have hne:=K.ne_row hi e;have hx: ∀j,w'.cell? ⟨b,j,none⟩=w.cell? ⟨b,j,none⟩:=fun j=>World.cell?_of_block (hg.block b (lt_of_cell c0) (fun e=>hne (Option.some.inj e)))
 exact ⟨b,o,e,(hx _).trans c0,(hx _).trans c1,(hx _).trans c2⟩
theorem MK.setLeft (K:MK w mb vb m bv left a len cap h σ) (x:Int):MK (w.setCell ⟨mb,2,none⟩ (iV x)) mb vb m bv x a len cap h σ:=by
 refine ⟨?_,K.view_set (grown_set (W:=w) mb 2 _)⟩;simp only[World.setCell,Array.getElem?_modify];simp[K.blk]
theorem MK.low {w0:World} {bv0:Value} {l0:Int} {σ0:Int→Option Int} (K0:MK w0 mb vb m bv0 l0 a len cap h σ0) (K:MK w mb vb m bv left a len cap h σ) (hk: ∀k,k<w0.heap.size→w'.heap[k]?=w.heap[k]?):MK w' mb vb m bv left a len cap h σ:=⟨(hk _ K0.lt).trans K.blk,K0.view.low K.view hk⟩
theorem MK.own {B:Nat} {row:Option Nat} (K:MK w mb vb m bv left a len cap h σ) (hm:m<B) (hg:w.grownBy w' row) (hr: ∀r,row=some r→B≤r∧∃o:Obj,w.heap[r]?=some o∧o.isCells=false):MK w' mb vb m bv left a len cap h σ:=
 ⟨(hg.block _ K.lt (ne_of_cells (fun r e=>(hr r e).2) K.blk rfl)).trans K.blk,K.view.own hm hg hr⟩
set_option maxHeartbeats 1000000 in
theorem mlook_any {n:Nat} (hn:n≤1000000) (w:World) (K:MK w mb vb m bv (n:Int) a len cap h σ):
 Calls Tryz.prog 171 #[.pointer (some ⟨mb,0,none⟩)] w fun e w'=>e=.returned (.bool (decide (0<n)))∧MK w' mb vb m bv ((n:Int)-1) a len cap h σ∧w.grownBy w' (some mb):=by
 obtain ⟨k0,k1,k2,kf⟩:=K.cells;have kf2:=kf 2;have HK:=hid K;have hw1:IntKind.i64.wrap ((n:Int)-1)=(n:Int)-1:=by simp[IntKind.wrap,IntKind.bits,IntKind.signed];omega
 have HK1:Hid (MK (w.setCell ⟨mb,2,none⟩ (iV ((n:Int)-1))) mb vb m bv ((n:Int)-1) a len cap h σ):=K.setLeft _;have j2:=HK1.o.cells.2.2.1;have hd:decide ((n:Int)-1≥0)=decide (0<n):=by rw[decide_eq_decide];omega
 clear K kf
 go_enter Tryz.func171,Tryz.ntmps171
 go_wp2_with fail;go_ret;exact ⟨by rw[←hd];simp,HK1.o,grown_set (W:=w) mb 2 _⟩
end Go.Proofs.YtmggaclaoefdaabGreat

namespace Go.Proofs.YtmggaclaoefdaabGreat
open Go.RowKit Go.Shelf
set_option linter.unusedVariables false
set_option linter.unusedSimpArgs false
attribute [local go_sem] Oper.semAt_some
def MM (m mb k:Nat):Prop:=k=m∨k=mb
def LkP (w:World) (mb vb m:Nat) (bv:Value) (a:Option Addr) (len cap:Nat) (h:Nat→Cl) (r:LkR) (e:Ending) (w':World):Prop:=e=.returned (.bool r.yes)∧(∃σ',MK w' mb vb m bv r.left a len cap h σ')∧Bw (MM m mb) w.heap.size w w'
def LkC (n:Nat):Prop:=∀(mb vb m:Nat) (bv:Value) (a:Option Addr) (len cap:Nat) (h:Nat→Cl) (σ:Int→Option Int) (t v:Nat) (w:World),HG h len→len≤1000000→t<len→MK w mb vb m bv (n:Int) a len cap h σ→
 Calls Tryz.prog 175 #[.pointer (some ⟨mb,0,none⟩),iV (t:Int),iV (v:Int)] w (LkP w mb vb m bv a len cap h (lkL h len v n [t]))
structure LkB (w:World) (mb vb m:Nat) (bv:Value) (a:Option Addr) (len cap:Nat) (h:Nat→Cl) (v s z:Nat) (left:Int) (W:World) (σ':Int→Option Int):Prop where
 b0:Boxed W s 210 (.pointer (some ⟨mb,0,none⟩))
 b1:Boxed W (s+1) 3 (iV (v:Int))
 b2:Boxed W (s+2) 4 (.bool false)
 mkg:MK W mb vb m bv left a len cap h σ'
 bw:Bw (MM m mb) s w W
 sz:z≤W.heap.size
theorem LkB.own {w:World} {mb vb m:Nat} {bv:Value} {a:Option Addr} {len cap:Nat} {h:Nat→Cl} {v s z:Nat} {left:Int} {W Y:World} {σ':Int→Option Int} {row:Option Nat} {B:Nat} (L:LkB w mb vb m bv a len cap h v s z left W σ') (hm:m<B) (hs:s≤z) (hB:s≤B) (hg:W.grownBy Y row) (hr: ∀r,row=some r→B≤r∧∃o:Obj,W.heap[r]?=some o∧o.isCells=false):LkB w mb vb m bv a len cap h v s z left Y σ':=
 ⟨box_own L.b0 hg hr,box_own L.b1 hg hr,box_own L.b2 hg hr,L.mkg.own hm hg hr,L.bw.own (Nat.le_trans hs L.sz) hB hg hr,Nat.le_trans L.sz hg.size⟩
theorem lkL_stop {h:Nat→Cl} {len v n:Nat} {p l:List Nat} (hp:p <+:l) (hn:(lkL h len v n p).yes=false):lkL h len v n l=lkL h len v n p:=by
 obtain ⟨r,rfl⟩:=hp;rw[lkL_append]
 cases e:lkL h len v n p with
 |ok k=>rw[e]at hn;cases hn
 |hit=>rfl
 |over=>rfl
def LkI (w:World) (mb vb m:Nat) (bv:Value) (a:Option Addr) (len cap:Nat) (h:Nat→Cl) (v s z n:Nat) (pre:List (Cx len)) (W:World):Prop:=∃(k:Nat) (σ':Int→Option Int),lkL h len v n (vals pre)=.ok k∧LkB w mb vb m bv a len cap h v s z (k:Int) W σ'
def LkX (w:World) (mb vb m:Nat) (bv:Value) (a:Option Addr) (len cap:Nat) (h:Nat→Cl) (v s z n:Nat) (c:Code) (pre:List (Cx len)) (W:World):Prop:=c=.ret∧(lkL h len v n (vals pre)).yes=false∧∃σ',LkB w mb vb m bv a len cap h v s z (lkL h len v n (vals pre)).left W σ'
noncomputable def lkOne (h:Nat→Cl) (len v n z:Nat):LkR:=match n with
 |0=> .over
 |k+1=>if z=v then .hit k else lkL h len v k (leads h z)
theorem lkL_one (h:Nat→Cl) (len v n t:Nat):lkL h len v n [t]=lkOne h len v n (endA h len t):=by
 cases n with
 |zero=>rfl
 |succ k=>
  show (if endA h len t=v then LkR.hit k else lkL h len v k (leads h (endA h len t)++ []))=_
  rw[List.append_nil];rfl
set_option maxRecDepth 100000 in
set_option maxHeartbeats 8000000 in
theorem mlacks_step (n:Nat) (hn:n≤1000000) (ih: ∀k,k<n→LkC k):LkC n:=by
 intro mb vb m bv a len cap h σ t v w H hlb ht K;have HK0:=hid K;have HG':=hid H;obtain ⟨W0,hW0⟩: ∃W0,((w.alloc (.cells #[.pointer (some ⟨mb,0,none⟩)] 210)).alloc (.cells #[iV (v:Int)] 3)).alloc (.cells #[.bool false] 4)=W0:=⟨_,rfl⟩;have hB0:Below w.heap.size w W0:=by rw[←hW0];exact (((Below.refl _ _).alloc (Nat.le_refl _) _).alloc (by simp) _).alloc (by simp;omega) _
 have hs0:W0.heap.size=w.heap.size+3:=by rw[←hW0];simp
 have x0:Boxed W0 w.heap.size 210 (.pointer (some ⟨mb,0,none⟩)):=by rw[←hW0];exact ((Boxed.new w _ _).alloc _).alloc _
 have x1:Boxed W0 (w.heap.size+1) 3 (iV (v:Int)):=by
  rw[←hW0];have:=(Boxed.new (w.alloc (.cells #[.pointer (some ⟨mb,0,none⟩)] 210)) 3 (iV (v:Int))).alloc (.cells #[.bool false] 4)
  rwa [World.size_alloc]at this
 have x2:Boxed W0 (w.heap.size+2) 4 (.bool false):=by
  rw[←hW0];have:=Boxed.new ((w.alloc (.cells #[.pointer (some ⟨mb,0,none⟩)] 210)).alloc (.cells #[iV (v:Int)] 3)) 4 (.bool false)
  rwa [World.size_alloc,World.size_alloc]at this
 have hKm:=K.below hB0;have HDe:=hid (deref_any H hlb ht W0 hKm.view);have k0:=hKm.cells.1;have d0:=x0.cell;have hml:=K.view.lt.2;have hmb:=K.lt;have HIH:=hid ih;have HX0:Hid (Boxed W0 w.heap.size 210 (.pointer (some ⟨mb,0,none⟩))∧Boxed W0 (w.heap.size+1) 3 (iV (v:Int))∧Boxed W0 (w.heap.size+2) 4 (.bool false)):=⟨x0,x1,x2⟩;have HKm:=hid hKm;have HBW:Hid (Bw (MM m mb) w.heap.size w W0):=Bw.ofBelow hB0;have hz:=H.end_lt ht;have HL:=hid (lkL_one h len v n t);generalize hrr:lkL h len v n [t]=rr at*;clear K H x0 x1 x2 hB0 ih hKm;generalize endA h len t=z at*;refine (callsIn_wide (n:=5)).1 (callsIn_of_wp_marks Tryz.func175 rfl trivial (wpIn_wide.2 ?_) rfl);simp only[Tryz.ntmps175,List.size_toArray,List.length_cons,List.length_nil,Nat.reduceAdd,Nat.reduceSub,Array.replicate_succ,Array.replicate_zero,List.push_toArray,List.append_toArray,List.nil_append,List.cons_append];go_wp2_with fail
 try rw[hW0]
 go_wp2_with fail;generalize hs:w.heap.size=s at*;refine HDe.o.mono ?_;rintro e w1 ⟨rfl,⟨σ1,hV1⟩,hg1⟩;have hK1:=HKm.o.map hV1 hg1;have hs1:=hg1.size;have hnm: ∀q,s≤q→some q≠some m:=fun q hq e=>by have:=Option.some.inj e;omega
 have HX1:Hid (Boxed w1 s 210 (.pointer (some ⟨mb,0,none⟩))∧Boxed w1 (s+1) 3 (iV (v:Int))∧Boxed w1 (s+2) 4 (.bool false)):=⟨HX0.o.1.kept hg1 (hnm _ (by omega)),HX0.o.2.1.kept hg1 (hnm _ (by omega)),HX0.o.2.2.kept hg1 (hnm _ (by omega))⟩
 have HB1:Hid (Bw (MM m mb) s w w1):=HBW.o.grown hg1 (by omega) (fun q e=> .inr (.inl (Option.some.inj e).symm))
 have HLo:=hid (mlook_any hn w1 hK1);have d1:=HX1.o.1.cell;clear hV1 hg1 hK1 HX0 HKm HBW HDe d0 k0 hnm;go_wp2_with fail;refine HLo.o.mono ?_;rintro e w2 ⟨rfl,hK2,hg2⟩;have hs2:=hg2.size;have hnb: ∀q,s≤q→some q≠some mb:=fun q hq e=>by have:=Option.some.inj e;omega
 have HX2:Hid (Boxed w2 s 210 (.pointer (some ⟨mb,0,none⟩))∧Boxed w2 (s+1) 3 (iV (v:Int))∧Boxed w2 (s+2) 4 (.bool false)):=⟨HX1.o.1.kept hg2 (hnb _ (by omega)),HX1.o.2.1.kept hg2 (hnb _ (by omega)),HX1.o.2.2.kept hg2 (hnb _ (by omega))⟩
 have HB2:Hid (Bw (MM m mb) s w w2):=HB1.o.grown hg2 (by omega) (fun q e=> .inr (.inr (Option.some.inj e).symm))
 have HK2:=hid hK2;have f0:=HX2.o.1.cell;have f1:=HX2.o.2.1.cell;have f2:=HX2.o.2.2.cell;have ff2:=HX2.o.2.2.frozen;have HSt:Hid (∀b:Bool,MK (w2.setCell ⟨s+2,0,none⟩ (.bool b)) mb vb m bv ((n:Int)-1) a len cap h σ1∧Bw (MM m mb) s w (w2.setCell ⟨s+2,0,none⟩ (.bool b))∧(w2.setCell ⟨s+2,0,none⟩ (.bool b)).cell? ⟨s+2,0,none⟩=some (.bool b)):=fun b=>⟨HK0.o.low hK2 fun q hq=>(grown_set (W:=w2) (s+2) 0 _).block q (by omega) (fun e=>by have:=Option.some.inj e;omega),HB2.o.grown (grown_set (W:=w2) (s+2) 0 _) (by omega) (fun q e=> .inl (by cases e;omega)),(HX2.o.2.2.set _).cell⟩
 clear hK2 hg2 d1 HX1 HB1 HLo hnb
 cases n with
 |zero=>
  have hd:decide (0<0)=false:=rfl;have HE:=hid HL.o;go_wp2_with fail;have y:=(HSt.o false).2.2;refine ⟨.bool false,?_,?_,⟨σ1,?_⟩,?_⟩
  ·simp[results,Tryz.results175,go_sem,y]
  ·rw[HE.o];rfl
  ·rw[HE.o];exact (HSt.o false).1
  ·rw[hs];exact (HSt.o false).2.1
 |succ n=>
 have hd:decide (0<n+1)=true:=decide_eq_true (by omega)
 have hn1:((n+1:Nat):Int)-1=(n:Int):=by omega
 rw[hn1]at HK2 HSt
 by_cases hzv:z=v
 case pos=>
  have hzb:=beq_iff_eq.2 (by omega)
  have HE:Hid (rr=.hit n):=by rw[Hid,HL.o];show (if z=v then _ else _)=_;rw[if_pos hzv]
  go_wp2_with fail;have y:=(HSt.o false).2.2;refine ⟨.bool false,?_,?_,⟨σ1,?_⟩,?_⟩
  ·simp[results,Tryz.results175,go_sem,y]
  ·rw[HE.o];rfl
  ·rw[HE.o];exact (HSt.o false).1
  ·rw[hs];exact (HSt.o false).2.1
 have hzb:=beq_eq_false_iff_ne.2 (by omega)
 have HE:Hid (rr=lkL h len v n (leads h z)):=by rw[Hid,HL.o];show (if z=v then _ else _)=_;rw[if_neg hzv]
 have HLd:Hid (Calls Tryz.prog 88 #[.slice a len cap,iV z] w2 fun e w'=>e=.returned (.func (.func 126) #[] #[.pointer (some ⟨w2.heap.size,0,none⟩),.pointer (some ⟨w2.heap.size+1,0,none⟩)])∧w'=(w2.alloc (.cells #[.slice a len cap] 25)).alloc (.cells #[iV z] 3)):=leads_any a len cap z w2
 have k20:=HK2.o.cells.1;have v20:=HK2.o.view.cells.1;clear hzv HSt HL;go_wp2_with fail;refine HLd.o.mono ?_;rintro e w3 ⟨rfl,hw3⟩;have hB3:Below w2.heap.size w2 w3:=by rw[hw3];exact ((Below.refl _ _).alloc (Nat.le_refl _) _).alloc (by simp) _
 have hx3:w3.heap[w2.heap.size]?=some (.cells #[.slice a len cap] 25)∧w3.heap[w2.heap.size+1]?=some (.cells #[iV (z:Int)] 3):=by rw[hw3];exact alloc2 _ _ _
 have hs3:w3.heap.size=w2.heap.size+2:=by rw[hw3];simp
 have HI0:Hid (∃(k:Nat) (σ':Int→Option Int),lkL h len v n (vals ([]:List (Cx len)))=.ok k∧LkB w mb vb m bv a len cap h v s w3.heap.size (k:Int) w3 σ'):=⟨n,σ1,lkL_nil _ _ _ _,(hB3.block _ HX2.o.1.lt).trans HX2.o.1,(hB3.block _ HX2.o.2.1.lt).trans HX2.o.2.1,(hB3.block _ HX2.o.2.2.lt).trans HX2.o.2.2,HK2.o.below hB3,HB2.o.trans (Bw.ofBelow (hB3.mono (by omega))),Nat.le_refl _⟩
 have HHin:=hid (HK2.o.view.row.below hB3);have HX3:=hid hx3;have hkk:=HG'.o.kind z hz;clear hw3 hx3 hB3 k20 v20 f0 f1 f2 ff2 HLd;go_wp2_with fail;generalize hr:w2.heap.size=r at*
 refine wpIn_wide.1 (wpIn_rangeFunc_ownG (n:=5) rfl (by omega) (gf:=126) (lb:= #[.pointer (some ⟨r,0,none⟩),.pointer (some ⟨r+1,0,none⟩)]) rfl trivial (enters_of Tryz.func126 (by kernel_rfl) rfl)
  (leads_stops 4 hz r (r+1) w3 HHin.o HG'.o.ok hkk hlb HX3.o.1 HX3.o.2) (fun h k=>Kb.t h k) (Kb.b (by omega)) (Below.refl _ _) (fun _=>rfl)
  (LkI w mb vb m bv a len cap h v s w3.heap.size n) (LkX w mb vb m bv a len cap h v s w3.heap.size n)
  (fun pre X Y row hs' hg hr'=>by
    obtain ⟨k,σ',e,L⟩:=hs';exact ⟨k,σ',e,L.own (by omega) (by omega) (by omega) hg hr'⟩)
  (fun c pre X Y row hs' hg hr'=>by
    obtain ⟨e,h0,σ',L⟩:=hs';exact ⟨e,h0,σ',L.own (by omega) (by omega) (by omega) hg hr'⟩)
  HI0.o
  (fun x=> { tmps:= #[.pointer (some ⟨mb,0,none⟩),iV (z:Int),iV (v:Int),.pointer (some ⟨s,0,none⟩),undef,.pointer (some ⟨s+1,0,none⟩),.pointer (some ⟨s+2,0,none⟩),iV (x.1:Int),.pointer (some ⟨mb,0,none⟩),.pointer (some ⟨mb,0,none⟩),.pointer (some ⟨mb,0,none⟩),.pointer (some ⟨vb,0,none⟩),iV (t:Int),iV (z:Int),.pointer (some ⟨mb,0,none⟩),.bool true,.bool false,.bool false,iV (z:Int),iV (v:Int),.bool false,.bool false,.pointer (some ⟨mb,0,none⟩),.pointer (some ⟨mb,0,none⟩),.pointer (some ⟨mb,0,none⟩),.pointer (some ⟨vb,0,none⟩),.pointer (some ⟨vb,0,none⟩),.pointer (some ⟨vb,0,none⟩),.slice a len cap,iV (z:Int),.func (.func 126) #[] #[.pointer (some ⟨r,0,none⟩),.pointer (some ⟨r+1,0,none⟩)],iV (x.1:Int),undef,undef,undef,undef,undef],defers:= []}) ?assign ?body ?done ?stop)
 case assign=>
  intro l x W K hK
  gi_wp2
  exact hK
 case stop=>
  rintro D c pre W hD hp ⟨rfl,h0,σ',L⟩ hDK;refine wpIn_ret ?_;have hg:=grownBy_putObj' W D (.deferred none);have hne: ∀k,k<w3.heap.size→some k≠some D:=fun k hk e=>by have:=Option.some.inj e;omega
  have h1':=L.b2.kept hg (hne _ (by omega))
  have hE:=HE.o.trans (lkL_stop hp h0);have hz':=L.sz;refine ⟨by simp,.inl ⟨_,_,rfl,run_takeDeferred hDK,.bool false,?_,?_,⟨σ',?_⟩,?_⟩⟩
  ·simp[results,Tryz.results175,go_sem,h1'.cell]
  ·rw[hE,h0]
  ·rw[hE];exact HK0.o.low L.mkg fun k hk=>hg.block k (by omega) (hne _ (by omega))
  ·rw[hs];exact L.bw.grown (B:=s) hg (by omega) (fun k e=> .inl (by cases e;omega))
 case done=>
  rintro D ys W hD hys ⟨k,σ',e,L⟩ hDK;have b2:=L.b2.cell;have f2:=L.b2.frozen;have hz':=L.sz;have HEk:Hid (rr=.ok k):=by rw[Hid,HE.o,←hys];exact e
  have HKf:Hid (MK (W.setCell ⟨s+2,0,none⟩ (.bool true)) mb vb m bv (k:Int) a len cap h σ'):=HK0.o.low L.mkg fun q hq=>(grown_set (W:=W) (s+2) 0 _).block q (by omega) (fun e=>by have:=Option.some.inj e;omega)
  have HB:Hid (Bw (MM m mb) s w (W.setCell ⟨s+2,0,none⟩ (.bool true))):=L.bw.grown (grown_set (W:=W) (s+2) 0 _) (by omega) (fun q e=> .inl (by cases e;omega))
  have HX:Hid (Boxed (W.setCell ⟨s+2,0,none⟩ (.bool true)) (s+2) 4 (.bool true)):=L.b2.set _;have HD:Hid ((W.setCell ⟨s+2,0,none⟩ (.bool true)).heap[D]?=some (.deferred (some []))):=(KeepsOthers.setCell _ _ _).same D _ hDK rfl;clear L hDK e hys;go_wp2_with fail;have hg:=grownBy_putObj' (W.setCell ⟨s+2,0,none⟩ (.bool true)) D (.deferred none);have hne: ∀k,k<w3.heap.size→some k≠some D:=fun k hk e=>by have:=Option.some.inj e;omega
  have hX:=HX.o.kept hg (hne _ (by omega))
  refine ⟨by simp,.inl ⟨_,_,rfl,run_takeDeferred HD.o,.bool true,?_,?_,⟨σ',?_⟩,?_⟩⟩
  ·simp[results,Tryz.results175,go_sem,hX.cell]
  ·rw[HEk.o];rfl
  ·rw[HEk.o];exact HK0.o.low HKf.o fun q hq=>hg.block q (by simp;omega) (hne _ (by omega))
  ·rw[hs];exact HB.o.grown (B:=s) hg (by simp;omega) (fun k e=> .inl (by cases e;omega))
 case body=>
  rintro l pre x W ⟨k,σ',e,L⟩ hpl;have b0:=L.b0.cell;have b1:=L.b1.cell;have hxl:x.1<len:=x.2;have hkn:k≤n:=(lkL_le h len v n (vals pre)).1 k e;have HLa:Hid (Calls Tryz.prog 175 #[.pointer (some ⟨mb,0,none⟩),iV (x.1:Int),iV (v:Int)] W (LkP W mb vb m bv a len cap h (lkL h len v k [x.1]))):=HIH.o k (by omega) mb vb m bv a len cap h σ' x.1 v W HG'.o hlb hxl L.mkg
  have HEr:Hid (lkL h len v n (vals (pre++ [x]))=lkL h len v k [x.1]):=by rw[Hid,vals_snoc,lkL_append,e];rfl
  have HLB:Hid (LkB w mb vb m bv a len cap h v s w3.heap.size (k:Int) W σ'):=L;generalize lkL h len v k [x.1]=rx at*;clear L e
  gi_wp2
  refine ⟨trivial,CallsIn.inRound l (callsIn_wide.2 (HLa.o.mono ?_))⟩;rintro e w5 ⟨rfl,⟨σ5,hK5⟩,hb5⟩;have hszW:=HLB.o.sz;have hs5:=hb5.size
  have hnM: ∀q,s≤q→¬MM m mb q:=fun q hq hm=>by
   rcases hm with e|e <;> omega
  have HB5:Hid (LkB w mb vb m bv a len cap h v s w3.heap.size rx.left w5 σ5):=⟨(hb5.block s (by omega) (hnM _ (by omega))).trans HLB.o.b0,(hb5.block (s+1) (by omega) (hnM _ (by omega))).trans HLB.o.b1,(hb5.block (s+2) (by omega) (hnM _ (by omega))).trans HLB.o.b2,hK5,HLB.o.bw.trans (hb5.mono (by omega)),by omega⟩
  have HKp:Hid (KeepsFrom w3.heap.size W w5):=⟨hb5.size,fun q o hq ho _=>(hb5.block q (Array.getElem?_eq_some_iff.1 ho).1 (hnM _ (by omega))).trans ho⟩
  have HKb:Hid (Kb (r+1) W w5):=⟨by omega,hb5.block (r+1) (by omega) (hnM _ (by omega))⟩
  have g2:=HB5.o.b2.cell;have gf2:=HB5.o.b2.frozen;clear hK5 hb5
  cases hy:rx.yes with
  |true=>
   obtain ⟨k',hk'⟩: ∃k',rx=.ok k':=by
    cases rx with
    |ok k'=>exact ⟨k',rfl⟩
    |hit=>cases hy
    |over=>cases hy
   have HIn:Hid (LkI w mb vb m bv a len cap h v s w3.heap.size n (pre++ [x]) w5):=⟨k',σ5,by rw[HEr.o,hk'],by have h9:=HB5.o;rw[hk']at h9;exact h9⟩
   gi_wp2
   exact ⟨HKp.o,HKb.o,HIn.o⟩
  |false=>
   have HX:Hid (LkX w mb vb m bv a len cap h v s w3.heap.size n .ret (pre++ [x]) (w5.setCell ⟨s+2,0,none⟩ (.bool false))):=by
    refine ⟨rfl,by rw[HEr.o,hy],σ5,?_⟩
    rw[HEr.o];have hgs:=grown_set (W:=w5) (s+2) 0 (.bool false);have L:=HB5.o;exact ⟨L.b0.other (by omega) _,L.b1.other (by omega) _,L.b2.set _,HK0.o.low L.mkg fun q hq=>hgs.block q (by omega) (fun e=>by have:=Option.some.inj e;omega),L.bw.grown hgs (by omega) (fun q e=> .inl (by cases e;omega)),by simp;omega⟩
   have HKq:Hid (KeepsFrom w3.heap.size W (w5.setCell ⟨s+2,0,none⟩ (.bool false))):=HKp.o.trans ((KeepsOthers.setCell _ _ _).from _)
   gi_wp2
   exact ⟨HKq.o,HX.o⟩
theorem mlacks_all: ∀n,n≤1000000→LkC n:=by
 intro n
 induction n using Nat.strongRecOn with
 |_ n ih=>intro hn;exact mlacks_step n hn fun k hk=>ih k hk (by omega)
end Go.Proofs.YtmggaclaoefdaabGreat

namespace Go.Proofs.YtmggaclaoefdaabGreat
open Go.RowKit
set_option linter.unusedVariables false
set_option linter.unusedSimpArgs false
def bndH (h:Nat→Cl) (v t:Nat):Nat→Cl:=fun i=>if i=v then setN (h v) (t:Int)else h i
theorem bndH_at (h:Nat→Cl) (v t:Nat):bndH h v t v=setN (h v) (t:Int):=by unfold bndH;rw[if_pos rfl]
theorem bndH_ne {h:Nat→Cl} {v t i:Nat} (hi:i≠v):bndH h v t i=h i:=by unfold bndH;rw[if_neg hi]
theorem bndH_k (h:Nat→Cl) (v t i:Nat):(bndH h v t i).k=(h i).k∧(bndH h v t i).nm=(h i).nm:=by
 by_cases e:i=v
 ·subst e;rw[bndH_at];exact ⟨rfl,rfl⟩
 ·rw[bndH_ne e];exact ⟨rfl,rfl⟩
theorem leads_bnd {h:Nat→Cl} {v t i:Nat} (hi:i≠v):leads (bndH h v t) i=leads h i:=by unfold leads;rw[bndH_ne hi]
theorem leads_bnd_at {h:Nat→Cl} {v t:Nat} (hk:(h v).k=1) (hne:t≠v):leads (bndH h v t) v= [t]:=by
 unfold leads
 rw[bndH_at,if_pos (show (setN (h v) (t:Int)).k=1 from hk),if_neg (show¬(setN (h v) (t:Int)).n=(v:Int)from fun e=>by
  have:(t:Int)=(v:Int):=e;omega)]
 rfl
inductive Rch (h:Nat→Cl) (v:Nat):Nat→Prop
 |here:Rch h v v
 |step {i j:Nat}:j∈leads h i→Rch h v j→Rch h v i
theorem Rch.end {h:Nat→Cl} {len v:Nat} (H:HG h len) (hv:endA h len v=v) {t:Nat} (r:Rch h v t):t<len→endA h len t=v∨∃x∈leads h (endA h len t),Rch h v x:=by
 induction r with
 |here=>intro _;exact .inl hv
 |step hj r ih=>
  rename_i i j;intro hi
  by_cases e:endA h len i=i
  ·exact .inr ⟨j,by rw[e];exact hj,r⟩
  ·rcases H.kind i hi with hk|hk
   ·by_cases hn:(h i).n=i
    ·unfold leads at hj
     rw[if_pos hk,if_pos hn]at hj;cases hj
    ·obtain ⟨j',hr,hj'⟩:=H.ref hi hk hn
     rw[hr.leads,List.mem_singleton]at hj;subst hj;rw[(end_ref H hi hr).2];exact ih hj'
   ·exact absurd (endA_eq (.root hi fun c=>by omega)) e
theorem lkL_not {h:Nat→Cl} {len v:Nat} (H:HG h len) (hv:endA h len v=v): ∀(n:Nat) (l:List Nat) (k:Nat),lkL h len v n l=.ok k→∀t∈l,t<len→¬Rch h v t:=by
 intro n
 induction n with
 |zero=>
  intro l k e
  cases l with
  |nil=>intro t ht;cases ht
  |cons=>cases e
 |succ n ih=>
  intro l k e
  cases l with
  |nil=>intro t ht;cases ht
  |cons x l=>
   rw[show lkL h len v (n+1) (x::l)=if endA h len x=v then .hit n else lkL h len v n (leads h (endA h len x)++l)from rfl]at e
   by_cases hx:endA h len x=v
   ·rw[if_pos hx]at e;cases e
   ·rw[if_neg hx]at e
    have hi:=ih _ k e;intro t ht htl r
    rcases List.mem_cons.1 ht with rfl|ht
    ·rcases r.end H hv htl with e'| ⟨y,hy,ry⟩
     ·exact hx e'
     ·exact hi y (List.mem_append_left _ hy) (H.ok.inn _ (H.end_lt htl) y hy) ry
    ·exact hi t (List.mem_append_right _ ht) htl r
theorem HG.bind {h:Nat→Cl} {len v t:Nat} (H:HG h len) (hv:v<len) (hk:(h v).k=1) (ht:t<len) (hne:t≠v) (hR: ¬Rch h v t):HG (bndH h v t) len:=by
 have hnn: ∀i,i≠v→(bndH h v t i).n=(h i).n:=fun i hi=>by rw[bndH_ne hi]
 refine ⟨⟨fun i hi=>?_,fun i hi h1=>?_,fun i hi y hy=>?_,H.ok.few⟩,?_,fun i hi=>?_,fun i hi h2 j hj=>?_,fun i hi h1=>?_,fun i hi h2=>?_⟩
 ·by_cases e:i=v
  ·subst e;rw[bndH_at];show (0:Int)≤(t:Int);omega
  ·rw[hnn i e];exact H.ok.n0 i hi
 ·rw[(bndH_k h v t i).1]at h1
  by_cases e:i=v
  ·subst e;exact absurd hk h1
  ·rw[hnn i e];exact H.ok.n4 i hi h1
 ·by_cases e:i=v
  ·subst e
   rw[leads_bnd_at hk hne,List.mem_singleton]at hy;omega
  ·rw[leads_bnd e]at hy;exact H.ok.inn i hi y hy
 ·obtain ⟨r,hr⟩:=H.acy
  classical
  refine ⟨fun i=>if Rch h v i then r i+r t+1 else r i,fun x hx y hy=>?_⟩
  by_cases e:x=v
  ·subst e
   rw[leads_bnd_at hk hne,List.mem_singleton]at hy;subst hy
   show (if Rch h x y then r y+r y+1 else r y)<if Rch h x x then r x+r y+1 else r x
   rw[if_neg hR,if_pos .here];omega
  ·rw[leads_bnd e]at hy
   have h1:=hr x hx y hy
   show (if Rch h v y then r y+r t+1 else r y)<if Rch h v x then r x+r t+1 else r x
   by_cases ry:Rch h v y
   ·rw[if_pos ry,if_pos (.step hy ry)];omega
   ·rw[if_neg ry]
    split <;> omega
 ·rw[(bndH_k h v t i).1];exact H.kind i hi
 ·rw[(bndH_k h v t i).1]at h2
  have e:i≠v:=fun e=>by subst e;omega
  rw[hnn i e]at hj;obtain ⟨h3,h4⟩:=H.kids i hi h2 j hj;exact ⟨h3,by rw[(bndH_k h v t _).1];exact h4⟩
 ·rw[(bndH_k h v t i).1]at h1
  rw[(bndH_k h v t i).2];exact H.nmr i hi h1
 ·rw[(bndH_k h v t i).1]at h2
  have e:i≠v:=fun e=>by subst e;omega
  rw[(bndH_k h v t i).2,hnn i e];exact H.nmf i hi h2
theorem Ref.bnd {h:Nat→Cl} {v t i j:Nat} (hn:(h v).n=v) (r:Ref h i j):Ref (bndH h v t) i j:=by
 have e:i≠v:=fun e=>by
  subst e;have h1:=r.2.1;have h2:=r.2.2;omega
 unfold Ref;rw[bndH_ne e];exact r
theorem Pth.bnd {h:Nat→Cl} {v t i j:Nat} (hn:(h v).n=v) (p:Pth h i j):Pth (bndH h v t) i j:=by
 induction p with
 |one r=>exact .one (r.bnd hn)
 |more r _ ih=>exact .more (r.bnd hn) ih
theorem Ends.bnd {h:Nat→Cl} {len v t:Nat} {σ:Int→Option Int} (hn:(h v).n=v) (E:Ends h len σ):Ends (bndH h v t) len σ:=fun i e hi=>by
 obtain ⟨x,y,h1,h2,h3,h4⟩:=E i e hi;exact ⟨x,y,h1,h2,h3,h4.bnd hn⟩
theorem hOf_set {l:List Cl} {v t:Nat} (hv:v<l.length):hOf (l.set v (setN l[v] (t:Int)))=bndH (hOf l) v t:=by
 funext i
 unfold bndH
 by_cases e:i=v
 ·subst e
  rw[if_pos rfl,hOf_get (by simpa using hv),hOf_get hv]
  simp
 ·rw[if_neg e]
  unfold hOf;simp[List.getD,List.getElem?_set_ne (Ne.symm e)]
end Go.Proofs.YtmggaclaoefdaabGreat
