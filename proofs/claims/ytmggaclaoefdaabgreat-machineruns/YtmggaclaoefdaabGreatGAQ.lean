/- Part of the proof. -/
import Derived.Test.YtmggaclaoefdaabGreatHr8
namespace Go.Proofs.YtmggaclaoefdaabGreat
open Go.RowKit Go.Proofs.Tryz
set_option linter.unusedVariables false
set_option linter.unusedSimpArgs false
set_option maxRecDepth 100000
set_option maxHeartbeats 8000000
section
open Go.ChangeShapes Go.WideShapes
instance:Inhabited Cl:=⟨⟨0,0,⟨#[]⟩⟩⟩
def dg (c:Cl):List Value:= [iV c.k,iV c.n,.string c.nm]
end
def ce (l:List Cl):List Value:=l.flatMap dg
theorem At (l:List Cl):(ce l).length=l.length*3:=by
 induction l with
 |nil=>rfl
 |cons c l ih=>show (dg c++ce l).length=_;rw[List.length_append,ih];simp[dg];omega
theorem l6 (l r:List Cl):ce (l++r)=ce l++ce r:=by simp[ce]
theorem nt (l:List Cl): ∀u∈ce l,u.oneCell'=true:=by
 intro u hu;obtain ⟨c,_,hc⟩:=List.mem_flatMap.1 hu;simp[dg]at hc
 rcases hc with rfl|rfl|rfl <;> rfl
theorem yo (l:List Cl): ∀(k:Nat) (h:k<l.length),(ce l)[k*3]?=some (iV l[k].k)/\(ce l)[k*3+1]?=some (iV l[k].n)/\(ce l)[k*3+2]?=some (.string l[k].nm):=by
 induction l with
 |nil=>intro k h;exact absurd h (nL k)
 |cons c l ih=>
  intro k h
  cases k with
  |zero=>exact ⟨rfl,rfl,rfl⟩
  |succ k=>
   obtain ⟨h1,h2,h3⟩:=ih k (by simpa using h)
   have e:ce (c::l)=dg c++ce l:=rfl;rw[e,List.getElem_cons_succ];refine ⟨?_,?_,?_⟩
   .rw[List.getElem?_append_right (by simp[dg];omega)]
    rw[show (k+1)*3-(dg c).length=k*3 from by simp[dg];omega];exact h1
   .rw[List.getElem?_append_right (by simp[dg];omega)]
    rw[show (k+1)*3+1-(dg c).length=k*3+1 from by simp[dg];omega];exact h2
   .rw[List.getElem?_append_right (by simp[dg];omega)]
    rw[show (k+1)*3+2-(dg c).length=k*3+2 from by simp[dg];omega];exact h3
def setN (c:Cl) (x:Int):Cl:=⟨c.k,x,c.nm⟩
theorem E3 (l:List Cl): ∀(i:Nat) (h:i<l.length) (x:Int),(ce l).set (i*3+1) (iV x)=ce (l.set i (setN l[i] x)):=by
 induction l with
 |nil=>intro i h;exact absurd h (nL i)
 |cons c l ih=>
  intro i h x;have e:ce (c::l)=dg c++ce l:=rfl
  cases i with
  |zero=>rfl
  |succ i=>
   have hi:i<l.length:=by simpa using h
   rw[e,gZ,List.getElem_cons_succ]
   show _=dg c++ce (l.set i (setN (l[i]'hi) x))
   rw[<-ih i hi x,List.set_append_right _ _ (by simp[dg];omega)]
   rw[show (i+1)*3+1-(dg c).length=i*3+1 from by simp[dg];omega]
def j3 (lo:Nat) (w:World) (v:Value) (l:List Cl):Prop:=w.ownsRow lo 81 3 v l.length (ce l)
def ah (l:List Cl):Nat->Cl:=fun i=>l.getD i ⟨0,0,⟨#[]⟩⟩
theorem jg {l:List Cl} {i:Nat} (h:i<l.length):ah l i=l[i]:=by unfold ah;simp[List.getD,gE h]
theorem j3.form {lo:Nat} {w:World} {v:Value} {l:List Cl} (h:j3 lo w v l): ∃sa cp,v=.slice sa l.length cp/\l.length<=cp/\l.length<=maxLen:=by
 rcases h.2 with ⟨hv,h0⟩| ⟨g,cp,cur,hv,_,_,hnc,hcm,_⟩
 .exact ⟨none,0,by rw[hv,h0],by omega,by unfold maxLen;omega⟩
 .exact ⟨_,_,hv,hnc,lT hnc hcm⟩
theorem j3.hin {lo:Nat} {w:World} {sa:Option Addr} {n cp:Nat} {l:List Cl} (h:j3 lo w (.slice sa n cp) l) (hn:n=l.length) (hm: ∀c∈l,c.nm.size<=maxLen):HIn w sa l.length (ah l):=by
 subst hn;have hb:=h.form;obtain ⟨sa',cp',e,_,hb⟩:=hb;refine ⟨fun i hi=>?_,hb,fun i hi=>by rw[jg hi];exact hm _ (List.getElem_mem hi)⟩
 rcases h.2 with ⟨hv,h0⟩| ⟨g,cp2,cur,hv,_⟩
 .omega
 .cases hv
  obtain ⟨f0,f1,f2⟩:=yo l i hi;rw[jg hi];have hc:=fun j (hj:j<l.length*3)=>World.ownsRow.cellAt h j (by omega)
  refine ⟨g,0,rfl,?_,?_,?_⟩
  .rw[Nat.zero_add];exact (hc (i*3) (by omega)).trans f0
  .rw[Nat.zero_add];exact (hc (i*3+1) (by omega)).trans f1
  .rw[Nat.zero_add];exact (hc (i*3+2) (by omega)).trans f2
theorem j3.setN {lo:Nat} {w:World} {g n cp:Nat} {l:List Cl} (h:j3 lo w (.slice (some ⟨g,0,none⟩) n cp) l) (hn:n=l.length) {i:Nat} (hi:i<l.length) (x:Int):j3 lo (w.setCell ⟨g,i*3+1,none⟩ (iV x)) (.slice (some ⟨g,0,none⟩) n cp) (l.set i (setN l[i] x)):=by
 subst hn;obtain ⟨h1,h2⟩:=h
 rcases h2 with ⟨h2,_⟩| ⟨g',cap',cur,hv,hlo,hg,hnc,hcm,hsz,htk⟩
 .cases h2
 cases hv;unfold j3;rw[List.length_set,<-E3 l i hi x];refine ⟨by simp[h1],.inr ⟨g,cp,cur.setIfInBounds (i*3+1) (iV x),rfl,hlo,?_,hnc,hcm,by simp[hsz],?_⟩⟩
 .simp only[World.setCell,Array.getElem?_modify]
  simp[hg]
 .rw[<-htk]
  simp[List.take_set]
def fa (n:Int):Cl:=⟨1,n,⟨#[]⟩⟩
def zg (c:Cl):Value:=.agg #[iV c.k,iV c.n,.string c.nm]
theorem qd (n:Int) (w:World):Calls prog 109 #[iV n] w fun e w'=>e=.returned (zg (fa n))/\Below w.heap.size w w':=by
 go_enter Tryz.func109,Tryz.ntmps109
 go_wp2_with fail;obtain ⟨y0,y1,y2,_⟩:=ae (hZ w (.cells #[iV 1,iV n,.string ⟨#[]⟩] 81));refine bodyPost_ret (v:=zg (fa n)) ?_ rfl ⟨rfl,bA⟩;simp[results,Tryz.results109,go_sem,y0,y1,y2,zg,fa]
theorem P5:(prog.info? 81).map (fun i=>(i.zero,i.size,i.bytes))=some (some (.agg #[iV 0,iV 0,.string ByteArray.empty]),3,32):=by kernel_rfl
section
inductive vy where
 |ok (n:Nat)
 |hit (n:Nat)
 |over
def vy.go:vy->(Nat->vy)->vy
 | .ok n,f=>f n
 |r,_=>r
def vy.yes:vy->Bool
 | .ok _=>true
 |_=>false
def vy.left:vy->Int
 | .ok n=>n
 | .hit n=>n
 | .over=> -1
noncomputable def ja (h:Nat->Cl) (len v:Nat):Nat->List Nat->vy
 |0=>fun l=>match l with
  | []=> .ok 0
  |_::_=> .over
 |n+1=>fun l=>match l with
  | []=> .ok (n+1)
  |t::r=>if aj h len t=v then .hit n else ja h len v n (leads h (aj h len t)++r)
theorem Oz (h:Nat->Cl) (len v n:Nat):ja h len v n []=.ok n:=by cases n <;> rfl
theorem vl (h:Nat->Cl) (len v:Nat): ∀(n:Nat) (a r:List Nat),ja h len v n (a++r)=(ja h len v n a).go fun k=>ja h len v k r:=by
 intro n
 induction n with
 |zero=>
  intro a r
  cases a with
  |nil=>rfl
  |cons x a=>rfl
 |succ n ih=>
  intro a r
  cases a with
  |nil=>rfl
  |cons x a=>
   show (if aj h len x=v then vy.hit n else ja h len v n (leads h (aj h len x)++(a++r)))=vy.go (if aj h len x=v then vy.hit n else ja h len v n (leads h (aj h len x)++a)) _
   by_cases e:aj h len x=v
   .rw[if_pos e,if_pos e];rfl
   .rw[if_neg e,if_neg e,<-List.append_assoc]
    exact ih _ r
theorem zr (h:Nat->Cl) (len v:Nat): ∀(n:Nat) (a:List Nat),(∀k,ja h len v n a=.ok k->k<=n)/\∀k,ja h len v n a=.hit k->k<n:=by
 intro n
 induction n with
 |zero=>
  intro a
  cases a with
  |nil=>exact ⟨fun k e=>by cases e;exact lZ,fun k e=>by cases e⟩
  |cons=>exact ⟨fun k e=>(by cases e),fun k e=>(by cases e)⟩
 |succ n ih=>
  intro a
  cases a with
  |nil=>exact ⟨fun k e=>by cases e;exact lZ,fun k e=>by cases e⟩
  |cons x a=>
   rw[show ja h len v (n+1) (x::a)=if aj h len x=v then .hit n else ja h len v n (leads h (aj h len x)++a)from rfl]
   by_cases e:aj h len x=v
   .rw[if_pos e];exact ⟨fun k e=>(by cases e),fun k e=>(by cases e;omega)⟩
   .rw[if_neg e]
    have:=ih (leads h (aj h len x)++a);exact ⟨fun k e=>by have:=this.1 k e;omega,fun k e=>by have:=this.2 k e;omega⟩
structure MK (w:World) (mb vb m:Nat) (bv:Value) (left:Int) (a:Option Addr) (len cap:Nat) (h:Nat->Cl) (σ:Int->Option Int):Prop where
 blk:w.heap[mb]?=some (.cells #[.pointer (some ⟨vb,0,none⟩),bv,iV left] 212)
 view:VW w vb m a len cap h σ
variable {w w':World} {mb vb m:Nat} {bv:Value} {left:Int} {a:Option Addr} {len cap:Nat} {h:Nat->Cl} {σ:Int->Option Int}
theorem MK.lt (K:MK w mb vb m bv left a len cap h σ):mb<w.heap.size:=(aZ K.blk)
theorem MK.ne (K:MK w mb vb m bv left a len cap h σ):mb≠m/\mb≠vb:=by
 refine ⟨K.view.mp.ne_block K.blk,fun e=>?_⟩
 subst e;have:=K.blk.symm.trans K.view.blk;simp at this
theorem MK.ne_row (K:MK w mb vb m bv left a len cap h σ) {i:Nat} (hi:i<len) {b o:Nat} (ha:a=some ⟨b,o,none⟩):b≠mb:=by
 obtain ⟨b',o',e,c0,c1,c2⟩:=K.view.row.row i hi;rw[ha]at e;cases e;intro e;subst e;have hb:=K.blk;have h0: ∀j,w.cell? (dZ b j)=(#[pZ vb,bv,iV left]:Array Value)[j]?:=fun j=>by simp[World.cell?,hb]
 rw[h0]at c0 c1 c2;have h2:=(aZ c2);have h3:o+i*3=0:=by simp at h2;omega
 rw[h3]at c0;cases c0
theorem MK.cells (K:MK w mb vb m bv left a len cap h σ):w.cell? ⟨mb,0,none⟩=some (.pointer (some ⟨vb,0,none⟩))/\w.cell? ⟨mb,1,none⟩=some bv/\w.cell? ⟨mb,2,none⟩=some (iV left)/\∀j,w.frozen? ⟨mb,j,none⟩=false:=by
 have:=K.blk;refine ⟨?_,?_,?_,fun j=>?_⟩ <;> simp[World.cell?,World.frozen?,this]
theorem MK.below (K:MK w mb vb m bv left a len cap h σ) (hb:Below w.heap.size w w'):MK w' mb vb m bv left a len cap h σ:=⟨(hb.block _ K.lt).trans K.blk,K.view.below hb⟩
theorem MK.map {σ':Int->Option Int} (K:MK w mb vb m bv left a len cap h σ) (V:VW w' vb m a len cap h σ') (hg:w.grownBy w' (some m)):MK w' mb vb m bv left a len cap h σ':=⟨(hg.block _ K.lt (fun e=>K.ne.1 (oj e))).trans K.blk,V⟩
theorem MK.view_set (K:MK w mb vb m bv left a len cap h σ) (hg:w.grownBy w' (some mb)):VW w' vb m a len cap h σ:=by
 refine ⟨(hg.block _ K.view.lt.1 (fun e=>K.ne.2 (oj e).symm)).trans K.view.blk,⟨fun i hi=>?_,K.view.row.big,K.view.row.nm⟩,K.view.mp.kept hg (fun e=>K.ne.1 (oj e).symm),K.view.ends⟩
 obtain ⟨b,o,e,c0,c1,c2⟩:=K.view.row.row i hi;have hne:=K.ne_row hi e;have hx: ∀j,w'.cell? (dZ b j)=w.cell? (dZ b j):=fun j=>cB (hg.block b (ag c0) (fun e=>hne (oj e)))
 exact ⟨b,o,e,(hx _).trans c0,(hx _).trans c1,(hx _).trans c2⟩
theorem MK.setLeft (K:MK w mb vb m bv left a len cap h σ) (x:Int):MK (w.setCell ⟨mb,2,none⟩ (iV x)) mb vb m bv x a len cap h σ:=by
 refine ⟨?_,K.view_set (af (W:=w) mb 2 _)⟩;simp only[World.setCell,Array.getElem?_modify];simp[K.blk]
theorem MK.low {w0:World} {bv0:Value} {l0:Int} {σ0:Int->Option Int} (K0:MK w0 mb vb m bv0 l0 a len cap h σ0) (K:MK w mb vb m bv left a len cap h σ) (hk: ∀k,k<w0.heap.size->w'.heap[k]?=w.heap[k]?):MK w' mb vb m bv left a len cap h σ:=⟨(hk _ K0.lt).trans K.blk,K0.view.low K.view hk⟩
theorem MK.own {B:Nat} {row:Option Nat} (K:MK w mb vb m bv left a len cap h σ) (hm:m<B) (hg:w.grownBy w' row) (hr: ∀r,row=some r->B<=r/\∃o:Obj,w.heap[r]?=some o/\o.isCells=false):MK w' mb vb m bv left a len cap h σ:=
 ⟨(hg.block _ K.lt (dd (fun r e=>(hr r e).2) K.blk rfl)).trans K.blk,K.view.own hm hg hr⟩
theorem rf {n:Nat} (hn:n<=1000000) (w:World) (K:MK w mb vb m bv (n:Int) a len cap h σ):
 Calls prog 171 #[.pointer (some ⟨mb,0,none⟩)] w fun e w'=>e=.returned (.bool (decide (0<n)))/\MK w' mb vb m bv ((n:Int)-1) a len cap h σ/\w.grownBy w' (some mb):=by
 obtain ⟨k0,k1,k2,kf⟩:=K.cells;have kf2:=kf 2;have HK:=hid K;have hw1:IntKind.i64.wrap ((n:Int)-1)=(n:Int)-1:=by simp[IntKind.wrap,IntKind.bits,IntKind.signed];omega
 have HK1:Hid (MK (w.setCell (dZ mb 2) (iV ((n:Int)-1))) mb vb m bv ((n:Int)-1) a len cap h σ):=K.setLeft _;have j2:=HK1.o.cells.2.2.1;have hd:decide ((n:Int)-1>=0)=decide (0<n):=by rw[decide_eq_decide];omega
 clear K kf
 go_enter Tryz.func171,Tryz.ntmps171
 go_wp2_with fail;go_ret;exact ⟨by rw[<-hd];simp,HK1.o,af (W:=w) mb 2 _⟩
end
section
open Go.Shelf
attribute [local go_sem] Oper.semAt_some
def MM (m mb k:Nat):Prop:=k=m\/k=mb
def Tn (w:World) (mb vb m:Nat) (bv:Value) (a:Option Addr) (len cap:Nat) (h:Nat->Cl) (r:vy) (e:Ending) (w':World):Prop:=e=.returned (.bool r.yes)/\(∃σ',MK w' mb vb m bv r.left a len cap h σ')/\Bw (MM m mb) w.heap.size w w'
def To (n:Nat):Prop:=∀(mb vb m:Nat) (bv:Value) (a:Option Addr) (len cap:Nat) (h:Nat->Cl) (σ:Int->Option Int) (t v:Nat) (w:World),HG h len->len<=1000000->t<len->MK w mb vb m bv (n:Int) a len cap h σ->
 Calls prog 175 #[.pointer (some ⟨mb,0,none⟩),iV (t:Int),iV (v:Int)] w (Tn w mb vb m bv a len cap h (ja h len v n [t]))
structure Pv (w:World) (mb vb m:Nat) (bv:Value) (a:Option Addr) (len cap:Nat) (h:Nat->Cl) (v s z:Nat) (left:Int) (W:World) (σ':Int->Option Int):Prop where
 b0:Boxed W s 210 (.pointer (some ⟨mb,0,none⟩))
 b1:Boxed W (s+1) 3 (iV (v:Int))
 b2:Boxed W (s+2) 4 (.bool false)
 mkg:MK W mb vb m bv left a len cap h σ'
 bw:Bw (MM m mb) s w W
 sz:z<=W.heap.size
theorem Pv.own {w:World} {mb vb m:Nat} {bv:Value} {a:Option Addr} {len cap:Nat} {h:Nat->Cl} {v s z:Nat} {left:Int} {W Y:World} {σ':Int->Option Int} {row:Option Nat} {B:Nat} (L:Pv w mb vb m bv a len cap h v s z left W σ') (hm:m<B) (hs:s<=z) (hB:s<=B) (hg:W.grownBy Y row) (hr: ∀r,row=some r->B<=r/\∃o:Obj,W.heap[r]?=some o/\o.isCells=false):Pv w mb vb m bv a len cap h v s z left Y σ':=
 ⟨jh L.b0 hg hr,jh L.b1 hg hr,jh L.b2 hg hr,L.mkg.own hm hg hr,L.bw.own (lT hs L.sz) hB hg hr,lT L.sz hg.size⟩
theorem Ma {h:Nat->Cl} {len v n:Nat} {p l:List Nat} (hp:p <+:l) (hn:(ja h len v n p).yes=false):ja h len v n l=ja h len v n p:=by
 obtain ⟨r,rfl⟩:=hp;rw[vl]
 cases e:ja h len v n p with
 |ok k=>rw[e]at hn;cases hn
 |hit=>rfl
 |over=>rfl
def Ug (w:World) (mb vb m:Nat) (bv:Value) (a:Option Addr) (len cap:Nat) (h:Nat->Cl) (v s z n:Nat) (ci:List (Cx len)) (W:World):Prop:=∃(k:Nat) (σ':Int->Option Int),ja h len v n (bh ci)=.ok k/\Pv w mb vb m bv a len cap h v s z (k:Int) W σ'
def Uf (w:World) (mb vb m:Nat) (bv:Value) (a:Option Addr) (len cap:Nat) (h:Nat->Cl) (v s z n:Nat) (c:Code) (ci:List (Cx len)) (W:World):Prop:=c=.ret/\(ja h len v n (bh ci)).yes=false/\∃σ',Pv w mb vb m bv a len cap h v s z (ja h len v n (bh ci)).left W σ'
noncomputable def Sp (h:Nat->Cl) (len v n z:Nat):vy:=match n with
 |0=> .over
 |k+1=>if z=v then .hit k else ja h len v k (leads h z)
theorem F8 (h:Nat->Cl) (len v n t:Nat):ja h len v n [t]=Sp h len v n (aj h len t):=by
 cases n with
 |zero=>rfl
 |succ k=>
  show (if aj h len t=v then vy.hit k else ja h len v k (leads h (aj h len t)++ []))=_
  rw[List.append_nil];rfl
theorem C4 (n:Nat) (hn:n<=1000000) (ih: ∀k,k<n->To k):To n:=by
 intro mb vb m bv a len cap h σ t v w H hlb ht K;have HK0:=hid K;have HG':=hid H;obtain ⟨W0,hW0⟩: ∃W0,((w.alloc (.cells #[pZ mb] 210)).alloc (.cells #[iV (v:Int)] 3)).alloc (.cells #[.bool false] 4)=W0:=⟨_,rfl⟩;have hB0:Below w.heap.size w W0:=by rw[<-hW0];exact (bA.alloc (by simp) _).alloc (by simp;omega) _
 have hs0:W0.heap.size=w.heap.size+3:=by rw[<-hW0];simp
 have x0:Boxed W0 w.heap.size 210 (pZ mb):=by rw[<-hW0];exact ((Boxed.new w _ _).alloc _).alloc _
 have x1:Boxed W0 (w.heap.size+1) 3 (iV (v:Int)):=by
  rw[<-hW0];have:=(Boxed.new (w.alloc (.cells #[pZ mb] 210)) 3 (iV (v:Int))).alloc (.cells #[.bool false] 4)
  rwa [World.size_alloc]at this
 have x2:Boxed W0 (w.heap.size+2) 4 (.bool false):=by
  rw[<-hW0];have:=Boxed.new ((w.alloc (.cells #[pZ mb] 210)).alloc (.cells #[iV (v:Int)] 3)) 4 (.bool false)
  rwa [World.size_alloc,World.size_alloc]at this
 have hKm:=K.below hB0;have HDe:=hid (kd H hlb ht W0 hKm.view);have k0:=hKm.cells.1;have d0:=x0.cell;have hml:=K.view.lt.2;have hmb:=K.lt;have HIH:=hid ih;have HX0:Hid (Boxed W0 w.heap.size 210 (pZ mb)/\Boxed W0 (w.heap.size+1) 3 (iV (v:Int))/\Boxed W0 (w.heap.size+2) 4 (.bool false)):=⟨x0,x1,x2⟩;have HKm:=hid hKm;have HBW:Hid (Bw (MM m mb) w.heap.size w W0):=Bw.ofBelow hB0;have hz:=H.end_lt ht;have HL:=hid (F8 h len v n t);generalize hrr:ja h len v n [t]=rr at*;clear K H x0 x1 x2 hB0 ih hKm;generalize aj h len t=z at*;refine (callsIn_wide (n:=5)).1 (callsIn_of_wp_marks Tryz.func175 rfl trivial (wpIn_wide.2 ?_) rfl);simp only[Tryz.ntmps175,List.size_toArray,List.length_cons,List.length_nil,Nat.reduceAdd,Nat.reduceSub,Array.replicate_succ,Array.replicate_zero,List.push_toArray,List.append_toArray,List.nil_append,List.cons_append];go_wp2_with fail
 try rw[hW0]
 go_wp2_with fail;generalize hs:w.heap.size=s at*;refine HDe.o.mono ?_;rintro e w1 ⟨rfl,⟨σ1,hV1⟩,hg1⟩;have hK1:=HKm.o.map hV1 hg1;have hs1:=hg1.size;have hnm: ∀q,s<=q->some q≠some m:=fun q hq e=>by have:=oj e;omega
 have HX1:Hid (Boxed w1 s 210 (pZ mb)/\Boxed w1 (s+1) 3 (iV (v:Int))/\Boxed w1 (s+2) 4 (.bool false)):=⟨HX0.o.1.kept hg1 (hnm _ (by omega)),HX0.o.2.1.kept hg1 (hnm _ (by omega)),HX0.o.2.2.kept hg1 (hnm _ (by omega))⟩
 have HB1:Hid (Bw (MM m mb) s w w1):=HBW.o.grown hg1 (by omega) (fun q e=> .inr (.inl (oj e).symm))
 have HLo:=hid (rf hn w1 hK1);have d1:=HX1.o.1.cell;clear hV1 hg1 hK1 HX0 HKm HBW HDe d0 k0 hnm;go_wp2_with fail;refine HLo.o.mono ?_;rintro e w2 ⟨rfl,hK2,hg2⟩;have hs2:=hg2.size;have hnb: ∀q,s<=q->some q≠some mb:=fun q hq e=>by have:=oj e;omega
 have HX2:Hid (Boxed w2 s 210 (pZ mb)/\Boxed w2 (s+1) 3 (iV (v:Int))/\Boxed w2 (s+2) 4 (.bool false)):=⟨HX1.o.1.kept hg2 (hnb _ (by omega)),HX1.o.2.1.kept hg2 (hnb _ (by omega)),HX1.o.2.2.kept hg2 (hnb _ (by omega))⟩
 have HB2:Hid (Bw (MM m mb) s w w2):=HB1.o.grown hg2 (by omega) (fun q e=> rZ (oj e).symm)
 have HK2:=hid hK2;have f0:=HX2.o.1.cell;have f1:=HX2.o.2.1.cell;have f2:=HX2.o.2.2.cell;have ff2:=HX2.o.2.2.frozen;have HSt:Hid (∀b:Bool,MK (w2.setCell (dZ (s+2) 0) (.bool b)) mb vb m bv ((n:Int)-1) a len cap h σ1/\Bw (MM m mb) s w (w2.setCell (dZ (s+2) 0) (.bool b))/\(w2.setCell (dZ (s+2) 0) (.bool b)).cell? (dZ (s+2) 0)=some (.bool b)):=fun b=>⟨HK0.o.low hK2 fun q hq=>(af (W:=w2) (s+2) 0 _).block q (by omega) (fun e=>by have:=oj e;omega),HB2.o.grown (af (W:=w2) (s+2) 0 _) (by omega) (fun q e=> .inl (by cases e;omega)),(HX2.o.2.2.set _).cell⟩
 clear hK2 hg2 d1 HX1 HB1 HLo hnb
 cases n with
 |zero=>
  have hd:decide (0<0)=false:=rfl;have HE:=hid HL.o;go_wp2_with fail;have y:=(HSt.o false).2.2;refine ⟨.bool false,?_,?_,⟨σ1,?_⟩,?_⟩
  .simp[results,Tryz.results175,go_sem,y]
  .rw[HE.o];rfl
  .rw[HE.o];exact (HSt.o false).1
  .rw[hs];exact (HSt.o false).2.1
 |succ n=>
 have hd:decide (0<n+1)=true:=decide_eq_true (by omega)
 have hn1:((n+1:Nat):Int)-1=(n:Int):=by omega
 rw[hn1]at HK2 HSt
 by_cases hzv:z=v
 case pos=>
  have hzb:=beq_iff_eq.2 (by omega)
  have HE:Hid (rr=.hit n):=by rw[Hid,HL.o];show (if z=v then _ else _)=_;rw[if_pos hzv]
  go_wp2_with fail;have y:=(HSt.o false).2.2;refine ⟨.bool false,?_,?_,⟨σ1,?_⟩,?_⟩
  .simp[results,Tryz.results175,go_sem,y]
  .rw[HE.o];rfl
  .rw[HE.o];exact (HSt.o false).1
  .rw[hs];exact (HSt.o false).2.1
 have hzb:=bF (by omega)
 have HE:Hid (rr=ja h len v n (leads h z)):=by rw[Hid,HL.o];show (if z=v then _ else _)=_;rw[if_neg hzv]
 have HLd:Hid (Calls prog 88 #[.slice a len cap,iV z] w2 fun e w'=>e=.returned (.func (.func 126) #[] #[pZ w2.heap.size,pZ (w2.heap.size+1)])/\w'=(w2.alloc (.cells #[.slice a len cap] 25)).alloc (.cells #[iV z] 3)):=ns a len cap z w2
 have k20:=HK2.o.cells.1;have v20:=HK2.o.view.cells.1;clear hzv HSt HL;go_wp2_with fail;refine HLd.o.mono ?_;rintro e w3 ⟨rfl,hw3⟩;have hB3:Below w2.heap.size w2 w3:=by rw[hw3];exact bA.alloc (by simp) _
 have hx3:w3.heap[w2.heap.size]?=some (.cells #[.slice a len cap] 25)/\w3.heap[w2.heap.size+1]?=some (.cells #[iV (z:Int)] 3):=by rw[hw3];exact oq _ _ _
 have hs3:w3.heap.size=w2.heap.size+2:=by rw[hw3];simp
 have HI0:Hid (∃(k:Nat) (σ':Int->Option Int),ja h len v n (bh ([]:List (Cx len)))=.ok k/\Pv w mb vb m bv a len cap h v s w3.heap.size (k:Int) w3 σ'):=⟨n,σ1,Oz _ _ _ _,(hB3.block _ HX2.o.1.lt).trans HX2.o.1,(hB3.block _ HX2.o.2.1.lt).trans HX2.o.2.1,(hB3.block _ HX2.o.2.2.lt).trans HX2.o.2.2,HK2.o.below hB3,HB2.o.trans (Bw.ofBelow (hB3.mono (by omega))),lZ⟩
 have HHin:=hid (HK2.o.view.row.below hB3);have HX3:=hid hx3;have hkk:=HG'.o.kind z hz;clear hw3 hx3 hB3 k20 v20 f0 f1 f2 ff2 HLd;go_wp2_with fail;generalize hr:w2.heap.size=r at*
 refine wpIn_wide.1 (wpIn_rangeFunc_ownG (n:=5) rfl (by omega) (gf:=126) (lb:= #[pZ r,pZ (r+1)]) rfl trivial (enters_of Tryz.func126 (by kernel_rfl) rfl)
  (k7 4 hz r (r+1) w3 HHin.o HG'.o.ok hkk hlb HX3.o.1 HX3.o.2) (fun h k=>Kb.t h k) (Kb.b (by omega)) bR (fun _=>rfl)
  (Ug w mb vb m bv a len cap h v s w3.heap.size n) (Uf w mb vb m bv a len cap h v s w3.heap.size n)
  (fun ci X Y row hs' hg hr'=>by
    obtain ⟨k,σ',e,L⟩:=hs';exact ⟨k,σ',e,L.own (by omega) (by omega) (by omega) hg hr'⟩)
  (fun c ci X Y row hs' hg hr'=>by
    obtain ⟨e,h0,σ',L⟩:=hs';exact ⟨e,h0,σ',L.own (by omega) (by omega) (by omega) hg hr'⟩)
  HI0.o
  (fun x=> { tmps:= #[pZ mb,iV (z:Int),iV (v:Int),pZ s,undef,pZ (s+1),pZ (s+2),iV (x.1:Int),pZ mb,pZ mb,pZ mb,pZ vb,iV (t:Int),iV (z:Int),pZ mb,.bool true,.bool false,.bool false,iV (z:Int),iV (v:Int),.bool false,.bool false,pZ mb,pZ mb,pZ mb,pZ vb,pZ vb,pZ vb,.slice a len cap,iV (z:Int),.func (.func 126) #[] #[pZ r,pZ (r+1)],iV (x.1:Int),undef,undef,undef,undef,undef],defers:= []}) ?assign ?body ?done ?stop)
 case assign=>
  intro l x W K hK
  gi_wp2
  exact hK
 case stop=>
  rintro D c ci W hD hp ⟨rfl,h0,σ',L⟩ hDK;refine wpIn_ret ?_;have hg:=grownBy_putObj' W D (.deferred none);have hne: ∀k,k<w3.heap.size->some k≠some D:=fun k hk e=>by have:=oj e;omega
  have h1':=L.b2.kept hg (hne _ (by omega))
  have hE:=HE.o.trans (Ma hp h0);have hz':=L.sz;refine ⟨by simp,.inl ⟨_,_,rfl,run_takeDeferred hDK,.bool false,?_,?_,⟨σ',?_⟩,?_⟩⟩
  .simp[results,Tryz.results175,go_sem,h1'.cell]
  .rw[hE,h0]
  .rw[hE];exact HK0.o.low L.mkg fun k hk=>hg.block k (by omega) (hne _ (by omega))
  .rw[hs];exact L.bw.grown (B:=s) hg (by omega) (fun k e=> .inl (by cases e;omega))
 case done=>
  rintro D ys W hD hys ⟨k,σ',e,L⟩ hDK;have b2:=L.b2.cell;have f2:=L.b2.frozen;have hz':=L.sz;have HEk:Hid (rr=.ok k):=by rw[Hid,HE.o,<-hys];exact e
  have HKf:Hid (MK (W.setCell (dZ (s+2) 0) (.bool true)) mb vb m bv (k:Int) a len cap h σ'):=HK0.o.low L.mkg fun q hq=>(af (W:=W) (s+2) 0 _).block q (by omega) (fun e=>by have:=oj e;omega)
  have HB:Hid (Bw (MM m mb) s w (W.setCell (dZ (s+2) 0) (.bool true))):=L.bw.grown (af (W:=W) (s+2) 0 _) (by omega) (fun q e=> .inl (by cases e;omega))
  have HX:Hid (Boxed (W.setCell (dZ (s+2) 0) (.bool true)) (s+2) 4 (.bool true)):=L.b2.set _;have HD:Hid ((W.setCell (dZ (s+2) 0) (.bool true)).heap[D]?=some (.deferred (some []))):=(KeepsOthers.setCell _ _ _).same D _ hDK rfl;clear L hDK e hys;go_wp2_with fail;have hg:=grownBy_putObj' (W.setCell (dZ (s+2) 0) (.bool true)) D (.deferred none);have hne: ∀k,k<w3.heap.size->some k≠some D:=fun k hk e=>by have:=oj e;omega
  have hX:=HX.o.kept hg (hne _ (by omega))
  refine ⟨by simp,.inl ⟨_,_,rfl,run_takeDeferred HD.o,.bool true,?_,?_,⟨σ',?_⟩,?_⟩⟩
  .simp[results,Tryz.results175,go_sem,hX.cell]
  .rw[HEk.o];rfl
  .rw[HEk.o];exact HK0.o.low HKf.o fun q hq=>hg.block q (by simp;omega) (hne _ (by omega))
  .rw[hs];exact HB.o.grown (B:=s) hg (by simp;omega) (fun k e=> .inl (by cases e;omega))
 case body=>
  rintro l ci x W ⟨k,σ',e,L⟩ hpl;have b0:=L.b0.cell;have b1:=L.b1.cell;have hxl:x.1<len:=x.2;have hkn:k<=n:=(zr h len v n (bh ci)).1 k e;have HLa:Hid (Calls prog 175 #[pZ mb,iV (x.1:Int),iV (v:Int)] W (Tn W mb vb m bv a len cap h (ja h len v k [x.1]))):=HIH.o k (by omega) mb vb m bv a len cap h σ' x.1 v W HG'.o hlb hxl L.mkg
  have HEr:Hid (ja h len v n (bh (ci++ [x]))=ja h len v k [x.1]):=by rw[Hid,ia,vl,e];rfl
  have HLB:Hid (Pv w mb vb m bv a len cap h v s w3.heap.size (k:Int) W σ'):=L;generalize ja h len v k [x.1]=rx at*;clear L e
  gi_wp2
  refine ⟨trivial,CallsIn.inRound l (callsIn_wide.2 (HLa.o.mono ?_))⟩;rintro e w5 ⟨rfl,⟨σ5,hK5⟩,hb5⟩;have hszW:=HLB.o.sz;have hs5:=hb5.size
  have hnM: ∀q,s<=q->¬MM m mb q:=fun q hq hm=>by
   rcases hm with e|e <;> omega
  have HB5:Hid (Pv w mb vb m bv a len cap h v s w3.heap.size rx.left w5 σ5):=⟨(hb5.block s (by omega) (hnM _ (by omega))).trans HLB.o.b0,(hb5.block (s+1) (by omega) (hnM _ (by omega))).trans HLB.o.b1,(hb5.block (s+2) (by omega) (hnM _ (by omega))).trans HLB.o.b2,hK5,HLB.o.bw.trans (hb5.mono (by omega)),by omega⟩
  have HKp:Hid (KeepsFrom w3.heap.size W w5):=⟨hb5.size,fun q o hq ho _=>(hb5.block q (aZ ho) (hnM _ (by omega))).trans ho⟩
  have HKb:Hid (Kb (r+1) W w5):=⟨by omega,hb5.block (r+1) (by omega) (hnM _ (by omega))⟩
  have g2:=HB5.o.b2.cell;have gf2:=HB5.o.b2.frozen;clear hK5 hb5
  cases hy:rx.yes with
  |true=>
   obtain ⟨k',hk'⟩: ∃k',rx=.ok k':=by
    cases rx with
    |ok k'=>exact ⟨k',rfl⟩
    |hit=>cases hy
    |over=>cases hy
   have HIn:Hid (Ug w mb vb m bv a len cap h v s w3.heap.size n (ci++ [x]) w5):=⟨k',σ5,by rw[HEr.o,hk'],by have h9:=HB5.o;rw[hk']at h9;exact h9⟩
   gi_wp2
   exact ⟨HKp.o,HKb.o,HIn.o⟩
  |false=>
   have HX:Hid (Uf w mb vb m bv a len cap h v s w3.heap.size n .ret (ci++ [x]) (w5.setCell (dZ (s+2) 0) (.bool false))):=by
    refine ⟨rfl,by rw[HEr.o,hy],σ5,?_⟩
    rw[HEr.o];have hgs:=af (W:=w5) (s+2) 0 (.bool false);have L:=HB5.o;exact ⟨L.b0.other (by omega) _,L.b1.other (by omega) _,L.b2.set _,HK0.o.low L.mkg fun q hq=>hgs.block q (by omega) (fun e=>by have:=oj e;omega),L.bw.grown hgs (by omega) (fun q e=> .inl (by cases e;omega)),by simp;omega⟩
   have HKq:Hid (KeepsFrom w3.heap.size W (w5.setCell (dZ (s+2) 0) (.bool false))):=HKp.o.trans ((KeepsOthers.setCell _ _ _).from _)
   gi_wp2
   exact ⟨HKq.o,HX.o⟩
theorem Eo: ∀n,n<=1000000->To n:=by
 intro n
 induction n using Nat.strongRecOn with
 |_ n ih=>intro hn;exact C4 n hn fun k hk=>ih k hk (by omega)
end
def gz (h:Nat->Cl) (v t:Nat):Nat->Cl:=fun i=>if i=v then setN (h v) (t:Int)else h i
theorem px (h:Nat->Cl) (v t:Nat):gz h v t v=setN (h v) (t:Int):=by unfold gz;rw[if_pos rfl]
theorem dt {h:Nat->Cl} {v t i:Nat} (hi:i≠v):gz h v t i=h i:=by unfold gz;rw[if_neg hi]
theorem lg (h:Nat->Cl) (v t i:Nat):(gz h v t i).k=(h i).k/\(gz h v t i).nm=(h i).nm:=by
 by_cases e:i=v
 .subst e;rw[px];exact ⟨rfl,rfl⟩
 .rw[dt e];exact ⟨rfl,rfl⟩
theorem yg {h:Nat->Cl} {v t i:Nat} (hi:i≠v):leads (gz h v t) i=leads h i:=by unfold leads;rw[dt hi]
theorem qe {h:Nat->Cl} {v t:Nat} (hk:(h v).k=1) (hne:t≠v):leads (gz h v t) v= [t]:=by
 unfold leads
 rw[px,if_pos (show (setN (h v) (t:Int)).k=1 from hk),if_neg (show¬(setN (h v) (t:Int)).n=(v:Int)from fun e=>by
  have:(t:Int)=(v:Int):=e;omega)]
 rfl
inductive vu (h:Nat->Cl) (v:Nat):Nat->Prop
 |here:vu h v v
 |step {i j:Nat}:j∈leads h i->vu h v j->vu h v i
theorem vu.end {h:Nat->Cl} {len v:Nat} (H:HG h len) (hv:aj h len v=v) {t:Nat} (r:vu h v t):t<len->aj h len t=v\/∃x∈leads h (aj h len t),vu h v x:=by
 induction r with
 |here=>intro _;exact .inl hv
 |step hj r ih=>
  rename_i i j;intro hi
  by_cases e:aj h len i=i
  .exact .inr ⟨j,by rw[e];exact hj,r⟩
  .rcases H.kind i hi with hk|hk
   .by_cases hn:(h i).n=i
    .unfold leads at hj
     rw[if_pos hk,if_pos hn]at hj;cases hj
    .obtain ⟨j',hr,hj'⟩:=H.ref hi hk hn
     rw[hr.leads,List.mem_singleton]at hj;subst hj;rw[(pu H hi hr).2];exact ih hj'
   .exact absurd (ix (.root hi fun c=>by omega)) e
theorem F9 {h:Nat->Cl} {len v:Nat} (H:HG h len) (hv:aj h len v=v): ∀(n:Nat) (l:List Nat) (k:Nat),ja h len v n l=.ok k->∀t∈l,t<len->¬vu h v t:=by
 intro n
 induction n with
 |zero=>
  intro l k e
  cases l with
  |nil=>intro t ht;cases ht
  |cons=>cases e
 |succ n ih=>
  intro l k e
  cases l with
  |nil=>intro t ht;cases ht
  |cons x l=>
   rw[show ja h len v (n+1) (x::l)=if aj h len x=v then .hit n else ja h len v n (leads h (aj h len x)++l)from rfl]at e
   by_cases hx:aj h len x=v
   .rw[if_pos hx]at e;cases e
   .rw[if_neg hx]at e
    have hi:=ih _ k e;intro t ht htl r
    rcases List.mem_cons.1 ht with rfl|ht
    .rcases r.end H hv htl with e'| ⟨y,hy,ry⟩
     .exact hx e'
     .exact hi y (List.mem_append_left _ hy) (H.ok.inn _ (H.end_lt htl) y hy) ry
    .exact hi t (List.mem_append_right _ ht) htl r
theorem HG.bind {h:Nat->Cl} {len v t:Nat} (H:HG h len) (hv:v<len) (hk:(h v).k=1) (ht:t<len) (hne:t≠v) (hR: ¬vu h v t):HG (gz h v t) len:=by
 have hnn: ∀i,i≠v->(gz h v t i).n=(h i).n:=fun i hi=>by rw[dt hi]
 refine ⟨⟨fun i hi=>?_,fun i hi h1=>?_,fun i hi y hy=>?_,H.ok.few⟩,?_,fun i hi=>?_,fun i hi h2 j hj=>?_,fun i hi h1=>?_,fun i hi h2=>?_⟩
 .by_cases e:i=v
  .subst e;rw[px];show (0:Int)<=(t:Int);omega
  .rw[hnn i e];exact H.ok.n0 i hi
 .rw[(lg h v t i).1]at h1
  by_cases e:i=v
  .subst e;exact absurd hk h1
  .rw[hnn i e];exact H.ok.n4 i hi h1
 .by_cases e:i=v
  .subst e
   rw[qe hk hne,List.mem_singleton]at hy;omega
  .rw[yg e]at hy;exact H.ok.inn i hi y hy
 .obtain ⟨r,hr⟩:=H.acy
  classical
  refine ⟨fun i=>if vu h v i then r i+r t+1 else r i,fun x hx y hy=>?_⟩
  by_cases e:x=v
  .subst e
   rw[qe hk hne,List.mem_singleton]at hy;subst hy
   show (if vu h x y then r y+r y+1 else r y)<if vu h x x then r x+r y+1 else r x
   rw[if_neg hR,if_pos .here];omega
  .rw[yg e]at hy
   have h1:=hr x hx y hy
   show (if vu h v y then r y+r t+1 else r y)<if vu h v x then r x+r t+1 else r x
   by_cases ry:vu h v y
   .rw[if_pos ry,if_pos (.step hy ry)];omega
   .rw[if_neg ry]
    split <;> omega
 .rw[(lg h v t i).1];exact H.kind i hi
 .rw[(lg h v t i).1]at h2
  have e:i≠v:=fun e=>by subst e;omega
  rw[hnn i e]at hj;obtain ⟨h3,h4⟩:=H.kids i hi h2 j hj;exact ⟨h3,by rw[(lg h v t _).1];exact h4⟩
 .rw[(lg h v t i).1]at h1
  rw[(lg h v t i).2];exact H.nmr i hi h1
 .rw[(lg h v t i).1]at h2
  have e:i≠v:=fun e=>by subst e;omega
  rw[(lg h v t i).2,hnn i e];exact H.nmf i hi h2
theorem Gu.bnd {h:Nat->Cl} {v t i j:Nat} (hn:(h v).n=v) (r:Gu h i j):Gu (gz h v t) i j:=by
 have e:i≠v:=fun e=>by
  subst e;have h1:=r.2.1;have h2:=r.2.2;omega
 unfold Gu;rw[dt e];exact r
theorem Au.bnd {h:Nat->Cl} {v t i j:Nat} (hn:(h v).n=v) (p:Au h i j):Au (gz h v t) i j:=by
 induction p with
 |one r=>exact .one (r.bnd hn)
 |more r _ ih=>exact .more (r.bnd hn) ih
theorem Ay.bnd {h:Nat->Cl} {len v t:Nat} {σ:Int->Option Int} (hn:(h v).n=v) (E:Ay h len σ):Ay (gz h v t) len σ:=fun i e hi=>by
 obtain ⟨x,y,h1,h2,h3,h4⟩:=E i e hi;exact ⟨x,y,h1,h2,h3,h4.bnd hn⟩
theorem Pb {l:List Cl} {v t:Nat} (hv:v<l.length):ah (l.set v (setN l[v] (t:Int)))=gz (ah l) v t:=by
 funext i
 unfold gz
 by_cases e:i=v
 .subst e
  rw[if_pos rfl,jg (by simpa using hv),jg hv]
  simp
 .rw[if_neg e]
  unfold ah;simp[List.getD,List.getElem?_set_ne (Ne.symm e)]
end Go.Proofs.YtmggaclaoefdaabGreat
