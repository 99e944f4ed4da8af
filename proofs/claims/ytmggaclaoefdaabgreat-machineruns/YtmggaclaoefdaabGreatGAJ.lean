/- Part of the proof. -/
import Derived.Test.YtmggaclaoefdaabGreatGAI
namespace Go.Proofs.YtmggaclaoefdaabGreat
open Go.RowKit Go.Proofs.Tryz
set_option linter.unusedVariables false
set_option linter.unusedSimpArgs false
set_option maxRecDepth 100000
set_option maxHeartbeats 8000000
structure Bw (M:Nat->Prop) (B:Nat) (w w':World):Prop where
 os:w'.os=w.os
 tape:w'.tape=w.tape
 output:w'.output=w.output
 size:w.heap.size<=w'.heap.size
 block: ∀k,k<B->¬M k->w'.heap[k]?=w.heap[k]?
theorem Bw.ofBelow {M:Nat->Prop} {B:Nat} {w w':World} (h:Below B w w'):Bw M B w w':=⟨h.os,h.tape,h.output,h.size,fun k hk _=>h.block k hk⟩
theorem Bw.refl (M:Nat->Prop) (B:Nat) (w:World):Bw M B w w:=Bw.ofBelow bR
theorem Bw.trans {M:Nat->Prop} {B:Nat} {a b c:World} (h:Bw M B a b) (k:Bw M B b c):Bw M B a c:=
 ⟨k.os.trans h.os,k.tape.trans h.tape,k.output.trans h.output,lT h.size k.size,fun i hi hm=>(k.block i hi hm).trans (h.block i hi hm)⟩
theorem Bw.mono {M:Nat->Prop} {B B':Nat} {w w':World} (h:Bw M B w w') (hB:B'<=B):Bw M B' w w':=⟨h.os,h.tape,h.output,h.size,fun k hk hm=>h.block k (lL hk hB) hm⟩
theorem Bw.drew {M:Nat->Prop} {B:Nat} {a w:World} (h:Bw M B a w):Bw M B a w.drew:=⟨h.os,h.tape,h.output,h.size,h.block⟩
theorem Bw.wide {M M':Nat->Prop} {B:Nat} {w w':World} (h:Bw M B w w') (hM: ∀k,k<B->M k->M' k):Bw M' B w w':=⟨h.os,h.tape,h.output,h.size,fun k hk hm=>h.block k hk (fun e=>hm (hM k hk e))⟩
theorem Bw.cell {M:Nat->Prop} {B:Nat} {w w':World} (h:Bw M B w w') {p:Addr} (hp:p.block<B) (hm: ¬M p.block):w'.cell? p=w.cell? p:=cB (w:=w) (h.block p.block hp hm)
theorem Bw.frozen {M:Nat->Prop} {B:Nat} {w w':World} (h:Bw M B w w') {p:Addr} (hp:p.block<B) (hm: ¬M p.block):w'.frozen? p=w.frozen? p:=World.frozen?_of_block (w:=w) (h.block p.block hp hm)
theorem Bw.grown {M:Nat->Prop} {B:Nat} {a w w':World} {row:Option Nat} (h:Bw M B a w) (hg:w.grownBy w' row) (hB:B<=w.heap.size) (hr: ∀k,row=some k->B<=k\/M k):Bw M B a w':=
 ⟨hg.os.trans h.os,hg.tape.trans h.tape,hg.output.trans h.output,lT h.size hg.size,fun k hk hm=>(hg.block k (by omega) (fun e=>by rcases hr k e.symm with h|h;(·omega);(·exact hm h))).trans (h.block k hk hm)⟩
def NM (M:Nat->Prop):Tm->Prop
 | .nil=>True
 | .mk _ _ a len _ f=>(0<len->∃b o,a=some ⟨b,o,none⟩/\¬M b)/\∀i,i<len->NM M (f i)
theorem NM.kid {M:Nat->Prop} {T:Tm} (h:NM M T) {i:Nat} (hi:i<T.len):NM M (T.f i):=by
 cases T with
 |nil=>exact absurd hi (nL i)
 |mk=>exact h.2 i hi
theorem NM.root {M:Nat->Prop} {T:Tm} (h:NM M T) (h0:0<T.len): ∃b o,T.a=some ⟨b,o,none⟩/\¬M b:=by
 cases T with
 |nil=>exact absurd h0 (Nat.lt_irrefl 0)
 |mk=>exact h.1 h0
theorem NM.nb {M:Nat->Prop} {T:Tm} (h:NM M T) {k:Nat} (hk:M k):NB k T:=by
 induction T with
 |nil=>trivial
 |mk v nm a len cap f ih=>exact ⟨fun h0=>let ⟨b,o,e,hb⟩:=h.1 h0;⟨b,o,e,fun e=>hb (e▸hk)⟩,fun i hi=>ih i (h.2 i hi)⟩
theorem NM.anti {M M':Nat->Prop} {w:World} {T:Tm} (h:NM M T) (hT:ay w T) (hM: ∀k,k<w.heap.size->M' k->M k):NM M' T:=by
 induction T with
 |nil=>trivial
 |mk v nm a len cap f ih=>
  refine ⟨fun h0=>?_,fun i hi=>ih i (h.2 i hi) (hT.2.2 i hi).2⟩
  obtain ⟨b,o,e,hb⟩:=h.1 h0;refine ⟨b,o,e,fun e'=>hb (hM b ?_ e')⟩
  obtain ⟨b',o',e1,c0,_⟩:=(hT.2.2 0 h0).1;rw[e]at e1;cases e1;exact ag c0
theorem NM.old {M:Nat->Prop} {w:World} {T:Tm} (hT:ay w T) (hM: ∀k,M k->w.heap.size<=k):NM M T:=by
 induction T with
 |nil=>trivial
 |mk v nm a len cap f ih=>
  refine ⟨fun h0=>?_,fun i hi=>ih i (hT.2.2 i hi).2⟩
  obtain ⟨b',o',e1,c0,_⟩:=(hT.2.2 0 h0).1;exact ⟨b',o',e1,fun h=>by have h1:b'<w.heap.size:=ag c0;have:=hM b' h;omega⟩
theorem bl.nm {M:Nat->Prop} {lo:Nat} {T:Tm} (h:bl lo T) (hM: ∀k,M k->k<lo):NM M T:=by
 induction T with
 |nil=>trivial
 |mk v nm a len cap f ih=>exact ⟨fun h0=>let ⟨b,o,e,hb⟩:=h.1 h0;⟨b,o,e,fun e'=>by have:=hM b e';omega⟩,fun i hi=>ih i (h.2 i hi)⟩
theorem ay.bw {M:Nat->Prop} {B:Nat} {w w':World} {T:Tm} (h:ay w T) (hb:Bw M B w w') (hB:w.heap.size<=B) (hm:NM M T):ay w' T:=by
 induction T with
 |nil=>exact h
 |mk v nm a len cap f ih=>
  refine ⟨h.1,h.2.1,fun i hi=>⟨?_,ih i (h.2.2 i hi).2 (hm.2 i hi)⟩⟩
  obtain ⟨b,o,e,c0,c1,c2⟩:=(h.2.2 i hi).1;obtain ⟨b',o',e',hb'⟩:=hm.1 (by omega)
  rw[e]at e';cases e';have hl:b<w.heap.size:=ag c0;have hx:w'.heap[b]?=w.heap[b]?:=hb.block b (by omega) hb'
  exact ⟨b,o,e,(cB hx).trans c0,(cB hx).trans c1,(cB hx).trans c2⟩
theorem tm {M:Nat->Prop} {w W:World} {r:Nat} {x y z:Value} (hr:w.heap.size<=r) (hX:W.heap[r]?=some (.cells #[x,y,z] 67)) (hB:Bw M w.heap.size w W) (a c d:Value):
 ∃W',((W.setCell ⟨r,0,none⟩ a).setCell ⟨r,1,none⟩ c).setCell ⟨r,2,none⟩ d=W'/\W'.cell? ⟨r,0,none⟩=some a/\W'.cell? ⟨r,1,none⟩=some c/\W'.cell? ⟨r,2,none⟩=some d/\Bw M w.heap.size w W'/\W.grownBy W' (some r):=by
 have h3:W.grownBy (((W.setCell (dZ r 0) a).setCell (dZ r 1) c).setCell (dZ r 2) d) (some r):=G.trans (G.trans (af r 0 a) (af r 1 c)) (af r 2 d);have hc:=wl (a:=a) (b:=c) (c:=d) hX;exact ⟨_,rfl,by simp[World.cell?,hc],by simp[World.cell?,hc],by simp[World.cell?,hc],hB.grown h3 hB.size (fun k hk=>by have:=oj hk;exact .inl (by omega)),h3⟩
theorem Ff.refl (T:Tm):Ff T T:=by
 induction T with
 |nil=>exact ⟨rfl,rfl,rfl⟩
 |mk v nm a len cap f ih=>exact ⟨rfl,rfl,rfl,fun i _=>ih i⟩
structure sd where
 S:Type
 I:S->World->Prop
 nx:S->Int->S
 le:S->S->Prop
 O:S->Int->Tm
 M:Nat->Prop
 B:Nat
structure qq (t:sd):Prop where
 refl: ∀s,t.le s s
 trans: ∀s s' s'',t.le s s'->t.le s' s''->t.le s s''
 nx: ∀s v,t.le s (t.nx s v)
 keep: ∀s w w',t.I s w->Below t.B w w'->t.I s w'
 lt: ∀k,t.M k->k<t.B
def tl (t:sd) (s:t.S) (l:List Int):t.S:=l.foldl t.nx s
theorem R8 {t:sd} (h:qq t) (l:List Int): ∀s,t.le s (tl t s l):=by
 induction l with
 |nil=>intro s;exact h.refl s
 |cons v l ih=>intro s;exact h.trans _ _ _ (h.nx s v) (ih _)
theorem qw (t:sd) (s:t.S) (l m:List Int):tl t s (l++m)=tl t (tl t s l) m:=by unfold tl;rw[List.foldl_append]
def XP (t:sd) (w:World) (s':t.S) (Q:t.S->Tm) (e:Ending) (w':World):Prop:=∃X:Tm,e=.returned X.val/\Bw t.M w.heap.size w w'/\t.I s' w'/\ay w' X/\bl w.heap.size X/\∀s'',t.le s' s''->a9 X=Q s''
def TC (t:sd) (g:Nat) (caps:Array Value) (v:Int):Prop:=∀(s:t.S) (w:World),t.B<=w.heap.size->t.I s w->Calls prog g (#[iV v]++caps) w (XP t w (t.nx s v) (fun s'=>t.O s' v))
def EG (t:sd) (g:Nat) (caps:Array Value) (T:Tm):Prop:=∀(s:t.S) (w:World),t.B<=w.heap.size->t.I s w->ay w T->NM t.M T->Calls prog 151 #[T.val,.func (.func g) #[] caps] w (XP t w (tl t s (cz T)) (fun s'=>ap (t.O s') T))
def Rr (g:Nat):Prop:=∀(args:Array Value) (w:World),(callFunc g args).run prog w=.ok (.enter g args) w
theorem Kl {g:Nat} {fn:Func} {c:Code} (hf:prog.funcs[g]?=some fn) (hname:(fn.name== "runtime.NumGoroutine" )=false) (hb:fn.body=some c):Rr g:=fun args w=>by
 have h1:fn.name≠ "runtime.NumGoroutine" :=by simpa using hname
 simp[callFunc,hf,h1,hb]
theorem I2 {t:sd} (ht:qq t) {g:Nat} (hE:Rr g) {caps:Array Value} {T:Tm} (hv:T.v≠0) (hC:TC t g caps T.v):EG t g caps T:=by
 intro s w hB hI hT hM;have HO:=hid ht;have HC:Hid (∀W,Below w.heap.size w W->Calls prog g (#[iV T.v]++caps) W (XP t W (t.nx s T.v) (fun s'=>t.O s' T.v))):=fun W hW=>hC s W (lT hB hW.size) (ht.keep _ _ _ hI (hW.mono hB))
 have HV:Hid (tl t s (cz T)=t.nx s T.v):=by
  cases T with
  |nil=>exact absurd rfl hv
  |mk v nm a len cap f=>
   have hv: ¬v=0:=hv;rw[Hid,cz,if_neg hv];rfl
 have HAp:Hid (∀s',ap (t.O s') T=t.O s' T.v):=fun s'=>jf _ hv
 have hvb:=bne_iff_ne.2 hv;clear hv hC hI hT hM
 show Calls prog 151 #[.agg #[iV T.v,.string T.nm,.slice T.a T.len T.cap],.func (.func g) #[] caps] w _
 go_enter Tryz.func151,Tryz.ntmps151
 go_wp2_with fail;rw[hE]
 show Calls prog g _ _ _
 refine (HC.o _ (bA.alloc (by simp) _)).mono ?_
 rintro e w1 ⟨X,rfl,hb1,hI1,hX1,hA1,hS1⟩;have HBA:Hid (Below w.heap.size w ((w.alloc (.cells #[iV T.v,.string T.nm,.slice T.a T.len T.cap] 67)).alloc (.cells #[iV 0,.string ⟨#[]⟩,nZ] 67))):=bA.alloc (by simp) _
 have hsz:w.heap.size+1<((w.alloc (.cells #[iV T.v,.string T.nm,.slice T.a T.len T.cap] 67)).alloc (.cells #[iV 0,.string ⟨#[]⟩,nZ] 67)).heap.size:=by simp
 have HX3:Hid (w1.heap[w.heap.size+1]?=some (.cells #[iV 0,.string ⟨#[]⟩,nZ] 67)):=by
  refine (hb1.block _ hsz (fun e=>by have:=HO.o.lt _ e;omega)).trans ?_
  have:=hZ (w.alloc (.cells #[iV T.v,.string T.nm,.slice T.a T.len T.cap] 67)) (.cells #[iV 0,.string ⟨#[]⟩,nZ] 67)
  rwa [show (w.alloc (.cells #[iV T.v,.string T.nm,.slice T.a T.len T.cap] 67)).heap.size=w.heap.size+1 from by simp]at this
 have HB1:=hid ((Bw.ofBelow HBA.o).trans (hb1.mono HBA.o.size));have HXX:Hid (ay w1 X/\NB (w.heap.size+1) X/\bl w.heap.size X/\t.I (t.nx s T.v) w1/\∀s'',t.le (t.nx s T.v) s''->a9 X=t.O s'' T.v):=⟨hX1,hA1.nb hsz,hA1.mono HBA.o.size,hI1,hS1⟩;clear hb1 hX1 hA1 hS1 hI1;obtain ⟨x0,x1,x2,f0,f1,f2⟩:=ae HX3.o;rw[show X.val=.agg #[iV X.v,.string X.nm,.slice X.a X.len X.cap]from rfl]
 go_wp2_with fail;obtain ⟨W',hW',z0,z1,z2,hB',hgr⟩:=tm (r:=w.heap.size+1) (by omega) HX3.o HB1.o (iV X.v) (.string X.nm) (.slice X.a X.len X.cap)
 rw[hW'];have hT':ay W' X:=HXX.o.1.grown hgr (fun k hk=>by obtain rfl:=oj hk;exact HXX.o.2.1)
 have hBB:Below t.B w1 W':=bR.grown hgr (by have:=HB1.o.size;omega) (fun k hk=>by have:=oj hk;omega)
 refine bodyPost_ret (v:=X.val) ?_ rfl ⟨X,rfl,hB',by rw[HV.o];exact HO.o.keep _ _ _ HXX.o.2.2.2.1 hBB,hT',HXX.o.2.2.1,fun s'' h=>by show a9 X=ap (t.O s'') T;rw[HAp.o];exact HXX.o.2.2.2.2 s'' (by rw[<-HV.o];exact h)⟩
 simp[results,Tryz.results151,go_sem,z0,z1,z2,Tm.val]
theorem Pd (c:Cl) (w:World):Calls prog 157 #[.agg #[iV c.k,iV c.n,.string c.nm]] w fun e w'=>e=.returned (.bool (c.k !=1))/\Below w.heap.size w w':=by
 go_enter Tryz.func157,Tryz.ntmps157
 go_wp2_with fail;go_ret;exact ⟨rfl,bA⟩
theorem Tryz.info81q:(prog.info? 81).map (fun i=>(i.zero,i.size,i.bytes))=some (some (.agg #[iV 0,iV 0,.string ⟨#[]⟩]),3,32):=by kernel_rfl
theorem Fs (a:Option Addr) (ln cp k:Nat) (h:k<=ln) (hc:ln<=cp) (W:World):(Instr.slice 25 (.slice a ln cp) none (some (iV k)) none).run prog W=.ok (.slice a k cp) W:=by
 obtain ⟨i0,hi,hz0,hz1,hz2⟩:=info_parts Tryz.info81q;have h':(k:Int)<=(cp:Int):=by omega
 cases a with
 |none=>simp[Instr.slice,run_underlying Tryz.underlying25,Instr.sliceBounds,run_sliceBound,sizeOf,typeInfo,hi,h',Addr.add]
 |some ad=>simp[Instr.slice,run_underlying Tryz.underlying25,Instr.sliceBounds,run_sliceBound,sizeOf,typeInfo,hi,h',Addr.add]
theorem Mk {a:Option Addr} {m cap:Nat} {h:Nat->Cl} (w:World) (hh: ∀i,i<m->wv w a i (h i)) (hm:m<=2 ^ 63-1):
 Calls prog 170 #[.slice a m cap,.func (.func 157) #[] #[]] w fun e w'=>∃r:Int,e=.returned (iV r)/\Below w.heap.size w w'/\((r= -1/\∀j,j<m->(h j).k=1)\/(0<=r/\∃j,j<m/\(h j).k≠1)):=by
 have HH:Hid (∀W,Below w.heap.size w W->∀i,i<m->wv W a i (h i)):=fun W hW i hi=>(hh i hi).below hW
 clear hh
 go_enter Tryz.func170,Tryz.ntmps170
 go_wp2_with fail
 go_loopw [8] (fun x wr=>∃i:Nat,i<=m/\x=iV i/\(∀j,j<i->(h j).k=1)/\Below w.heap.size w wr) (fun x _=>m-(intOf x).toNat)
 case atStart=>exact ⟨0,oZ,rfl,fun j hj=>absurd hj (nL j),bR⟩
 case round=>
  obtain ⟨i,hi,rfl,hk,hb⟩:=hrel;have HK:=hid hk;have HB:=hid hb;clear hk hb
  by_cases hil:i<m
  case neg=>
   have hiI: ¬((i:Int)<(m:Int)):=by omega
   obtain rfl:i=m:=by omega
   go_wp2_with fail;go_ret;exact ⟨-1,rfl,HB.o,.inl ⟨rfl,HK.o⟩⟩
  have hiI:(i:Int)<(m:Int):=by omega
  obtain ⟨b,o,rfl,c0,c1,c2⟩:=HH.o wr HB.o i hil;have HF:=hid (Pd (h i) wr);go_wp2_with fail;refine HF.o.mono ?_;rintro e w1 ⟨rfl,hb1⟩;have HB1:=hid (HB.o.trans (hb1.mono HB.o.size));clear hb1 HF c0 c1 c2
  by_cases hk1:(h i).k=1
  .have hkb:((h i).k !=1)=false:=by rw[hk1];rfl
   have HK1:Hid (∀j,j<i+1->(h j).k=1):=fun j hj=>by
    by_cases e:j<i
    .exact HK.o j e
    .obtain rfl:j=i:=by omega
     exact hk1
   rw[hkb];clear hk1 hkb;go_wp2_with fail;go_roundw
   case rel=>exact ⟨i+1,by omega,by go_num,HK1.o,HB1.o⟩
   case measure=>simp[intOf];omega
  .have hkb:=bne_iff_ne.2 hk1
   have HN:Hid ((h i).k≠1):=hk1;rw[hkb];clear hk1 hkb;go_wp2_with fail;go_ret;exact ⟨i,rfl,HB1.o,.inr ⟨by omega,i,hil,HN.o⟩⟩
theorem I6 {a:Option Addr} {m cap:Nat} {h:Nat->Cl} (w:World) (hh: ∀i,i<m->wv w a i (h i)) (hm:m<=2 ^ 63-1):
 Calls prog 156 #[.slice a m cap,.func (.func 157) #[] #[]] w fun e w'=>e=.returned (.bool (!cq (fun j=>(h j).k==1) m))/\Below w.heap.size w w':=by
 have HI:Hid (Calls prog 170 #[.slice a m cap,.func (.func 157) #[] #[]] w fun e w'=>∃r:Int,e=.returned (iV r)/\Below w.heap.size w w'/\((r= -1/\∀j,j<m->(h j).k=1)\/(0<=r/\∃j,j<m/\(h j).k≠1))):=Mk w hh hm
 clear hh hm
 go_enter Tryz.func156,Tryz.ntmps156
 go_wp2_with fail;refine HI.o.mono ?_;rintro e w1 ⟨r,rfl,hb,hr⟩;have HB:Hid (Below w.heap.size w w1):=hb
 have HR:Hid (decide (r>=0)=!cq (fun j=>(h j).k==1) m):=by
  rw[Hid]
  rcases hr with ⟨rfl,h1⟩| ⟨h0,j,hj,h1⟩
  .rw[dm.2 (fun j hj=>beq_iff_eq.2 (h1 j hj))];rfl
  .have e1:cq (fun j=>(h j).k==1) m=false:=by
    cases e:cq (fun j=>(h j).k==1) m with
    |false=>rfl
    |true=>exact absurd (beq_iff_eq.1 (dm.1 e j hj)) h1
   rw[e1,decide_eq_true (show r>=0 from h0)];rfl
 clear hb hr HI;go_wp2_with fail;go_ret;exact ⟨by rw[<-HR.o];rfl,HB.o⟩
def Nu (len:Nat) (n:Int) (nm:ByteArray) (h:Nat->Cl):Int:=if ft n nm=true then (if n>(len:Int)then 5 else if cq (fun j=>(h j).k==1) n.toNat=true then 0 else 1)else 1
theorem Pa {a:Option Addr} {len cap:Nat} {h:Nat->Cl} (k n:Int) (nm:ByteArray) (w:World) (hh:HIn w a len h) (hcap:len<=cap) (hs:nm.size<=maxLen):
 Calls prog 132 #[.agg #[iV k,iV n,.string nm],.slice a len cap] w fun e w'=>e=.returned (iV (Nu len n nm h))/\Below w.heap.size w w':=by
 have HNa:Hid (∀W,Calls prog 155 #[.agg #[iV k,iV n,.string nm]] W fun e w'=>e=.returned (.bool (ft n nm))/\Below W.heap.size W w'):=fun W=>Id k n nm W hs
 have HH:Hid (∀W,Below w.heap.size w W->HIn W a len h):=fun W hW=>hh.below hW
 have hlb:len<=2 ^ 63-1:=hh.big;have HBa:Hid (Below w.heap.size w (w.alloc (.cells #[iV k,iV n,.string nm] 81))):=bA;have HX:Hid ((w.alloc (.cells #[iV k,iV n,.string nm] 81)).heap[w.heap.size]?=some (.cells #[iV k,iV n,.string nm] 81)):=hZ _ _;clear hh hs
 go_enter Tryz.func132,Tryz.ntmps132
 go_wp2_with fail;generalize w.alloc (.cells #[iV k,iV n,.string nm] 81)=wa at*;refine (HNa.o _).mono ?_;rintro e w1 ⟨rfl,hb1⟩;have hX1:w1.heap[w.heap.size]?=some (.cells #[iV k,iV n,.string nm] 81):=(hb1.block _ (aZ HX.o)).trans HX.o;have HB1:Hid (Below w.heap.size w w1):=HBa.o.trans (hb1.mono HBa.o.size);obtain ⟨x0,x1,x2,_,_,_⟩:=ae hX1;clear hb1 hX1
 cases hn:ft n nm with
 |false=>
  have HR:Hid (Nu len n nm h=1):=by rw[Hid];unfold Nu;rw[if_neg (by rw[hn];simp)]
  clear hn;go_wp2_with fail;go_ret;exact ⟨by rw[HR.o];rfl,HB1.o⟩
 |true=>
  have HN:Hid (ft n nm=true):=hn
  have h0:0<=n:=by
   unfold ft at hn;simp at hn;exact hn.1
  clear hn
  by_cases hg:n>(len:Int)
  case pos=>
   have hgb:decide (n>(len:Int))=true:=decide_eq_true hg;have HR:Hid (Nu len n nm h=5):=by rw[Hid];unfold Nu;rw[if_pos HN.o,if_pos hg]
   clear hg;go_wp2_with fail;go_ret;exact ⟨by rw[HR.o];rfl,HB1.o⟩
  have hgb:decide (n>(len:Int))=false:=decide_eq_false hg;obtain ⟨m,rfl⟩: ∃m:Nat,n=m:=⟨n.toNat,by omega⟩
  have hto:=Fs a len cap m (by omega) hcap
  have HCo:Hid (∀W,Below w.heap.size w W->Calls prog 156 #[.slice a m cap,.func (.func 157) #[] #[]] W fun e w'=>e=.returned (.bool (!cq (fun j=>(h j).k==1) m))/\Below W.heap.size W w'):=fun W hW=>I6 W (fun i hi=>(HH.o W hW).row i (by omega)) (by omega)
  have HR:Hid (Nu len m nm h=if cq (fun j=>(h j).k==1) m=true then 0 else 1):=by
   rw[Hid];unfold Nu;rw[if_pos HN.o,if_neg hg];rfl
  go_wp2_with fail;refine (HCo.o _ HB1.o).mono ?_;rintro e w2 ⟨rfl,hb2⟩;have HB2:=hid (HB1.o.trans (hb2.mono HB1.o.size));clear hb2 HCo hg hgb x0 x1 x2
  cases hall:cq (fun j=>(h j).k==1) m with
  |true=>
   have HA:=hid hall;rw[show (!true)=false from rfl]
   clear hall;go_wp2_with fail;go_ret;exact ⟨by rw[HR.o,if_pos HA.o];rfl,HB2.o⟩
  |false=>
   have HA:=hid hall;rw[show (!false)=true from rfl]
   clear hall;go_wp2_with fail;go_ret;exact ⟨by rw[HR.o,if_neg (by rw[HA.o];simp)];rfl,HB2.o⟩
theorem Ip (a:Option Addr) (ln cp k:Nat) (h:k<=ln) (hc:ln<=cp) (W:World):(Instr.slice 25 (.slice a ln cp) (some (iV k)) none none).run prog W=.ok (.slice (if cp=k then a else a.map fun x=>x.add (k*3)) (ln-k) (cp-k)) W:=by
 obtain ⟨i0,hi,hz0,hz1,hz2⟩:=info_parts Tryz.info81q;have h':(k:Int)<=(ln:Int):=by omega
 have h2:(ln:Int)<=(cp:Int):=by omega
 cases a with
 |none=>simp[Instr.slice,run_underlying Tryz.underlying25,Instr.sliceBounds,run_sliceBound,sizeOf,typeInfo,hi,hz1,h',h2,hc,Addr.add]
 |some ad=>simp[Instr.slice,run_underlying Tryz.underlying25,Instr.sliceBounds,run_sliceBound,sizeOf,typeInfo,hi,hz1,h',h2,hc,Addr.add]
theorem HIn.tail {w:World} {a:Option Addr} {len cap k:Nat} {h:Nat->Cl} (hh:HIn w a len h) (hc:len<=cap) (hk:k<=len):HIn w (if cap=k then a else a.map fun x=>x.add (k*3)) (len-k) (fun j=>h (k+j)):=by
 refine ⟨fun i hi=>?_,by have:=hh.big;omega,fun i hi=>hh.nm (k+i) (by omega)⟩
 obtain ⟨b,o,e,c0,c1,c2⟩:=hh.row (k+i) (by omega)
 rw[if_neg (by omega),e]
 refine ⟨b,o+k*3,by simp[Addr.add],?_,?_,?_⟩
 .rw[show o+k*3+i*3=o+(k+i)*3 from by omega];exact c0
 .rw[show o+k*3+i*3+1=o+(k+i)*3+1 from by omega];exact c1
 .rw[show o+k*3+i*3+2=o+(k+i)*3+2 from by omega];exact c2
theorem Ho {h:Nat->Cl} {len i:Nat} (hk:(h i).k=1):ze len (h i).n (h i).nm=fx h len i:=by
 unfold ze fx;rw[if_pos hk]
 by_cases hb:fb len (h i).n=true
 .have e: ¬nz (h i).n 0 ((len:Int)-1)=true:=fun e=>by
   unfold fb at hb;unfold nz at e;simp at hb e;omega
  rw[if_pos hb,if_neg e]
 .have e:nz (h i).n 0 ((len:Int)-1)=true:=by
   unfold fb at hb;unfold nz;simp at hb |-;omega
  rw[if_neg hb,if_pos e]
theorem Mq {h:Nat->Cl} {len i:Nat} (hi:i<len) (hk:(h i).k=2):Nu (len-(i+1)) (h i).n (h i).nm (fun j=>h (i+1+j))=fx h len i:=by
 unfold Nu fx J1;rw[if_neg (show¬(h i).k=1 from by omega),if_pos hk]
 have e1:ft (h i).n (h i).nm=true↔(fw (h i).nm=true/\nz (h i).n 0 4=true/\¬((h i).nm.toList= [33]/\0<(h i).n)):=by
  unfold ft nz
  by_cases e:(h i).nm.toList= [33]
  .simp[e]
   constructor
   .rintro ⟨h1,h2,h3⟩;exact ⟨h3,⟨h1,by omega⟩,h2⟩
   .rintro ⟨h1,h2,h3⟩;exact ⟨h2.1,h3,h1⟩
  .have e':((h i).nm.toList== [33])=false:=bF e
   simp[e',e]
   constructor
   .rintro ⟨h1,h2,h3⟩;exact ⟨h3,h1,h2⟩
   .rintro ⟨h1,h2,h3⟩;exact ⟨h2,h3,h1⟩
 by_cases hn:ft (h i).n (h i).nm=true
 .rw[if_pos hn,if_pos (e1.1 hn)]
  have hcast:((len-(i+1):Nat):Int)=(len:Int)-1-i:=by omega
  by_cases hg:(h i).n>((len-(i+1):Nat):Int)
  .have e2:(len:Int)-1<(i:Int)+(h i).n:=by omega
   rw[if_pos hg,if_pos e2]
  .have e2: ¬(len:Int)-1<(i:Int)+(h i).n:=by omega
   rw[if_neg hg,if_neg e2]
 .rw[if_neg hn,if_neg (fun e=>hn (e1.2 e))]
theorem Ng {a:Option Addr} {len cap:Nat} {h:Nat->Cl} (i:Nat) (w:World) (hh:HIn w a len h) (hc:len<=cap) (hi:i<len):
 Calls prog 100 #[.slice a len cap,iV i] w fun e w'=>e=.returned (iV (fx h len i))/\Below w.heap.size w w':=by
 have HH:Hid (∀W,Below w.heap.size w W->HIn W a len h):=fun W hW=>hh.below hW
 have hlb:len<=2 ^ 63-1:=hh.big;have hnm:(h i).nm.size<=maxLen:=hh.nm i hi;have hiI:(i:Int)<(len:Int):=by omega
 obtain ⟨b,o,rfl,c0,c1,c2⟩:=hh.row i hi;have HBa:Hid (Below w.heap.size w (w.alloc (.cells #[iV (h i).k,iV (h i).n,.string (h i).nm] 81))):=bA;have HX:Hid ((w.alloc (.cells #[iV (h i).k,iV (h i).n,.string (h i).nm] 81)).heap[w.heap.size]?=some (.cells #[iV (h i).k,iV (h i).n,.string (h i).nm] 81)):=hZ _ _;clear hh
 by_cases hk1:(h i).k=1
 .have hkb:((h i).k==1)=true:=beq_iff_eq.2 hk1
  have HR:Hid (∀wa,Calls prog 131 #[.slice (some (dZ b o)) len cap,.agg #[iV (h i).k,iV (h i).n,.string (h i).nm]] wa fun e w'=>e=.returned (iV (fx h len i))/\Below wa.heap.size wa w'):=fun wa=>by
   rw[<-Ho hk1];exact Oj _ len cap (h i).k (h i).n (h i).nm wa
  clear hk1
  go_enter Tryz.func100,Tryz.ntmps100
  go_wp2_with fail;refine (HR.o _).mono ?_;rintro e w1 ⟨rfl,hb1⟩;have HB1:Hid (Below w.heap.size w w1):=HBa.o.trans (hb1.mono HBa.o.size);clear hb1;go_wp2_with fail;go_ret;exact ⟨rfl,HB1.o⟩
 have hkb:((h i).k==1)=false:=bF hk1
 by_cases hk2:(h i).k=2
 case neg=>
  have hkb2:((h i).k==2)=false:=bF hk2;have HR:Hid (fx h len i=1):=by rw[Hid];unfold fx;rw[if_neg hk1,if_neg hk2]
  clear hk1 hk2
  go_enter Tryz.func100,Tryz.ntmps100
  go_wp2_with fail;go_ret;exact ⟨by rw[HR.o];rfl,HBa.o⟩
 have hkb2:((h i).k==2)=true:=beq_iff_eq.2 hk2;have hw1:IntKind.i64.wrap ((i:Int)+1)=(i:Int)+1:=by simp[IntKind.wrap,IntKind.bits,IntKind.signed];omega
 have hfrom:=Ip (some (dZ b o)) len cap (i+1) (by omega) hc
 rw[show ((i+1:Nat):Int)=(i:Int)+1 from by omega]at hfrom
 have HT:Hid (∀W,Below w.heap.size w W->HIn W (if cap=i+1 then some (dZ b o)else (some (dZ b o)).map fun x=>x.add ((i+1)*3)) (len-(i+1)) (fun j=>h (i+1+j))):=fun W hW=>(HH.o W hW).tail hc (by omega)
 generalize (if cap=i+1 then some (dZ b o)else (some (dZ b o)).map fun x=>x.add ((i+1)*3))=ta at*
 have HK2:=hid hk2;have HNm:=hid hnm;clear hk1 hk2 hnm
 go_enter Tryz.func100,Tryz.ntmps100
 go_wp2_with fail;generalize w.alloc (.cells #[iV (h i).k,iV (h i).n,.string (h i).nm] 81)=wa at*;obtain ⟨x0,x1,x2,_,_,_⟩:=ae HX.o;clear c0 c1 c2
 have HF:Hid (∀W,Below wa.heap.size wa W->Calls prog 132 #[.agg #[iV (h i).k,iV (h i).n,.string (h i).nm],.slice ta (len-(i+1)) (cap-(i+1))] W fun e w'=>e=.returned (iV (fx h len i))/\Below W.heap.size W w'):=fun W hW=>by
  rw[<-Mq hi HK2.o];exact Pa (h i).k (h i).n (h i).nm W (HT.o W (HBa.o.trans (hW.mono HBa.o.size))) (by omega) HNm.o
 have HKp:Hid (∀W,Below wa.heap.size wa W->W.cell? (dZ w.heap.size 0)=some (iV (h i).k)/\W.cell? (dZ w.heap.size 1)=some (iV (h i).n)/\W.cell? (dZ w.heap.size 2)=some (.string (h i).nm)):=fun W hW=>⟨(hW.cell (ag x0)).trans x0,(hW.cell (ag x1)).trans x1,(hW.cell (ag x2)).trans x2⟩
 go_region_held3 (fun W=>W.cell? (dZ w.heap.size 0)=some (iV (h i).k)/\W.cell? (dZ w.heap.size 1)=some (iV (h i).n)/\W.cell? (dZ w.heap.size 2)=some (.string (h i).nm)) ((refine HKp.o _ ?_;repeat (first|exact HB4.o|exact bR|refine Below.drew ?_))) (first
  | (go_at_call 132
     refine (HF.o _ (by repeat (first|exact bR|refine Below.drew ?_))).mono ?_
     rintro e w4 ⟨rfl,hb4⟩;have HB4:Hid (Below wa.heap.size wa w4):=Below.trans (by repeat (first|exact bR|refine Below.drew ?_)) (hb4.mono lZ)
     clear hb4))
 all_goals
  go_wp2_with fail;go_ret;exact ⟨rfl,HBa.o.trans (HB4.o.mono HBa.o.size)⟩
structure HG (h:Nat->Cl) (len:Nat):Prop where
 ok:HOk h len
 acy:Dl len (leads h)
 kind: ∀i,i<len->(h i).k=1\/(h i).k=2
 kids: ∀i,i<len->(h i).k=2->∀j:Nat,(j:Int)<(h i).n->i+1+j<len/\(h (i+1+j)).k=1
 nmr: ∀i,i<len->(h i).k=1->(h i).nm.toList= []
 nmf: ∀i,i<len->(h i).k=2->fw (h i).nm=true/\¬((h i).nm.toList= [33]/\0<(h i).n)
theorem HG.of {h:Nat->Cl} {len:Nat} (hl:len<=400000) (h0:ez h len len=0) (ha:Dl len (leads h)):HG h len:=by
 have hc:=fun i (hi:i<len)=>m6 len h0 i hi
 refine ⟨Ch hl h0,ha,fun i hi=>?_,fun i hi hk j hj=>?_,fun i hi hk=>?_,fun i hi hk=>?_⟩
 .have:=hc i hi
  unfold fx at this
  by_cases e:(h i).k=1
  .exact .inl e
  .by_cases e2:(h i).k=2
   .exact .inr e2
   .rw[if_neg e,if_neg e2]at this;cases this
 .have:=hc i hi
  unfold fx at this;rw[if_neg (show¬(h i).k=1 from by omega),if_pos hk]at this
  by_cases c:fw (h i).nm=true/\nz (h i).n 0 4=true/\¬((h i).nm.toList= [33]/\0<(h i).n)
  .rw[if_pos c]at this
   by_cases d:(len:Int)-1<(i:Int)+(h i).n
   .rw[if_pos d]at this;cases this
   .rw[if_neg d]at this
    by_cases e:J1 h i (h i).n.toNat=true
    .have:=dm.1 e j (by omega)
     exact ⟨by omega,by simpa using this⟩
    .rw[if_neg e]at this;cases this
  .rw[if_neg c]at this;cases this
 .have:=hc i hi
  unfold fx at this;rw[if_pos hk]at this
  by_cases c:nz (h i).n 0 ((len:Int)-1)=true
  .rw[if_pos c]at this
   by_cases d:(h i).nm.toList= []
   .exact d
   .rw[if_neg d]at this;cases this
  .rw[if_neg c]at this;cases this
 .have:=hc i hi
  unfold fx at this;rw[if_neg (show¬(h i).k=1 from by omega),if_pos hk]at this
  by_cases c:fw (h i).nm=true/\nz (h i).n 0 4=true/\¬((h i).nm.toList= [33]/\0<(h i).n)
  .exact ⟨c.1,c.2.2⟩
  .rw[if_neg c]at this;cases this
def Gu (h:Nat->Cl) (i j:Nat):Prop:=(h i).k=1/\(h i).n=(j:Int)/\j≠i
theorem Gu.leads {h:Nat->Cl} {i j:Nat} (r:Gu h i j):leads h i= [j]:=by
 unfold Go.Proofs.YtmggaclaoefdaabGreat.leads;rw[if_pos r.1,if_neg (by rw[r.2.1];have:=r.2.2;omega),r.2.1]
 rfl
theorem HG.ref {h:Nat->Cl} {len i:Nat} (H:HG h len) (hi:i<len) (hk:(h i).k=1) (hn:(h i).n≠i): ∃j,Gu h i j/\j<len:=by
 have h0:=H.ok.n0 i hi;have r:Gu h i (h i).n.toNat:=⟨hk,by omega,by omega⟩
 exact ⟨_,r,H.ok.inn i hi _ (by rw[r.leads];simp)⟩
theorem jd.root' {h:Nat->Cl} {len i z:Nat} (H:jd h len i z): ¬((h z).k=1/\(h z).n≠z):=by
 induction H with
 |root _ h=>exact h
 |step _ _ _ _ _ ih=>exact ih
theorem jd.uniq {h:Nat->Cl} {len i z z':Nat} (H:jd h len i z) (H':jd h len i z'):z=z':=by
 induction H with
 |root hi hr=>
  cases H' with
  |root _ _=>rfl
  |step _ hk hn hj _=>exact absurd ⟨hk,by rw[hn];omega⟩ hr
 |step hi hk hn hj _ ih=>
  cases H' with
  |root _ hr=>exact absurd ⟨hk,by rw[hn];omega⟩ hr
  |step _ hk' hn' hj' hz'=>
   rw[hn]at hn';exact ih (by rw[Int.ofNat_inj.1 hn'];exact hz')
theorem jd.ex {h:Nat->Cl} {len:Nat} (H:HG h len): ∀i,i<len->∃z,jd h len i z:=by
 obtain ⟨r,hr⟩:=H.acy
 have: ∀m i,r i=m->i<len->∃z,jd h len i z:=by
  intro m
  induction m using Nat.strongRecOn with
  |_ m ih=>
   intro i hm hi
   by_cases c:(h i).k=1/\(h i).n≠i
   .obtain ⟨j,hj,hjl⟩:=H.ref hi c.1 c.2
    obtain ⟨z,hz⟩:=ih (r j) (by have:=hr i hi j (by rw[hj.leads];simp);omega) j rfl hjl
    exact ⟨z,.step hi hj.1 hj.2.1 hj.2.2 hz⟩
   .exact ⟨i,.root hi c⟩
 exact fun i hi=>this _ i rfl hi
open Classical in
noncomputable def aj (h:Nat->Cl) (len i:Nat):Nat:=if e: ∃z,jd h len i z then e.choose else i
theorem ix {h:Nat->Cl} {len i z:Nat} (H:jd h len i z):aj h len i=z:=by
 have e: ∃z,jd h len i z:=⟨z,H⟩;unfold aj;rw[dif_pos e];exact e.choose_spec.uniq H
theorem HG.endR {h:Nat->Cl} {len i:Nat} (H:HG h len) (hi:i<len):jd h len i (aj h len i):=by
 obtain ⟨z,hz⟩:=jd.ex H i hi;rw[ix hz];exact hz
theorem HG.end_lt {h:Nat->Cl} {len i:Nat} (H:HG h len) (hi:i<len):aj h len i<len:=(H.endR hi).lt.2
theorem HG.end_or {h:Nat->Cl} {len i:Nat} (H:HG h len) (hi:i<len):((h (aj h len i)).k=1/\(h (aj h len i)).n=aj h len i)\/(h (aj h len i)).k=2:=by
 have h1:=(H.endR hi).root'
 rcases H.kind _ (H.end_lt hi)with e|e
 .refine .inl ⟨e,?_⟩
  by_cases c:(h (aj h len i)).n=aj h len i
  .exact c
  .exact absurd ⟨e,c⟩ h1
 .exact .inr e
theorem HG.end_end {h:Nat->Cl} {len i:Nat} (H:HG h len) (hi:i<len):aj h len (aj h len i)=aj h len i:=
 ix (.root (H.end_lt hi) (H.endR hi).root')
theorem pu {h:Nat->Cl} {len i j:Nat} (H:HG h len) (hi:i<len) (r:Gu h i j):j<len/\aj h len i=aj h len j:=by
 have hj:j<len:=H.ok.inn i hi j (by rw[r.leads];simp)
 exact ⟨hj,ix (.step hi r.1 r.2.1 r.2.2 (H.endR hj))⟩
inductive Au (h:Nat->Cl):Nat->Nat->Prop
 |one {i j:Nat}:Gu h i j->Au h i j
 |more {i j z:Nat}:Gu h i j->Au h j z->Au h i z
theorem Au.same {h:Nat->Cl} {len i z:Nat} (H:HG h len) (p:Au h i z) (hi:i<len):z<len/\aj h len i=aj h len z:=by
 induction p with
 |one r=>exact pu H hi r
 |more r _ ih=>
  obtain ⟨hj,e⟩:=pu H hi r;obtain ⟨hz,e'⟩:=ih hj;exact ⟨hz,e.trans e'⟩
theorem Au.rank {h:Nat->Cl} {len i z:Nat} {r:Nat->Nat} (H:HG h len) (hr: ∀x,x<len->∀y∈leads h x,r y<r x) (p:Au h i z) (hi:i<len):r z<r i:=by
 induction p with
 |one q=>exact hr _ hi _ (by rw[q.leads];simp)
 |more q _ ih=>
  have h1:=hr _ hi _ (by rw[q.leads];exact List.mem_singleton.2 rfl)
  have h2:=ih (pu H hi q).1;omega
theorem HG.way {h:Nat->Cl} {len i:Nat} (H:HG h len) (hi:i<len):aj h len i=i\/Au h i (aj h len i):=by
 have h1:=H.endR hi
 revert h1
 generalize aj h len i=z;intro h1
 induction h1 with
 |root _ _=>exact .inl rfl
 |step hi' hk hn hj h2 ih=>
  rcases ih h2.lt.1 with e|e
  .subst e;exact .inr (.one ⟨hk,hn,hj⟩)
  .exact .inr (.more ⟨hk,hn,hj⟩ e)
end Go.Proofs.YtmggaclaoefdaabGreat
