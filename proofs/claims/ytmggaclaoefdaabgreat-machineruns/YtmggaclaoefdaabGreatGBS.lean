/- Part of the proof. -/
import Derived.Test.YtmggaclaoefdaabGreatGBN
import Derived.Test.YtmggaclaoefdaabGreatGBR
namespace Go.Proofs.YtmggaclaoefdaabGreat
open Go.RowKit Go.Proofs.Tryz
set_option linter.unusedVariables false
set_option linter.unusedSimpArgs false
set_option maxRecDepth 100000
set_option maxHeartbeats 8000000
theorem yv {T:Tm} (h:ei T=0):d9 12 T/\iz T=0/\cnt T<=60:=by
 have hc:cnt T<=60:=by
  by_cases hc:cnt T<=60
  .exact hc
  .rw[ei,if_neg hc]at h;omega
 have he:iz T=0:=o4 h;exact ⟨ow _ he,he,hc⟩
theorem rc {Q:Tm} (h:bo Q=0):Q.len<=6/\∀i,i<Q.len->d9 12 (Q.f i)/\iz (Q.f i)=0/\cnt (Q.f i)<=60:=by
 have h6:Q.len<=6:=by
  by_cases h6:Q.len<=6
  .exact h6
  .rw[bo,if_neg h6]at h;omega
 refine ⟨h6,fun i hi=>?_⟩
 rw[bo,if_pos h6]at h;have h1:=gm _ hi h;have h0:=gm _ (Nat.le_of_lt hi) h;unfold oh at h0 h1;rw[fst,if_pos h0]at h1;exact yv h1
theorem ji {P:Pg} (h:ck P=0):P.len<=30/\i7 P:=by
 have h30:P.len<=30:=by
  by_cases h30:P.len<=30
  .exact h30
  .rw[ck,if_neg h30]at h;omega
 rw[ck,if_pos h30]at h
 have hcl: ∀i,i<P.len->Aw (P.hd i) (P.bd i)=0:=fun i hi=>by
  have h1:=gm _ hi h;have h0:=gm _ (Nat.le_of_lt hi) h;unfold oe at h0 h1;rw[fst,if_pos h0]at h1;exact h1
 have hh: ∀i,i<P.len->i9 (P.hd i)=0/\bo (P.bd i)=0:=fun i hi=>by
  have h1:=hcl i hi
  by_cases h2:i9 (P.hd i)=0
  .rw[Aw,if_pos h2]at h1;exact ⟨h2,h1⟩
  .rw[Aw,if_neg h2]at h1;exact absurd h1 h2
 refine ⟨h30,fun i hi=>?_,fun i hi=>rc (hh i hi).2⟩
 have h1:=(hh i hi).1
 by_cases h2:ei (P.hd i)=0
 .exact yv h2
 .rw[i9,if_neg h2]at h1;exact absurd h1 h2
def kr:Nat->HSt
 |0=>([],el)
 |k+1=>(bp (vT ((k:Int)+1)) (kr k)).1
theorem tu (k:Nat):(kr k).1=(List.range k).map (fun i:Nat=>fa (i:Int))/\(∀v,(kr k).2 v=if 1<=v/\v<=(k:Int)then some (v-1)else none)/\(bp (vT ((k:Int)+1)) (kr k)).2=(k:Int):=by
 have hput: ∀p:HSt,p.2 ((k:Int)+1)=none->bp (vT ((k:Int)+1)) p=kt ((k:Int)+1) p:=fun p _=>by
  unfold vT bp;rw[if_pos (by omega)]
 induction k with
 |zero=>
  refine ⟨rfl,fun v=>?_,?_⟩
  .show none=_
   rw[if_neg (by omega)]
  .rw[hput _ rfl]
   rfl
 |succ k ih=>
  have hput': ∀(j:Nat) (p:HSt),bp (vT ((j:Int)+1)) p=kt ((j:Int)+1) p:=fun j p=>by
   unfold vT bp;rw[if_pos (by omega)]
  obtain ⟨h1,h2,h3⟩:=ih (fun p _=>hput' k p)
  have hn:(kr k).2 ((k:Int)+1)=none:=by rw[h2,if_neg (by omega)]
  have hl:(kr k).1.length=k:=by rw[h1];simp
  have e:kr (k+1)=((kr k).1++ [fa (k:Int)],fun v=>if v=(k:Int)+1 then some (k:Int)else (kr k).2 v):=by
   show (bp (vT ((k:Int)+1)) (kr k)).1=_
   rw[hput'];unfold kt;rw[hn,hl]
   rfl
  have e1:(kr (k+1)).1=(List.range (k+1)).map (fun i:Nat=>fa (i:Int)):=by
   rw[e,List.range_succ,List.map_append,h1];rfl
  have e2: ∀v,(kr (k+1)).2 v=if 1<=v/\v<=((k+1:Nat):Int)then some (v-1)else none:=fun v=>by
   rw[e]
   show (if v=(k:Int)+1 then some (k:Int)else (kr k).2 v)=_
   by_cases hv:v=(k:Int)+1
   .subst hv
    rw[if_pos rfl,if_pos (by omega)]
    congr 1
    omega
   .rw[if_neg hv,h2]
    by_cases hc:1<=v/\v<=(k:Int)
    .rw[if_pos hc,if_pos (by omega)]
    .rw[if_neg hc,if_neg (by omega)]
  refine ⟨e1,e2,?_⟩;rw[hput' (k+1)];unfold kt;rw[e2,if_neg (by omega),e1]
  simp
def fc (Q:Tm) (n:Nat):Ax:=ahP Q.f 0 (ke Q.len) (kr n,[],0)
def bt (Q:Tm) (n:Nat):PM:=⟨(fc Q n).1.1,(fc Q n).2.1,[],[],(fc Q n).2.2,0,0⟩
theorem Gd {g:Nat->Int} {n:Int}: ∀{k:Nat},me g k<=n->∀i,i<k->g i<=n:=by
 intro k
 induction k with
 |zero=>intro _ i hi;exact absurd hi (nL i)
 |succ k ih=>
  intro h i hi;rw[me]at h
  by_cases e:i=k
  .subst e;exact Int.le_trans (Int.le_max_right _ _) h
  .exact ih (Int.le_trans (Int.le_max_left _ _) h) i (by omega)
theorem Qw {n:Int} (T:Tm):d9 12 T->gr T<=n->d9 n T:=by
 induction T with
 |nil=>intro h;exact h.elim
 |mk v nm a len cap f ih=>
  intro h hg;rw[J2]at hg;have h1:v<=n:=Int.le_trans (Int.le_max_left _ _) hg;have h2:=Int.le_trans (Int.le_max_right _ _) hg;exact ⟨h.1,h1,h.2.2.1,h.2.2.2.1,fun i hi=>ih i (h.2.2.2.2 i hi) (Gd h2 i hi)⟩
theorem Hs {N:Int} (T:Tm):d9 N T->∀p:HSt,(∀v c,p.2 v=some c->v<=N)->∀v c,(bp T p).1.2 v=some c->v<=N:=by
 induction T with
 |nil=>intro h;exact h.elim
 |mk v nm a len cap f ih=>
  intro hT p hp;unfold bp
  by_cases hv:v=0
  .rw[if_neg (by simp[hv])]
   have hK: ∀k,k<=len->∀u c,(i5 (fun i=>bp (f i)) p.1.length k (p.1++(⟨2,len,nm⟩::j4 p.1.length len),p.2)).2 u=some c->u<=N:=by
    intro k
    induction k with
    |zero=>intro _ u c h;exact hp u c h
    |succ k ik=>
     intro hk u c h;exact ih k (hT.2.2.2.2 k (by omega)) _ (ik (by omega)) u c h
   exact hK len lZ
  .rw[if_pos hv]
   intro u c h;unfold kt at h
   cases hs:p.2 v with
   |some d=>rw[hs]at h;exact hp u c h
   |none=>
    rw[hs]at h;have h':(if u=v then some (p.1.length:Int)else p.2 u)=some c:=h
    by_cases e:u=v
    .subst e;exact hT.2.1
    .rw[if_neg e]at h'
     exact hp u c h'
theorem Nn {N:Int} {f:Nat->Tm} {c n:Nat} (hO: ∀i,i<n->d9 N (f i)) (l:List Nat): ∀q:Ax,(∀i∈l,i<n)->(∀v c,q.1.2 v=some c->v<=N)->∀v c',(ahP f c l q).1.2 v=some c'->v<=N:=by
 induction l with
 |nil=>intro q _ h;exact h
 |cons i l ih=>
  intro q hl h;exact ih (pe f c q i) (fun k hk=>hl k (List.mem_cons_of_mem _ hk)) (Hs (f i) (hO i (hl i List.mem_cons_self)) q.1 h)
theorem u9 (n:Nat) (hn:n<=12):Az (fun _=>none) (kr n).1 (fun u=>(u-1).toNat) (fun u=>1<=u/\u<=(n:Int)) 0 (kr n).2/\r8 (kr n).1 (kr n).2 (kr n)/\(kr n).1.length=n:=by
 obtain ⟨h1,h2,_⟩:=tu n;have hl:(kr n).1.length=n:=by rw[h1];simp
 have hat: ∀i,i<n->ah (kr n).1 i=fa (i:Int):=fun i hi=>by
  rw[h1];exact Mm (h:=fun i:Nat=>fa (i:Int)) hi
 have hpi:li 0 (kr n):=by
  refine ⟨fun v c e=>?_,fun x _ hx=>?_,oZ⟩
  .rw[h2]at e
   by_cases hc:1<=v/\v<=(n:Int)
   .rw[if_pos hc]at e
    have e':=oj e;exact ⟨(v-1).toNat,by omega,by omega,fun _=>by rw[hat _ (by omega)]⟩
   .rw[if_neg hc]at e;cases e
  .exact .inl ⟨x,hat x (by omega),hx,.inl rfl⟩
 have hg:HG (ah (kr n).1) (kr n).1.length:=hpi.hg (Q6 (fun _=>fa 0)) (fun i hi=>absurd hi (nL i)) (by omega)
 have hend: ∀i,i<n->aj (ah (kr n).1) (kr n).1.length i=i:=fun i hi=>ix (jd.root (by omega) (fun ⟨_,e⟩=>by rw[hat i hi]at e;exact e rfl))
 refine ⟨⟨⟨fun v U e=>(by cases e),hg,fun u hu=>(by omega),fun u v hu hv _ _ e=>?_,fun u hu _=>?_⟩,fun v c e=>?_,fun v hv hp=>⟨fun hd=>?_,rfl⟩,Int.le_refl _⟩,⟨⟨fun v c e=>?_,fun x hx1 hx2=>absurd hx2 (by omega),lZ⟩,fun _ _=>rfl,fun _ _ h=>h,fun _ _ h=> .inl h,⟨fun u v c e1 e2=>?_,fun v c e=>?_⟩,fun v c e=>?_⟩,hl⟩
 .have e':=e
  omega
 .show (u-1).toNat<_/\(ah (kr n).1 (u-1).toNat).k=1/\(ah (kr n).1 (u-1).toNat).n=_
  rw[hat _ (by omega)]
  exact ⟨by omega,rfl,rfl⟩
 .rw[h2]at e
  by_cases hc:1<=v/\v<=(n:Int)
  .rw[if_pos hc]at e
   have e':=oj e;refine ⟨(v-1).toNat,by omega,by omega,?_⟩
   have hw:wha (fun _=>none) (vT (0+v))=vT (0+v):=gh rfl
   have hv0:(vT (0+v)).v=v:=by show 0+v=v;omega
   refine .var (by omega) (by rw[hv0];omega) (by rw[hw,hv0];omega) (by rw[hw,hv0];exact hc) (by rw[hw];rfl) ?_
   rw[hw,hv0,hend _ (by omega)]
  .rw[if_neg hc]at e;cases e
 .rw[h2]at hv
  rw[if_pos (by omega)]at hv
  cases hv
 .rw[h2]at e
  by_cases hc:1<=v/\v<=(n:Int)
  .rw[if_pos hc]at e
   have e':=oj e;exact ⟨(v-1).toNat,by omega,by omega,fun h=>absurd h (by omega)⟩
  .rw[if_neg hc]at e;cases e
 .rw[h2]at e1 e2
  by_cases hc:1<=u/\u<=(n:Int)
  .rw[if_pos hc]at e1
   by_cases hc2:1<=v/\v<=(n:Int)
   .rw[if_pos hc2]at e2
    have:=oj e1;have:=oj e2;omega
   .rw[if_neg hc2]at e2;cases e2
  .rw[if_neg hc]at e1;cases e1
 .rw[h2]at e
  by_cases hc:1<=v/\v<=(n:Int)
  .rw[if_pos hc]at e
   have:=oj e;omega
  .rw[if_neg hc]at e;cases e
 .rw[h2]at e
  by_cases hc:1<=v/\v<=(n:Int)
  .omega
  .rw[if_neg hc]at e;cases e
theorem lx {P:Pg} {Q:Tm} {n:Nat} (hQ:bo Q=0) (hv:gp Q=(n:Int)) (hn:n<=12):wt P n (List.range n) ⟨bt Q n,[],0⟩ (Gp Q n):=by
 obtain ⟨h6,hq⟩:=rc hQ;obtain ⟨hB,hG0,hl⟩:=u9 n hn;have hO2: ∀i,i<Q.len->d9 12 (Q.f i)/\iz (Q.f i)=0:=fun i hi=>⟨(hq i hi).1,(hq i hi).2.1⟩
 have hON: ∀i,i<Q.len->d9 (n:Int) (Q.f i):=fun i hi=>Qw _ (hq i hi).1 (by
  rw[gp,if_pos hQ]at hv
  have h1:me (fun i=>gr (Q.f i)) Q.len<=(n:Int):=by
   have:Nt Q=me (fun i=>gr (Q.f i)) Q.len:=rfl
   omega
  exact Gd h1 i hi)
 have hbl: ∀i∈ke Q.len,i<Q.len:=fun i hi=>by simpa[ke]using hi
 have hA:=r8.ahP (c:=0) hO2 (ke Q.len) (kr n,[],0) hbl hG0;have h119:=vr (c:=0) (fun i hi=>⟨(hq i hi).1,(hq i hi).2.2⟩) (ke Q.len) (kr n,[],0) hbl
 have hgl:=rl (c:=0) hO2 (ke Q.len) (kr n,[],0) hbl hG0.pi lZ
 have hps:=Nn (c:=0) hON (ke Q.len) (kr n,[],0) hbl (fun v c e=>by
  have:=(tu n).2.1 v;rw[this]at e
  by_cases hc:1<=v/\v<=(n:Int)
  .exact hc.2
  .rw[if_neg hc]at e;cases e)
 rw[te]at h119 hgl
 have hlen:(fc Q n).1.1.length<=726:=by
  have:(fc Q n).1.1.length<=(kr n).1.length+119*Q.len:=h119;omega
 have hglen:(fc Q n).2.1.length=Q.len:=by
  have:(fc Q n).2.1.length=0+Q.len:=hgl.2.2.1;omega
 have hnl:n<=(fc Q n).1.1.length:=by
  have:(kr n).1.length<=(fc Q n).1.1.length:=hA.2.1;omega
 have hHR:=hA.1.hr hB (by show (fc Q n).1.1.length<=400000;omega)
 have hCh:=Gk (R:=i3 (fun _=>none) (ah (fc Q n).1.1) (fc Q n).1.1.length (κg (fun u=>1<=u/\u<=(n:Int)) (fun u=>(u-1).toNat) 0 (fc Q n).1) (Dg (fun u=>1<=u/\u<=(n:Int)) 0 (kr n).2 (fc Q n).1)) (θ:=fun i=>ap (fh 0) (Q.f i)) (c:=0) hO2 (ke Q.len) (kr n,[],0) [] hbl hG0 (fun i hi t lo hb=>hA.1.term hB (by show (fc Q n).1.1.length<=400000;omega) lZ hb) .nil
 have hgle:(Gp Q n).gl=((ke Q.len).reverse.map fun i=>(ap (fh 0) (Q.f i),0))++ []:=by
  show (az Q).map (fun t=>(a9 t,0))=_
  unfold az ke;rw[List.reverse_reverse,List.append_nil,List.map_map];refine List.map_congr_left fun i hi=>?_
  show (a9 (Q.f i),0)=(ap (fh 0) (Q.f i),0)
  have:ap (fh 0) (Q.f i)=a9 (Q.f i):=by
   rw[<-Ri _ (hq i (List.mem_range.1 hi)).1];refine Ko _ fun v _=>?_
   show vT (0+v)=a9 (vT v)
   rw[tx,Int.zero_add]
  rw[this]
 have hOkS:Qc (fc Q n).1.1 (fc Q n).2.1 [] (List.range n):=by
  refine ⟨hHR.hg,fun i g hg=>?_,fun x h=>(by cases h),fun x hx=>?_⟩
  .rcases hgl.1 i g hg with e|e
   .simp at e
   .exact e
  .have:=List.mem_range.1 hx;omega
 refine ⟨⟨rfl,fun _=>⟨rfl,fun i c k h1 _=>?_⟩,fun _=>⟨_,_,hHR,fun u hu=>?_,fun _ _=>rfl,by show (0:Int)<=(n:Int);omega,?_,List.length_range,fun i x hx=>?_⟩⟩,rfl,rfl,fun _=>by show 0<40;omega,⟨hOkS,hgl.2.1,fun c hc=>(by cases hc),List.Pairwise.nil⟩,⟨by show (fc Q n).1.1.length<=726+833*0;omega,by show (fc Q n).2.1.length<=6+6*0;omega,fun c hc=>(by cases hc)⟩,oZ⟩
 .have h1':([]:List jo)[i]?=some c:=h1
  simp at h1'
 .show u<=(n:Int)
  rcases hu with h| ⟨v,c,_,h2,rfl⟩
  .exact h.2
  .have:=hps v c h2;omega
 .rw[hgle];exact hCh
 .have hi:i<n:=by have:=(List.getElem?_eq_some_iff.1 hx).1;rwa [List.length_range]at this
  rw[List.getElem?_range hi]at hx;have hx':=oj hx;subst hx'
  have h3:(kr n).2 ((i:Int)+1)=some (i:Int):=by
   rw[(tu n).2.1,if_pos (by omega)]
   congr 1
   omega
  have:=hA.1.var hB (v:=(i:Int)+1) (y:=i) (hA.2.2.2 _ _ h3);rw[Int.zero_add]at this;exact this
section
open Go.Shelf
attribute [local go_sem] Oper.semAt_some
section
variable {lo:Nat} {w w':World} {s:Nat} {r:Rn} {h:List Cl} {gs:List Gq} {cs:List jo} {tr qs:List Nat} {an:List Tm}
theorem MN.toQ (M:MN lo w s r h gs cs tr qs an) {w1:World} {v':Value} {qs':List Nat} (hB:Bw (fun k=>r.qv.ownBlock=some k) w.heap.size w w1) (htv:r.tv.ownBlock=none) (hA: ∀A∈an,NM (fun k=>r.qv.ownBlock=some k) A) (hr:w1.ownsRow lo 3 1 v' qs'.length (fg qs')) (hat:v'.ownBlock=r.qv.ownBlock\/∃q,v'.ownBlock=some q/\w.heap.size<=q):
 MN lo (w1.setCell ⟨s,5,none⟩ v') s { r with qv:=v'} h gs cs tr qs' an/\Bw (fun k=>k=s\/r.qv.ownBlock=some k) w.heap.size w (w1.setCell ⟨s,5,none⟩ v'):=by
 have hAp:=M.apart;have hs:=hB.size;have hB2:=xi (s:=s) hB hs 5 v';have hb1:o9 w1 s r:=M.blk.kept (hB.block s M.blk.lt (fun e=>hAp.h1.2.2.2.2.1 e))
 have hv':v'.ownBlock≠some s:=fun e=>by
  rcases hat with e'| ⟨q,e',hq⟩
  .rw[e]at e';exact hAp.h1.2.2.2.2.1 e'.symm
  .rw[e]at e';have:=oj e';have:=M.blk.lt;omega
 have hn: ∀(v:Value),(∀k,v.ownBlock=some k->k≠s/\r.qv.ownBlock≠some k)->∀k,v.ownBlock=some k->¬(k=s\/r.qv.ownBlock=some k):=fun v hv k e hk=>by
  obtain ⟨h1,h2⟩:=hv k e
  rcases hk with hk|hk
  .exact h1 hk
  .exact h2 hk
 refine ⟨⟨hb1.set 5 v' rfl,aw M.hp hB2 (hn r.hv fun k e=>⟨fun hk=>hAp.h1.1 (hk▸e),(hAp.hh k e).2.2.2.1⟩),aw M.go hB2 (hn r.gv fun k e=>⟨fun hk=>hAp.h1.2.1 (hk▸e),(hAp.hg k e).2.2.2.1⟩),aw M.ch hB2 (hn r.cv fun k e=>⟨fun hk=>hAp.h1.2.2.1 (hk▸e),(hAp.hc k e).2.2.2.1⟩),aw M.tl hB2 (hn r.tv fun k e=>⟨fun hk=>hAp.h1.2.2.2.1 (hk▸e),(hAp.ht k e).2.2.2.1⟩),?_,aw M.anr hB2 (hn r.av fun k e=>⟨fun hk=>hAp.h1.2.2.2.2.2 (hk▸e),(hAp.ha k e).2.2.2.2⟩),?_,fun k e=>?_,M.los⟩,hB2⟩
 .exact World.ownsRow.kept hr (af s 5 v') (by
   cases hv:v'.ownBlock with
   |none=>exact .inl rfl
   |some k=>exact .inr (fun e=>hv' (by rw[hv,oj e])))
 .exact M.all' hB2 (fun A hA'=>eo (M.all A hA').1 fun k hk=>by
   rcases hk with hk|hk
   .subst hk;exact (M.all A hA').2.nb (.inl rfl)
   .exact (hA A hA').nb hk) fun _ _ h=>h
 .have e':=e
  rw[htv]at e';cases e'
theorem Mf (w:World) (x:Int): ∀j u,[iV x][j]?=some u->(w.alloc (.cells #[iV x] 3)).cell? ((⟨w.heap.size,0,none⟩:Addr).add j)=some u:=by
 intro j u hj;have hb:=hZ w (.cells #[iV x] 3);rw[ir,cell_of_row _ _ _ _ _ _ hb]
 simpa using hj
theorem O4:(prog.info? 3).map (fun i=>(i.zero,i.size,i.bytes))=some (some (iV 0),1,8):=by kernel_rfl
def Te (P:Pg):Rn:=⟨.slice none 0 0,.slice none 0 0,0,.slice none 0 0,.slice none 0 0,.slice none 0 0,0,0,.slice none 0 0,P,0⟩
structure S3 (w:World) (P:Pg) (s m k:Nat) (wr:World) (r1:Rn):Prop where
 mn:MN w.heap.size wr s r1 (kr k).1 [] [] [] (List.range k) []
 im:IM wr m (kr k).2
 P:r1.P=P
 n0:r1.gv=.slice none 0 0/\r1.cv=.slice none 0 0/\r1.tv=.slice none 0 0/\r1.av=.slice none 0 0/\r1.first=0/\r1.st=0/\r1.fin=0/\r1.left=0
 bel:Below w.heap.size w wr
def f4 (P:Pg) (Q:Tm):Int:=if ck P≠0 then ck P else bo Q
def T7 (P:Pg) (Q:Tm) (w:World) (e:Ending) (w':World):Prop:=Below w.heap.size w w'/\((f4 P Q≠0/\e=.returned (.tuple #[.pointer none,iV (f4 P Q)]))\/(f4 P Q=0/\∃(n s:Nat) (r:Rn),gp Q=(n:Int)/\n<=12/\e=.returned (.tuple #[.pointer (some ⟨s,0,none⟩),iV 0])/\MX w.heap.size w' s r (bt Q n) (List.range n) []/\r.P=P/\r.st=0/\jc w' s r))
theorem vg (P:Pg) (Q:Tm) (w:World) (hP:kg w P) (hc:P.len<=P.cap) (hQ:ay w Q):
 Calls prog 25 #[.slice P.a P.len P.cap,.slice Q.a Q.len Q.cap] w (T7 P Q w):=by
 have HP:Hid (∀W,Below w.heap.size w W->kg W P/\ay W Q):=fun W hW=>⟨hP.below hW,hQ.below hW⟩
 have HPl:Hid (kg w P/\P.len<=P.cap):=⟨hP,hc⟩;have HK1:=hid (m7 P w hP);clear hP hQ hc
 go_enter Tryz.func25,Tryz.ntmps25
 go_wp2_with fail;refine HK1.o.mono ?_;rintro e w1 ⟨rfl,hb1⟩;have HB1:=hid hb1;clear hb1 HK1
 by_cases hp:ck P=0
 case neg=>
  have hpb:=bne_iff_ne.2 hp;have HE:Hid (f4 P Q=ck P):=by rw[Hid];unfold f4;rw[if_pos hp]
  have HN:=hid hp;clear hp;go_wp2_with fail
  go_ret2
  exact ⟨HB1.o,.inl ⟨by rw[HE.o];exact HN.o,by rw[HE.o];rfl⟩⟩
 have HE:Hid (f4 P Q=bo Q):=by rw[Hid];unfold f4;rw[if_neg (by simp[hp])]
 have Hpr:=hid (ji hp);rw[hp];have HK2:=hid (A3 Q w1 (HP.o _ HB1.o).2);clear hp;go_wp2_with fail;refine HK2.o.mono ?_;rintro e w2 ⟨rfl,hb2⟩;have HB2:=hid (HB1.o.trans (hb2.mono HB1.o.size));clear hb2 HK2
 by_cases hq:bo Q=0
 case neg=>
  have hqb:=bne_iff_ne.2 hq;have HN:=hid hq;clear hq;go_wp2_with fail
  go_ret2
  exact ⟨HB2.o,.inl ⟨by rw[HE.o];exact HN.o,by rw[HE.o];rfl⟩⟩
 obtain ⟨n,hvn,hn12⟩:=Fp hq;have Hvn:=hid hvn;have Hq:=hid hq;rw[hq,hvn];have hmm:= @run_makeMap prog;have hs2:=HB2.o.size;clear hq hvn;go_wp2_with fail;have hb0:Below w2.heap.size w2 ((w2.alloc (.cells #[nZ,nZ,iV 0,nZ,nZ,nZ,iV 0,iV 0,nZ,.slice P.a P.len P.cap,iV 0] 62)).alloc (.map #[] 0)):=bA.alloc (by simp) _
 have HS0:Hid (S3 w P w2.heap.size (w2.heap.size+1) 0 ((w2.alloc (.cells #[nZ,nZ,iV 0,nZ,nZ,nZ,iV 0,iV 0,nZ,.slice P.a P.len P.cap,iV 0] 62)).alloc (.map #[] 0)) (Te P)):=by
  have hr0:o9 ((w2.alloc (.cells #[nZ,nZ,iV 0,nZ,nZ,nZ,iV 0,iV 0,nZ,.slice P.a P.len P.cap,iV 0] 62)).alloc (.map #[] 0)) w2.heap.size (Te P):=(jZ _ _ (by simp)).trans (hZ w2 _)
  refine ⟨⟨hr0,World.ownsRow_nil _ _ _ _,World.ownsRow_nil _ _ _ _,World.ownsRow_nil _ _ _ _,World.ownsRow_nil _ _ _ _,World.ownsRow_nil _ _ _ _,World.ownsRow_nil _ _ _ _,fun A hA=>(by cases hA),fun k hk=>(by cases hk),hs2⟩,?_,rfl,⟨rfl,rfl,rfl,rfl,rfl,rfl,rfl,rfl⟩,HB2.o.trans (hb0.mono hs2)⟩
  have:=IM.made (w2.alloc (.cells #[nZ,nZ,iV 0,nZ,nZ,nZ,iV 0,iV 0,nZ,.slice P.a P.len P.cap,iV 0] 62));rw[show (w2.alloc (.cells #[nZ,nZ,iV 0,nZ,nZ,nZ,iV 0,iV 0,nZ,.slice P.a P.len P.cap,iV 0] 62)).heap.size=w2.heap.size+1 by simp]at this
  exact this
 generalize ((w2.alloc (.cells #[nZ,nZ,iV 0,nZ,nZ,nZ,iV 0,iV 0,nZ,.slice P.a P.len P.cap,iV 0] 62)).alloc (.map #[] 0))=w3 at*;obtain ⟨i0,hi0,hz0,hz1,hz2⟩:=info_parts O4;clear hmm
 go_loopw [30] (fun x wr=>∃(k:Nat) (r1:Rn),k<=n/\x=iV (k:Int)/\S3 w P w2.heap.size (w2.heap.size+1) k wr r1) (fun x _=>n-(intOf x).toNat)
 case atStart=>exact ⟨0,Te P,oZ,rfl,HS0.o⟩
 case round=>
  obtain ⟨k,r1,hk,rfl,hS⟩:=hrel;have HS:=hid hS;have hslt:=hS.mn.blk.lt;have hmlt:=hS.im.lt;have hlw:=hS.bel.size;obtain ⟨qa,qc,hqv,hqc,_,_⟩:=ak hS.mn.qu;obtain ⟨⟨_,_,_,_,_,x5⟩,_,xf⟩:=hS.mn.blk.get;rw[hqv,List.length_range]at x5;have xf5:=xf 5;have Hqv:Hid (r1.qv=.slice qa k qc):=by rw[Hid,hqv,List.length_range]
  clear hS xf hqv
  by_cases hlt:k<n
  case neg=>
   have hke:k=n:=by omega
   have hkI: ¬((k:Int)<(n:Int)):=by omega
   have HSn:Hid (S3 w P w2.heap.size (w2.heap.size+1) n wr r1):=by rw[Hid,<-hke];exact HS.o
   clear hke
   have HOwn:Hid (∀q,cm w2.heap.size r1 q->w.heap.size<=q):=fun q hm=>by
    have M:=HSn.o.mn
    rcases hm with e|e|e|e|e|e
    .omega
    .exact (M.hp.lt q e).1
    .exact (M.go.lt q e).1
    .exact (M.ch.lt q e).1
    .exact (M.tl.lt q e).1
    .exact (M.anr.lt q e).1
   have hQw:ay w Q:=(HP.o w bR).2;have hql:=rc Hq.o;have hst:=u9 n hn12
   have HAh:Hid (Calls prog 57 #[pZ w2.heap.size,.slice Q.a Q.len Q.cap,.agg #[iV 0,iV 0,iV 0],.map (some (w2.heap.size+1))] wr (fun e w'=>e=.returned (.tuple #[])/\∃hv' gv',MN w.heap.size w' w2.heap.size { r1 with hv:=hv',gv:=gv',first:=((fc Q n).2.2:Int)} (fc Q n).1.1 (fc Q n).2.1 [] [] (List.range n) []/\Bw (Ji w2.heap.size (w2.heap.size+1) r1) wr.heap.size wr w'/\(hv'.ownBlock=r1.hv.ownBlock\/∃k,hv'.ownBlock=some k/\wr.heap.size<=k)/\(gv'.ownBlock=r1.gv.ownBlock\/∃k,gv'.ownBlock=some k/\wr.heap.size<=k))):=by
    have h:=vj (T:=Q) (m:=w2.heap.size+1) (c:=0) (nx:=0) (ga:=0) (L0:=(kr n).1.length) wr HSn.o.mn HSn.o.im (HP.o wr HSn.o.bel).2 (fun i hi=>⟨(hql.2 i hi).1,(hql.2 i hi).2.1,by have:=(hql.2 i hi).2.2;omega⟩) (eo hQw fun q hq=>hQw.nb (HOwn.o q hq)) (hQw.nb (by omega)) (fun A hA=>by cases hA) hst.2.1.pi (by have:=hst.2.2;have:=hql.1;omega) (by have:=hql.1;show 0+Q.len<=_;omega) (by omega)
    refine h.mono ?_;rintro e w' ⟨he,hv',gv',h1,_,_,h2,h3,h4⟩;exact ⟨he,hv',gv',h1,h2,h3,h4⟩
   clear hQw hql hst x5 xf5;go_wp2_with fail;refine HAh.o.mono ?_;rintro e w7 ⟨rfl,hv',gv',hM7,hB7,ho7,hg7⟩
   have HBf:Hid (Below w.heap.size w w7):=by
    have hbw:Bw (fun q=>w.heap.size<=q) w.heap.size w w7:=(Bw.ofBelow HSn.o.bel).trans ((hB7.mono hlw).wide fun q hq hm=>by
     rcases hm with e|e|e|e
     .show w.heap.size<=q;omega
     .show w.heap.size<=q;omega
     .exact (HSn.o.mn.hp.lt q e).1
     .exact (HSn.o.mn.go.lt q e).1)
    exact ⟨hbw.os,hbw.tape,hbw.output,hbw.size,fun q hq=>hbw.block q hq (by omega)⟩
   have HM7:=hid hM7
   have HN7:Hid (∀q,cm w2.heap.size { r1 with hv:=hv',gv:=gv',first:=((fc Q n).2.2:Int)} q->w.heap.size<=q):=fun q hm=>by
    rcases hm with e|e|e|e|e|e
    .omega
    .exact (hM7.hp.lt q e).1
    .exact (hM7.go.lt q e).1
    .exact (hM7.ch.lt q e).1
    .exact (hM7.tl.lt q e).1
    .exact (hM7.anr.lt q e).1
   clear hM7 hB7 ho7 hg7;go_wp2_with fail
   go_ret2
   refine ⟨HBf.o,.inr ⟨by rw[HE.o];exact Hq.o,n,w2.heap.size,_,Hvn.o,hn12,rfl,⟨HM7.o,rfl,HSn.o.n0.2.2.2.2.2.2.2,HSn.o.n0.2.2.2.2.2.2.1⟩,HSn.o.P,HSn.o.n0.2.2.2.2.2.1,?_⟩⟩
   have hPw:=HPl.o.1;have e:=HSn.o.P;refine ⟨?_,?_,?_,?_,?_,?_⟩
   .rw[e];exact hPw.below HBf.o
   .rw[e];exact HPl.o.2
   .rw[e];have:=Hpr.o.1;omega
   .rw[e]
    intro b o hb h0 hm;obtain ⟨b',o',ha',c0,_⟩:=(hPw.2 0 h0).1;rw[hb]at ha';cases ha';have h1:b<w.heap.size:=ag c0;have:=HN7.o b hm;omega
   .rw[e]
    intro j hj;have h1:=Hpr.o.2.hd j hj;exact ⟨h1.1,h1.2.1,by omega,eo (hPw.2 j hj).2.1 fun q hq=>(hPw.2 j hj).2.1.nb (HN7.o q hq)⟩
   .rw[e]
    intro j hj;have h1:=Hpr.o.2.bd j hj;exact ⟨eo (hPw.2 j hj).2.2 fun q hq=>(hPw.2 j hj).2.2.nb (HN7.o q hq),by omega,fun i hi=>⟨(h1.2 i hi).1,(h1.2 i hi).2.1,by have:=(h1.2 i hi).2.2;omega⟩⟩
  have hkI:(k:Int)<(n:Int):=by omega
  have hk1:IntKind.i64.wrap ((k:Int)+1)=(k:Int)+1:=by simp[IntKind.wrap,IntKind.bits,IntKind.signed];omega
  have hpk:=(tu k).2.2;have hlk:(kr k).1.length=k:=by rw[(tu k).1];simp
  have HPt:Hid (∀W,Below wr.heap.size wr W->Calls prog 56 #[pZ w2.heap.size,.agg #[iV ((k:Int)+1),.string ⟨#[]⟩,nZ],.map (some (w2.heap.size+1))] W (fun e w'=>∃hv',e=.returned (iV (k:Int))/\MN w.heap.size w' w2.heap.size { r1 with hv:=hv'} (kr (k+1)).1 [] [] [] (List.range k) []/\IM w' (w2.heap.size+1) (kr (k+1)).2/\Bw (fun q=>q=w2.heap.size\/(q=w2.heap.size+1\/r1.hv.ownBlock=some q)) W.heap.size W w')):=fun W hW=>by
   have h:=uk (T:=vT ((k:Int)+1)) W (HS.o.mn.below hW) (HS.o.im.kept (aq hW none) (by simp)) ⟨oZ,oZ,fun i hi=>absurd hi (nL i)⟩ ⟨by show (0:Int)<=(k:Int)+1;omega,by show (k:Int)+1<=12;omega,fun _=>⟨rfl,rfl⟩,oZ,fun i hi=>absurd hi (nL i)⟩ ⟨fun h=>absurd h (Nat.lt_irrefl 0),fun i hi=>absurd hi (nL i)⟩ ⟨fun h=>absurd h (Nat.lt_irrefl 0),fun i hi=>absurd hi (nL i)⟩ (fun A hA=>by cases hA) (by rw[hlk];show k+5*1<=2000000;omega) (by have:=hW.size;omega)
   refine h.mono ?_;rintro e w' ⟨hv',he,h1,h2,h3,_⟩;rw[hpk]at he;exact ⟨hv',he,h1,h2,h3⟩
  have hnb:r1.tv.ownBlock=none:=by rw[HS.o.n0.2.2.1];rfl
  have Hnb:=hid hnb;have hsz3:=hs2;clear hpk hlk hnb;go_wp2_with fail
  go_region_law (first
   | (go_simp
      go_at_call 56
      refine (HPt.o _ (by repeat (first|exact bR|refine Below.drew ?_))).mono ?_
      rintro e w5 ⟨hv',rfl,hM5,hI5,hB5⟩;have HM5:=hid hM5;have HI5:=hid hI5;have HB5:Hid (Bw (fun q=>q=w2.heap.size\/(q=w2.heap.size+1\/r1.hv.ownBlock=some q)) wr.heap.size wr w5):=Bw.trans (by repeat (first|exact Bw.refl _ _ _|refine Bw.drew ?_)) (hB5.mono lZ)
      obtain ⟨⟨_,_,_,_,_,g5⟩,_,gf⟩:=hM5.blk.get;have g5':w5.cell? (dZ w2.heap.size 5)=some (.slice qa k qc):=by rw[g5];show some r1.qv=_;rw[Hqv.o]
      have gf5:=gf 5;have HBa:Hid (Below w5.heap.size w5 (w5.alloc (.cells #[iV (k:Int)] 3))):=bA;have g5b:=(HBa.o.cell (p:=(dZ w2.heap.size 5)) (ag g5')).trans g5';have HMa:=hid (hM5.below HBa.o)
      have HOa:Hid ((w5.alloc (.cells #[iV (k:Int)] 3)).ownsRow w.heap.size 3 1 (.slice qa k qc) k (fg (List.range k))):=by have h:=HMa.o.qu;rw[List.length_range]at h;have e1:({ r1 with hv:=hv'}:Rn).qv=.slice qa k qc:=Hqv.o;rwa [e1]at h
      have hs5:=HB5.o.size;clear hM5 hI5 hB5 g5 gf)
   | (refine dz rfl (.tmp 38) (.tmp 45) 28 rfl w.heap.size 3 i0 (iV 0) 1 8 Tryz.underlying28 hi0 hz0 hz1 hz2 rfl (by decide) (.slice qa k qc) k (fg (List.range k)) (by first|rfl|simp[Act.eval,Act.put]) HOa.o (dZ w5.heap.size 0) 1 1 [iV (k:Int)] (by first|rfl|simp[Act.eval,Act.put]) rfl (Mf w5 (k:Int)) (by intro u hu;simp at hu;rw[hu];rfl) (by unfold maxLen;omega) (by omega) (by have:=HBa.o.size;omega) (by omega) ?_
      intro g9 cap9 w9 hown9 hg9 hat9;have HG9:Hid ((w5.alloc (.cells #[iV (k:Int)] 3)).grownBy w9 (Value.slice qa k qc).ownBlock):=⟨hg9.os,hg9.tape,hg9.output,hg9.size,hg9.block⟩;have HO9:=hid hown9;have HA9:=hid hat9;have hne9:(Value.slice qa k qc).ownBlock≠some w2.heap.size:=fun e=>HMa.o.apart.h1.2.2.2.2.1 (by show r1.qv.ownBlock=_;rw[Hqv.o];exact e)
      have hst9:w9.heap[w2.heap.size]?=w5.heap[w2.heap.size]?:=(hg9.block w2.heap.size (by simp;omega) (fun e=>hne9 e.symm)).trans (jZ _ _ (by omega))
      have q5:w9.cell? (dZ w2.heap.size 5)=some (.slice qa k qc):=(cB hst9).trans g5';have qf5:w9.frozen? (dZ w2.heap.size 5)=false:=(World.frozen?_of_block hst9).trans gf5;clear hown9 hg9 hat9 hst9 hne9))
  all_goals
   have hB9:Bw (fun q=>({ r1 with hv:=hv'}:Rn).qv.ownBlock=some q) (w5.alloc (.cells #[iV (k:Int)] 3)).heap.size (w5.alloc (.cells #[iV (k:Int)] 3)) w9:=⟨HG9.o.os,HG9.o.tape,HG9.o.output,HG9.o.size,fun q hq hm=>HG9.o.block q hq (fun e=>hm (by show r1.qv.ownBlock=_;rw[Hqv.o];exact e.symm))⟩
   have hT:=HMa.o.toQ (v':=sZ g9 (k+1) cap9) (qs':=List.range (k+1)) hB9 Hnb.o (fun A hA=>by cases hA) (by
    rw[List.length_range,List.range_succ];have e1:fg (List.range k++ [k])=fg (List.range k)++ [iV (k:Int)]:=by unfold fg;simp
    rw[e1];exact HO9.o) (by
    show _=r1.qv.ownBlock\/_
    rw[Hqv.o]
    rcases HA9.o with e|e
    .exact .inl e
    .exact .inr ⟨g9,rfl,by omega⟩)
   have HS9:Hid (S3 w P w2.heap.size (w2.heap.size+1) (k+1) (w9.setCell (dZ w2.heap.size 5) (sZ g9 (k+1) cap9)) { r1 with hv:=hv',qv:=sZ g9 (k+1) cap9}):=by
    have hqlt: ∀q,(Value.slice qa k qc).ownBlock=some q->q≠w2.heap.size+1/\w.heap.size<=q:=fun q e=>by
     have h1:=HOa.o.lt q e;refine ⟨fun e'=>?_,h1.1⟩
     subst e';obtain ⟨cur,hc⟩:=de HOa.o e;obtain ⟨es,cl,hmap⟩:=(HI5.o.kept (aq HBa.o none) (by simp)).isMap
     rw[hc]at hmap;cases hmap
    have hI9:IM w9 (w2.heap.size+1) (kr (k+1)).2:=(HI5.o.kept (aq HBa.o none) (by simp)).keep (HG9.o.block _ (by have:=HBa.o.size;omega) (fun e=>(hqlt _ e.symm).1 rfl))
    refine ⟨hT.1,hI9.kept (af _ 5 _) (fun e=>by have:=oj e;omega),HS.o.P,HS.o.n0,?_⟩
    have hbw:Bw (fun q=>w.heap.size<=q) w.heap.size w (w9.setCell (dZ w2.heap.size 5) (sZ g9 (k+1) cap9)):=by
     refine (Bw.ofBelow HS.o.bel).trans (((HB5.o.mono hlw).wide fun q hq hm=>?_).trans ((Bw.ofBelow (HBa.o.mono (by omega))).trans ((hT.2.mono (by have:=HBa.o.size;omega)).wide fun q hq hm=>?_)))
     .rcases hm with e|e|e
      .show w.heap.size<=q;omega
      .show w.heap.size<=q;omega
      .exact (HS.o.mn.hp.lt q e).1
     .rcases hm with e|e
      .show w.heap.size<=q;omega
      .exact (hqlt q (by have e':r1.qv.ownBlock=some q:=e;rw[Hqv.o]at e';exact e')).2
    exact ⟨hbw.os,hbw.tape,hbw.output,hbw.size,fun q hq=>hbw.block q hq (by omega)⟩
   clear hB9 hT;go_wp2_with fail;go_roundw
   case rel=>exact ⟨k+1,_,by omega,by simp,HS9.o⟩
   case measure=>
    show n-((k:Int)+1).toNat<n-(k:Int).toNat
    omega
end
end
structure o8 (P:Pg) (n:Nat) (qs:List Nat) (F:FM):Prop where
 fs: ∃Y,wt P n qs F Y
 tr:F.m.tr.length<=8000*F.st+4000*F.an.length
 cs:F.m.cs.length<=F.st
 an:F.an.length<=40
section
variable {P:Pg} {n:Nat} {qs:List Nat} {limit:Nat} {F:FM}
theorem yy:F.m.fin=0->F.an.length<40->(a6 P qs F).an.length<=40/\((a6 P qs F).m.fin=0->(a6 P qs F).an.length<40):=by
 intro _ h4;unfold a6
 split
 .exact ⟨by show F.an.length<=40;omega,fun h=>absurd (show (3:Int)=0 from h) (by decide)⟩
 .split
  .exact ⟨by show (F.an++ [_]).length<=40;simp;omega,fun h=>absurd (show (1:Int)=0 from h) (by decide)⟩
  .exact ⟨by show (F.an++ [_]).length<=40;simp;omega,fun _=>by show (F.an++ [_]).length<40;simp;omega⟩
theorem Lx: ∀(f:Nat) (F:FM),F.an.length<=40->(F.m.fin=0->F.an.length<40)->(jb P qs limit f F).an.length<=40:=by
 intro f
 induction f with
 |zero=>intro F h _;exact h
 |succ f ih=>
  intro F h h4
  by_cases hf:F.m.fin≠0
  .rw[jk hf];exact h
  have hf0:F.m.fin=0:=Classical.not_not.1 hf
  by_cases h0:F.m.first=0
  .rw[mv hf h0]
   have:=yy (P:=P) (qs:=qs) hf0 (h4 hf0);exact ih _ this.1 this.2
  by_cases hs:F.st=limit
  .rw[mt hf h0 hs];exact h
  .rw[ka hf h0 hs]
   exact ih _ h (fun _=>h4 hf0)
theorem o8.answer (hC:i7 P) (R:o8 P n qs F) (hf:F.m.fin=0) (h0:F.m.first=0):o8 P n qs (a6 P qs F)/\(a6 P qs F).st=F.st:=by
 obtain ⟨Y,S⟩:=R.fs;have hf0:Y.fin=0:=by have:=S.m.fin;omega
 have hfew:=S.few hf0;rw[<-S.an]at hfew;obtain ⟨h1,h2⟩:=o5 hC S hf0 h0;have h3:=yy (P:=P) (qs:=qs) hf hfew;have hO:=vq hC S.ok (S.sz.gs5 S.s4);refine ⟨⟨⟨_,h1⟩,?_,by rw[hO.st];exact lT hO.cs R.cs,h3.1⟩,hO.st⟩
 rw[hO.st];have hR:=R.tr;have hB:=nu hC S.ok (S.sz.gs5 S.s4);unfold a6
 split
 .exact hR
 .split
  .show F.m.tr.length<=8000*F.st+4000*(F.an++ [_]).length
   rw[List.length_append,List.length_singleton,Nat.mul_succ,<-Nat.add_assoc];exact lT hR (Nat.le_add_right _ 4000)
  .show (dr P F.m).tr.length<=8000*F.st+4000*(F.an++ [_]).length
   rw[List.length_append,List.length_singleton,Nat.mul_succ,<-Nat.add_assoc];exact lT hB.tr (Nat.add_le_add_right hR 4000)
theorem o8.settle (hC:i7 P): ∀(k:Nat) (F:FM),o8 P n qs F->o8 P n qs (au P qs k F):=by
 intro k
 induction k with
 |zero=>intro F R;exact R
 |succ k ih=>
  intro F R;rw[au]
  by_cases hc:F.m.fin=0/\F.m.first=0
  .rw[if_pos hc];exact ih _ (R.answer hC hc.1 hc.2).1
  .rw[if_neg hc];exact R
theorem o8.step (hC:i7 P) (R:o8 P n qs F) (hs:F.m.fin=0->F.m.first≠0->F.st<400):o8 P n qs (b9 P qs F):=by
 unfold b9
 by_cases hc:F.m.fin=0/\F.m.first≠0
 .rw[if_pos hc]
  refine o8.settle hC 41 _ ?_;obtain ⟨Y,S⟩:=R.fs;have hf0:Y.fin=0:=by have:=S.m.fin;omega
  have:=hs hc.1 hc.2;have hst:=S.st;obtain ⟨h1,_⟩:=p6 hC S hf0 hc.2 (by omega)
  have hfl:=S.ok.fst
  have hO:jm P.len qs { F.m with left:=4000}:=S.ok.same rfl rfl rfl S.ok.fst rfl
  have hT:=nh (X:= { F.m with left:=4000}) (i:=F.m.first-1) hC hO (S.sz.gs5 S.s4) (by show F.m.first=_;omega) (by show F.m.first-1<F.m.gs.length;omega) hc.1 ⟨4000,rfl,lZ⟩
  have ht:(bn P { F.m with left:=4000}).tr.length<=F.m.tr.length+8000:=hT.tr
  have hcs:(bn P { F.m with left:=4000}).cs.length<=F.m.cs.length+1:=hT.cs
  have hR:=R.tr;have hR2:=R.cs
  exact ⟨⟨_,h1⟩,by
   show (bn P { F.m with left:=4000}).tr.length<=8000*(F.st+1)+4000*F.an.length
   rw[Nat.mul_succ];generalize 4000*F.an.length=x at*;generalize 8000*F.st=y at*
   omega,by show (bn P { F.m with left:=4000}).cs.length<=F.st+1;omega,R.an⟩
 .rw[if_neg hc];exact o8.settle hC 41 _ R
theorem o8.few (R:o8 P n qs F) (hf:F.m.fin=0):F.an.length<40:=by
 obtain ⟨Y,S⟩:=R.fs;have hf0:Y.fin=0:=by have:=S.m.fin;omega
 rw[S.an];exact S.few hf0
theorem ly (h4:F.m.fin=0->F.an.length<40) (hf:(au P qs 41 F).m.fin=0):(au P qs 41 F).m.first≠0:=
 (jx (P:=P) (qs:=qs) 41 F (.inr (by omega)) h4).1.resolve_left (fun x=>x hf)
theorem Ec (h4:F.m.fin=0->F.an.length<40) (hf:(b9 P qs F).m.fin=0):(b9 P qs F).m.first≠0:=by
 unfold b9 at hf |-
 by_cases hc:F.m.fin=0/\F.m.first≠0
 .rw[if_pos hc]at hf |-
  exact ly (fun _=>h4 hc.1) hf
 .rw[if_neg hc]at hf |-
  exact ly h4 hf
theorem o8.walk (R:o8 P n qs F):jm P.len qs F.m/\F.m.gs.length<=5000/\F.m.tr.length<=7700000/\F.m.cs.length<=999000/\F.st<=400:=by
 obtain ⟨Y,S⟩:=R.fs;have h1:=S.st;have h2:=S.s4;have h3:=R.tr;have h4:=R.an;have h5:=R.cs;exact ⟨S.ok,S.sz.gs5 S.s4,by omega,by omega,by omega⟩
theorem qy {Q:Tm} (hQ:bo Q=0) (hv:gp Q=(n:Int)) (hn:n<=12):o8 P n (List.range n) ⟨bt Q n,[],0⟩:=⟨⟨_,lx hQ hv hn⟩,by show (0:Nat)<=_;omega,lZ,by show (0:Nat)<=40;omega⟩
theorem Oa {Q:Tm} (hC:i7 P) (hQ:bo Q=0) (hv:gp Q=(n:Int)) (hn:n<=12) (hl:limit<=400):
 let G:=tk (pj P (List.range n) limit (limit+1) (au P (List.range n) 41 ⟨bt Q n,[],0⟩))
 G.m.fin=((ge P Q limit).fin:Int)/\G.an=(ge P Q limit).ans/\G.st=(ge P Q limit).st/\G.an.length<=40/\G.m.fin≠0:=by
 intro G;have hG:G=jb P (List.range n) limit 442 ⟨bt Q n,[],0⟩:=Od rfl rfl hl;have hS:=Bq (P:=P) (n:=n) (qs:=List.range n) hC hl 442 ⟨bt Q n,[],0⟩ (Gp Q n) (lx hQ hv hn) oZ
 have hsol:ic (bm P) n limit 442 (Gp Q n)=ge P Q limit:=by
  unfold ge;rw[hv,Int.toNat_natCast]
 rw[hsol]at hS;refine ⟨by rw[hG];exact hS.1,by rw[hG];exact hS.2.1,by rw[hG];exact hS.2.2,?_,?_⟩
 .rw[hG]
  exact Lx 442 _ (by show (0:Nat)<=40;omega) (fun _=>by show (0:Nat)<40;omega)
 .show (tk (pj P (List.range n) limit (limit+1) (au P (List.range n) 41 ⟨bt Q n,[],0⟩))).m.fin≠0
  unfold tk
  by_cases h:(pj P (List.range n) limit (limit+1) (au P (List.range n) 41 ⟨bt Q n,[],0⟩)).m.fin=0
  .rw[if_pos h];show (2:Int)≠0;decide
  .rw[if_neg h];exact h
end
end Go.Proofs.YtmggaclaoefdaabGreat
