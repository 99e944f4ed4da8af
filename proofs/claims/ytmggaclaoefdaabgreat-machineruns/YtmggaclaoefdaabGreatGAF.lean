/- Part of the proof. -/
import Derived.Test.YtmggaclaoefdaabGreatGAE
import Derived.Deep.RegionLaw
namespace Go.Proofs.YtmggaclaoefdaabGreat
open Go.RowKit Go.Proofs.Tryz
set_option linter.unusedVariables false
set_option linter.unusedSimpArgs false
set_option maxRecDepth 100000
set_option maxHeartbeats 8000000
theorem NB.kid {k:Nat} {T:Tm} (h:NB k T) {i:Nat} (hi:i<T.len):NB k (T.f i):=by
 cases T with
 |nil=>exact absurd hi (nL i)
 |mk=>exact h.2 i hi
theorem NB.root {k:Nat} {T:Tm} (h:NB k T) (h0:0<T.len): ∃b o,T.a=some ⟨b,o,none⟩/\b≠k:=by
 cases T with
 |nil=>exact absurd h0 (nL 0)
 |mk=>exact h.1 h0
theorem fe.grown {w w':World} {row:Option Nat} {a:Option Addr} {i:Nat} {T:Tm} (h:fe w a i T) (hg:w.grownBy w' row) (hn: ∀k,row=some k->∃b o,a=some ⟨b,o,none⟩/\b≠k):fe w' a i T:=by
 obtain ⟨b,o,rfl,h0,h1,h2⟩:=h
 have hne:some b≠row:=fun e=>by
  obtain ⟨b',o',e1,e2⟩:=hn b e.symm;exact e2 (by cases e1;rfl)
 exact ⟨b,o,rfl,hg.cell h0 hne,hg.cell h1 hne,hg.cell h2 hne⟩
def az (T:Tm):List Tm:=(List.range T.len).map T.f
theorem yi {T:Tm} (h:T.len=0):az T= []:=by rw[az,h];rfl
theorem oy {T:Tm} {k:Nat} (h:k<T.len):(az T).drop k=T.f k::(az T).drop (k+1):=by
 have hl:k<(az T).length:=by simp[az,h]
 rw[List.drop_eq_getElem_cons hl]
 congr 1
 simp[az]
theorem rj {T:Tm}:(az T).drop T.len= []:=by
 rw[List.drop_eq_nil_iff];simp[az]
inductive WO where
 |over
 |found (L:Nat)
 |free (L:Nat)
def ba (σ:Sg) (x:Int):Nat->List Tm->WO
 |L,[]=> .free L
 |0,_::_=> .over
 |L+1,t::ts=>if (wha σ t).v=x then .found L else ba σ x L (az (wha σ t)++ts)
theorem D3 (σ:Sg) (x:Int) (L:Nat):ba σ x L []=.free L:=by cases L <;> rfl
theorem my (σ:Sg) (x:Int) (L:Nat) (t:Tm) (ts:List Tm):ba σ x (L+1) (t::ts)=if (wha σ t).v=x then .found L else ba σ x L (az (wha σ t)++ts):=rfl
def LP (σ:Sg) (x:Int) (L:Nat) (T:Tm) (ok:Bool) (L':Int):Prop:=
 (ok=true/\∃k:Nat,L'=k/\k<L/\∀ts,ba σ x L (T::ts)=ba σ x k ts)\/(ok=false/\L'= -1/\∀ts,ba σ x L (T::ts)=.over)\/(ok=false/\∃k:Nat,L'=k/\k<L/\∀ts,ba σ x L (T::ts)=.found k)
def LK (L:Nat):Prop:=∀(b m:Nat) (tv:Value) (N:Int) (lo n:Nat) (σ:Sg) (T:Tm) (w:World) (x:Int),VS w b m tv N lo n σ L->L<=4000->d9 N T->ay w T->NB b T->NB m T->(∀g,tv.ownBlock=some g->NB g T)->
    Calls prog 173 #[.pointer (some ⟨b,0,none⟩),T.val,iV x] w fun e w'=>∃(ok:Bool) (L':Int),e=.returned (.bool ok)/\VS w' b m tv N lo n σ L'/\G b w w'/\LP σ x L T ok L'
theorem Es (L:Nat) (hall: ∀k,k<L->LK k):LK L:=by
 intro b m tv N lo n σ T w x hS hL hO hT hb hm ht;have HAll:Hid (∀k,k<L->LK k):=hall;have HS:Hid (VS w b m tv N lo n σ L):=hS;have HO:Hid (d9 N T):=hO;have hbl:=hS.lt;obtain ⟨hT',hb',hm',ht'⟩:=hS.what hT hb hm ht;have HU:Hid (ay w (wha σ T)/\NB b (wha σ T)/\NB m (wha σ T)/\∀g,tv.ownBlock=some g->NB g (wha σ T)):=⟨hT',hb',hm',ht'⟩;have hlen:(wha σ T).len<=2 ^ 63-1:=hT'.len;clear hall hS hO hT hb hm ht hT' hb' hm' ht'
 show Calls prog 173 #[pZ b,.agg #[iV T.v,.string T.nm,.slice T.a T.len T.cap],iV x] w _
 go_enter Tryz.func173,Tryz.ntmps173
 go_wp2_with fail;have HBx:Hid (Below w.heap.size w (w.alloc (.cells #[iV T.v,.string T.nm,.slice T.a T.len T.cap] 67))):=bA;have HXx:Hid ((w.alloc (.cells #[iV T.v,.string T.nm,.slice T.a T.len T.cap] 67)).heap[w.heap.size]?=some (.cells #[iV T.v,.string T.nm,.slice T.a T.len T.cap] 67)):=hZ w _;generalize w.alloc (.cells #[iV T.v,.string T.nm,.slice T.a T.len T.cap] 67)=wa at*;refine (t5 T wa (HS.o.below HBx.o) HO.o).mono ?_;rintro e w1 ⟨rfl,hb1,hO1⟩;have HOu:Hid (d9 N (wha σ T)):=hO1;have HB1:Hid (Below w.heap.size w w1):=HBx.o.trans (hb1.mono HBx.o.size);have hla:w.heap.size<wa.heap.size:=(aZ HXx.o);have HX1:Hid (w1.heap[w.heap.size]?=some (.cells #[iV T.v,.string T.nm,.slice T.a T.len T.cap] 67)):=(hb1.block _ hla).trans HXx.o;clear hb1 hO1
 have HWith:Hid (∀ts,ba σ x L (T::ts)=match L with|0=> .over|k+1=>if (wha σ T).v=x then .found k else ba σ x k (az (wha σ T)++ts)):=fun ts=>by cases L <;> rfl
 generalize wha σ T=U at*;rw[show U.val=.agg #[iV U.v,.string U.nm,.slice U.a U.len U.cap]from rfl]
 obtain ⟨x0,x1,x2,f0,f1,f2⟩:=ae HX1.o;go_wp2_with fail;obtain ⟨w2,hW,y0,y1,y2,hB2,hgr2⟩:=xe (r:=w.heap.size) lZ HX1.o HB1.o (iV U.v) (.string U.nm) (.slice U.a U.len U.cap);have hX2:=wl (a:=iV U.v) (b:=.string U.nm) (c:=.slice U.a U.len U.cap) HX1.o;rw[hW]at hX2 |-;have HX2:Hid (w2.heap[w.heap.size]?=some (.cells #[iV U.v,.string U.nm,.slice U.a U.len U.cap] 67)):=hX2;have HB2:Hid (Below w.heap.size w w2):=hB2;clear hW hX2 hB2 hgr2 x0 x1 x2 f0 f1 f2 y0 y1 y2;refine (Bx w2 (HS.o.below HB2.o) hL).mono ?_;rintro e w3 ⟨rfl,hS3,hG3⟩;have HS3:Hid (VS w3 b m tv N lo n σ ((L:Int)-1)):=hS3;have HG3:Hid (G b w w3):=(G.below HB2.o).trans hG3;have hl2:w.heap.size<w2.heap.size:=(aZ HX2.o);have HX3:Hid (w3.heap[w.heap.size]?=some (.cells #[iV U.v,.string U.nm,.slice U.a U.len U.cap] 67)):=(hG3.block _ hl2 (by simp;omega)).trans HX2.o
 clear hS3 hG3;obtain ⟨y0,y1,y2,f0,f1,f2⟩:=ae HX3.o
 by_cases h0:L=0
 .subst h0
  have hd:decide (1<=((0:Nat):Int))=false:=rfl;have HF:Hid (∀ts,ba σ x 0 (T::ts)=.over):=fun ts=>HWith.o ts
  rw[hd];replace HS3:Hid (VS w3 b m tv N lo n σ (-1)):=HS3.o;go_wp2_with fail;go_ret;exact ⟨false,-1,rfl,HS3.o,HG3.o,.inr (.inl ⟨rfl,rfl,HF.o⟩)⟩
 have hd:decide (1<=(L:Int))=true:=decide_eq_true (by omega)
 obtain ⟨k,rfl⟩: ∃k,L=k+1:=⟨L-1,by omega⟩
 rw[hd]
 have HS4:Hid (VS w3 b m tv N lo n σ (k:Int)):=by
  have:=HS3.o
  rwa [show ((k+1:Nat):Int)-1=(k:Int)from by omega]at this
 clear HS3
 by_cases hx:U.v=x
 .have HF:Hid (∀ts,ba σ x (k+1) (T::ts)=.found k):=fun ts=>by rw[HWith.o ts];simp only;rw[if_pos hx]
  have hxb:(U.v==x)=true:=beq_iff_eq.2 hx;clear hx;go_wp2_with fail;go_ret;exact ⟨false,k,rfl,HS4.o,HG3.o,rZ ⟨rfl,k,rfl,by omega,HF.o⟩⟩
 have HF:Hid (∀ts,ba σ x (k+1) (T::ts)=ba σ x k (az U++ts)):=fun ts=>by rw[HWith.o ts];simp only;rw[if_neg hx]
 have hxb:(U.v==x)=false:=bF hx;clear hx HWith;go_wp2_with fail;have HLe:Hid (∀i,i<U.len->fe w U.a i (U.f i)/\ay w (U.f i)):=fun i hi=>⟨HU.o.1.row hi,HU.o.1.kid hi⟩
 have HNk:Hid (∀i,i<U.len->NB b (U.f i)/\NB m (U.f i)/\(∀g,tv.ownBlock=some g->NB g (U.f i))/\d9 N (U.f i)):=fun i hi=>⟨HU.o.2.1.kid hi,HU.o.2.2.1.kid hi,fun g hg=>(HU.o.2.2.2 g hg).kid hi,HOu.o.kid hi⟩
 generalize hua:U.a=ua at*
 go_loopw [24] (fun i wr=>∃j:Nat,j<=U.len/\i=iV j/\∃Lj:Nat,Lj<=k/\VS wr b m tv N lo n σ Lj/\G b w wr/\∀ts,ba σ x (k+1) (T::ts)=ba σ x Lj ((az U).drop j++ts)) (fun i _=>U.len-(intOf i).toNat)
 case atStart=>exact ⟨0,oZ,rfl,k,lZ,HS4.o,HG3.o,HF.o⟩
 case round=>
  clear HS4 HG3 HF HX3 y0 y1 y2 f0 f1 f2 HX2 HB2;obtain ⟨j,hj,rfl,Lj,hLj,hSr,hGr,hFr⟩:=hrel;have HSr:Hid (VS wr b m tv N lo n σ Lj):=hSr;have HGr:Hid (G b w wr):=hGr;have HFr:Hid (∀ts,ba σ x (k+1) (T::ts)=ba σ x Lj ((az U).drop j++ts)):=hFr;clear hSr hGr hFr
  by_cases hlt:j<U.len
  .obtain ⟨hr,hTj⟩:=HLe.o j hlt
   have hTjr:ay wr (U.f j):=hTj.grown HGr.o (fun q hq=>by obtain rfl:=oj hq;exact (HNk.o j hlt).1)
   have HTj:Hid (ay wr (U.f j)):=hTjr
   have hr2:fe wr ua j (U.f j):=hr.grown HGr.o (fun q hq=>by
    obtain rfl:=oj hq;rw[<-hua];exact HU.o.2.1.root (by omega))
   have HFj:Hid (∀ts,ba σ x (k+1) (T::ts)=ba σ x Lj (U.f j::((az U).drop (j+1)++ts))):=fun ts=>by rw[HFr.o ts,oy hlt];rfl
   have HC:Hid (∀W,Below wr.heap.size wr W->Calls prog 173 #[pZ b,.agg #[iV (U.f j).v,.string (U.f j).nm,.slice (U.f j).a (U.f j).len (U.f j).cap],iV x] W fun e w'=>∃(ok:Bool) (L':Int),e=.returned (.bool ok)/\VS w' b m tv N lo n σ L'/\G b W w'/\LP σ x Lj (U.f j) ok L'):=fun W hW=>
    HAll.o Lj (by omega) b m tv N lo n σ (U.f j) W x (HSr.o.below hW) (by omega) (HNk.o j hlt).2.2.2 (hTjr.below hW) (HNk.o j hlt).1 (HNk.o j hlt).2.1 (HNk.o j hlt).2.2.1
   obtain ⟨bb,o,ha,c0,c1,c2⟩:=hr2;clear hr hTj hTjr;subst ha;go_wp2_with fail;refine (HC.o _ bA).mono ?_;rintro e w5 ⟨ok,L',rfl,hS5,hG5,hP5⟩;have HG5:Hid (G b w w5):=HGr.o.trans ((G.below bA).trans hG5);have HS5:Hid (VS w5 b m tv N lo n σ L'):=hS5;clear hS5 hG5
   rcases hP5 with ⟨rfl,q,rfl,hq,hw⟩| ⟨rfl,rfl,hw⟩| ⟨rfl,q,rfl,hq,hw⟩
   .have HF5:Hid (∀ts,ba σ x (k+1) (T::ts)=ba σ x q ((az U).drop (j+1)++ts)):=fun ts=>by rw[HFj.o ts,hw]
    clear hw;go_wp2_with fail;go_roundw
    case rel=>exact ⟨j+1,by omega,by go_num,q,by omega,HS5.o,HG5.o,HF5.o⟩
    case measure=>simp[intOf];omega
   .have HF5:Hid (∀ts,ba σ x (k+1) (T::ts)=.over):=fun ts=>by rw[HFj.o ts,hw]
    clear hw;go_wp2_with fail;go_ret;exact ⟨false,-1,rfl,HS5.o,HG5.o,.inr (.inl ⟨rfl,rfl,HF5.o⟩)⟩
   .have HF5:Hid (∀ts,ba σ x (k+1) (T::ts)=.found q):=fun ts=>by rw[HFj.o ts,hw]
    clear hw;go_wp2_with fail;go_ret;exact ⟨false,q,rfl,HS5.o,HG5.o,rZ ⟨rfl,q,rfl,by omega,HF5.o⟩⟩
  .have hje:j=U.len:=by omega
   have HF5:Hid (∀ts,ba σ x (k+1) (T::ts)=ba σ x Lj ts):=fun ts=>by rw[HFr.o ts,hje,rj];rfl
   clear hje;go_wp2_with fail;go_ret;exact ⟨true,Lj,rfl,HSr.o,HGr.o,.inl ⟨rfl,Lj,rfl,by omega,HF5.o⟩⟩
theorem Il: ∀L,LK L:=by
 intro L
 induction L using Nat.strongRecOn with
 |_ L ih=>exact Es L ih
theorem Oy (w:World) (N:Int) (hN:N<=1000000):
 Calls prog 49 #[] w fun e w'=>∃b m,e=.returned (.pointer (some ⟨b,0,none⟩))/\VS w' b m (.slice none 0 0) N w.heap.size 0 (fun _=>none) (4000:Nat)/\Below w.heap.size w w':=by
 have hmm:= @run_makeMap prog
 go_enter Tryz.func49,Tryz.ntmps49
 go_wp2_with fail;go_ret;refine ⟨w.heap.size+1,w.heap.size,by simp,⟨?_,?_,⟨[],World.ownsRow_nil _ _ _ _,oZ⟩,by omega,fun g hg=>by simp[Value.ownBlock]at hg,by omega,fun v T h=>by simp at h,fun v T h=>by simp at h,hN⟩,bA.alloc (by simp) _⟩
 .have:=hZ (w.alloc (.map #[] 0)) (.cells #[.map (some w.heap.size),nZ,iV 4000] 132)
  rwa [show (w.alloc (.map #[] 0)).heap.size=w.heap.size+1 from by simp]at this
 .have h1:gt (w.alloc (.map #[] 0)) w.heap.size 0 (fun _=>none):=⟨.map [],World.ownsMap_made w _ _ _,Maps.isMap_empty,fun i _ _=>⟨rfl,fun T h=>by simp at h⟩⟩
  exact h1.kept (World.grownBy_alloc _ _ none) (by simp)
theorem Lq {b m:Nat} {tv:Value} {N:Int} {lo n:Nat} {σ:Sg} {L:Int} (w:World) (hS:VS w b m tv N lo n σ L):
 Calls prog 147 #[.pointer (some ⟨b,0,none⟩)] w fun e w'=>e=.returned (.bool (decide (L<0)))/\w'=w:=by
 obtain ⟨v0,v1,v2,k0,k1,k2⟩:=ae hS.blk;clear hS
 go_enter Tryz.func147,Tryz.ntmps147
 go_wp2_with fail;go_ret;exact ⟨rfl,rfl⟩
def dx (σ:Sg):Nat->List Tm->Option Nat
 |n,[]=>some n
 |0,_::_=>none
 |n+1,t::ts=>dx σ n (az (wha σ t)++ts)
theorem xv (σ:Sg) (n:Nat):dx σ n []=some n:=by cases n <;> rfl
theorem Q8 (x y z:Value) (w:World):(Instr.field 67 (.agg #[x,y,z]) 2).run prog w=.ok z w:=by kernel_rfl
def Tk (σ:Sg) (n:Nat) (T:Tm) (r:Int):Prop:=(∃k:Nat,r=k/\k<=n/\∀ts,dx σ n (az T++ts)=dx σ k ts)\/(r= -1/\∀ts,dx σ n (az T++ts)=none)
def RM (n:Nat):Prop:=∀(b m:Nat) (tv:Value) (N:Int) (lo nn:Nat) (σ:Sg) (L:Int) (T:Tm) (w:World),VS w b m tv N lo nn σ L->n<=200->ay w T->(∀i,i<T.len->d9 N (T.f i))->
    Calls prog 142 #[.pointer (some ⟨b,0,none⟩),iV n,.slice T.a T.len T.cap] w fun e w'=>∃r:Int,e=.returned (iV r)/\Below w.heap.size w w'/\Tk σ n T r
theorem Hb (n:Nat) (hall: ∀k,k<n->RM k):RM n:=by
 intro b m tv N lo nn σ L T w hS hn hT hO;have HAll:=hid hall;have HS:=hid hS;have HT:Hid (ay w T):=hT;have HO:Hid (∀i,i<T.len->d9 N (T.f i)):=hO;have hlen:T.len<=2 ^ 63-1:=hT.len;have HKid:Hid (∀i,i<T.len->∀W,Below w.heap.size w W->fe W T.a i (T.f i)/\ay W (T.f i)):=fun i hi W hW=>⟨(hT.row hi).below hW,(hT.kid hi).below hW⟩
 clear hall hS hT hO;generalize hua:T.a=ua at*
 go_enter Tryz.func142,Tryz.ntmps142
 go_wp2_with fail
 go_loopw [1,11] (fun a i wr=>∃j k:Nat,j<=T.len/\i=iV j/\a=iV k/\k<=n/\Below w.heap.size w wr/\∀ts,dx σ n (az T++ts)=dx σ k ((az T).drop j++ts)) (fun _ i _=>T.len-(intOf i).toNat)
 case atStart=>exact ⟨0,n,oZ,rfl,rfl,lZ,bR,fun _=>rfl⟩
 case round=>
  obtain ⟨j,k,hj,rfl,rfl,hk,hB,hR⟩:=hrel;have HB:Hid (Below w.heap.size w wr):=hB;have HR:Hid (∀ts,dx σ n (az T++ts)=dx σ k ((az T).drop j++ts)):=hR;clear hB hR
  by_cases hlt:j<T.len
  case neg=>
   have hje:j=T.len:=by omega
   have HQ:Hid (∀ts,dx σ n (az T++ts)=dx σ k ts):=fun ts=>by rw[HR.o ts,hje,rj];rfl
   clear hje;go_wp2_with fail;go_ret;exact ⟨k,rfl,HB.o,.inl ⟨k,rfl,hk,HQ.o⟩⟩
  obtain ⟨hr,hTj⟩:=HKid.o j hlt wr HB.o;have HTj:Hid (ay wr (T.f j)):=hTj;have HRj:Hid (∀ts,dx σ n (az T++ts)=dx σ k (T.f j::((az T).drop (j+1)++ts))):=fun ts=>by rw[HR.o ts,oy hlt];rfl
  obtain ⟨bb,o,ha,c0,c1,c2⟩:=hr;clear hTj;subst ha
  by_cases hk0:k=0
  .subst hk0
   have HQ:Hid (∀ts,dx σ n (az T++ts)=none):=fun ts=>by rw[HRj.o ts];rfl
   go_wp2_with fail;go_ret;exact ⟨-1,rfl,HB.o.alloc HB.o.size _,.inr ⟨rfl,HQ.o⟩⟩
  have hkb:((k:Int)==0)=false:=bF (by omega)
  have hSw: ∀W,Below wr.heap.size wr W->VS W b m tv N lo nn σ L:=fun W hW=>(HS.o.below HB.o).below hW
  have HSw:Hid (∀W,Below wr.heap.size wr W->VS W b m tv N lo nn σ L):=hSw;clear hSw;go_wp2_with fail;refine (t5 (T.f j) _ (HSw.o _ bA) (HO.o j hlt)).mono ?_;rintro e w5 ⟨rfl,hb5,hO5⟩;have HB5:Hid (Below wr.heap.size wr w5):=bA.trans (hb5.mono (by simp))
  have HRu:Hid (∀ts,dx σ n (az T++ts)=dx σ (k-1) (az (wha σ (T.f j))++((az T).drop (j+1)++ts))):=fun ts=>by
   rw[HRj.o ts];obtain ⟨q,rfl⟩: ∃q,k=q+1:=⟨k-1,by omega⟩
   rfl
  have HU:Hid (ay w5 (wha σ (T.f j))):=by
   rcases pq σ ((T.f j).v.toNat+1) (T.f j)with h| ⟨v,h⟩
   .rw[Hid];unfold wha;rw[h];exact HTj.o.below HB5.o
   .exact ((HSw.o _ HB5.o).trm v _ h).1
  have HOu:Hid (d9 N (wha σ (T.f j))):=hO5;clear hb5 hO5;generalize wha σ (T.f j)=U at*;rw[show U.val=.agg #[iV U.v,.string U.nm,.slice U.a U.len U.cap]from rfl]
  have HC:Hid (Calls prog 142 #[pZ b,iV ((k:Int)-1),.slice U.a U.len U.cap] w5 fun e w'=>∃r:Int,e=.returned (iV r)/\Below w5.heap.size w5 w'/\Tk σ (k-1) U r):=by
   have:=HAll.o (k-1) (by omega) b m tv N lo nn σ L U w5 (HSw.o _ HB5.o) (by omega) HU.o (fun i hi=>HOu.o.kid hi)
   rwa [show ((k-1:Nat):Int)=(k:Int)-1 from by omega]at this
  have hfd:=Q8 (iV U.v) (.string U.nm) (.slice U.a U.len U.cap);go_wp2_with fail;refine HC.o.mono ?_;rintro e w6 ⟨r,rfl,hb6,hP⟩;have HB6:Hid (Below w.heap.size w w6):=HB.o.trans ((HB5.o.trans (hb6.mono HB5.o.size)).mono HB.o.size);clear hb6
  rcases hP with ⟨q,rfl,hq,hw⟩| ⟨rfl,hw⟩
  .have HQ:Hid (∀ts,dx σ n (az T++ts)=dx σ q ((az T).drop (j+1)++ts)):=fun ts=>by rw[HRu.o ts,hw]
   have hqb:decide ((q:Int)<0)=false:=decide_eq_false (by omega)
   clear hw;go_wp2_with fail;go_roundw
   case rel=>exact ⟨j+1,q,by omega,by go_num,rfl,by omega,HB6.o,HQ.o⟩
   case measure=>simp[intOf];omega
  .have HQ:Hid (∀ts,dx σ n (az T++ts)=none):=fun ts=>by rw[HRu.o ts,hw]
   clear hw;go_wp2_with fail;go_ret;exact ⟨-1,rfl,HB6.o,.inr ⟨rfl,HQ.o⟩⟩
theorem Le: ∀n,RM n:=by
 intro n
 induction n using Nat.strongRecOn with
 |_ n ih=>exact Hb n ih
def ph (σ:Sg):Nat->Tm->Prop
 |0,_=>False
 |d+1,T=>∀i,i<(wha σ T).len->ph σ d ((wha σ T).f i)
def ex (σ:Sg):Nat->Tm->Tm
 |0,_=> .nil
 |d+1,T=>if (wha σ T).v=0 then .mk 0 (wha σ T).nm none (wha σ T).len 0 (fun i=>ex σ d ((wha σ T).f i))else .mk (wha σ T).v ⟨#[]⟩ none 0 0 (fun _=> .nil)
theorem ph.mono {σ:Sg}: ∀{d:Nat} {T:Tm},ph σ d T->ph σ (d+1) T:=by
 intro d
 induction d with
 |zero=>intro T h;exact False.elim h
 |succ d ih=>intro T h i hi;exact ih (h i hi)
theorem Bc {σ:Sg}: ∀(n:Nat) (ts:List Tm) (k:Nat),dx σ n ts=some k->∀t∈ts,ph σ n t:=by
 intro n
 induction n with
 |zero=>
  intro ts k h t ht
  cases ts with
  |nil=>simp at ht
  |cons x r=>simp[dx]at h
 |succ n ih=>
  intro ts k h t ht
  cases ts with
  |nil=>simp at ht
  |cons x r=>
   have h:=h;have h2:=ih _ _ h
   rcases List.mem_cons.1 ht with rfl|ht
   .intro i hi
    exact h2 _ (List.mem_append.2 (.inl (by simp[az];exact ⟨i,hi,rfl⟩)))
   .exact (h2 t (List.mem_append.2 (.inr ht))).mono
theorem Mw {σ:Sg} (hd:Dj σ) {T U:Tm} (h0:0<=T.v) (hv:T.v≠0) (h:σ T.v=some U) (d:Nat):ex σ d T=ex σ d U/\(ph σ d T->ph σ d U):=by
 cases d with
 |zero=>exact ⟨rfl,fun h=>h⟩
 |succ d=>
  have e:=ll hd h0 hv h;refine ⟨by rw[ex,ex,e],fun hF i hi=>?_⟩
  have:=hF i (by rw[e];exact hi)
  rwa [e]at this
theorem Rj (w:World) (o0 o1 o2 o3:Obj):((((w.alloc o0).alloc o1).alloc o2).alloc o3).heap[w.heap.size]?=some o0/\((((w.alloc o0).alloc o1).alloc o2).alloc o3).heap[w.heap.size+2]?=some o2/\((((w.alloc o0).alloc o1).alloc o2).alloc o3).heap[w.heap.size+3]?=some o3/\Below w.heap.size w ((((w.alloc o0).alloc o1).alloc o2).alloc o3):=by
 have s1:(w.alloc o0).heap.size=w.heap.size+1:=by simp
 have s2:((w.alloc o0).alloc o1).heap.size=w.heap.size+2:=by simp
 have s3:(((w.alloc o0).alloc o1).alloc o2).heap.size=w.heap.size+3:=by simp
 refine ⟨?_,?_,?_,(((bA.alloc (by omega) _).alloc (by omega) _).alloc (by omega) _)⟩
 .rw[jZ _ _ (by omega),jZ _ _ (by omega),jZ _ _ (by omega)];exact hZ w _
 .rw[jZ _ _ (by omega),<-s2];exact hZ _ _
 .rw[<-s3];exact hZ _ _
theorem dz {P:Program} {ops:Array Oper} {o:Oper} {a:Act} {w:World} {K:Act->World->Prop} {Q:Exit->Act->World->Prop} {E:Prop}
 (hg:o.guard=none) (s x:Operand) (t:TypeId) (hop:o.op=Op.call { callee:=Callee.builtin Builtin.append,args:= #[s,x],argTypes:= #[t,t]})
 (base:Nat) (e:TypeId) (i:TypeInfo) (z:Value) (size bytes:Nat) (ht:P.underlying t=some (.slice e)) (hi:P.info? e=some i) (hz:i.zero=some z)
 (hsize:i.size=size) (hby:i.bytes=bytes) (hzs:z.cells.size=size) (hsz:0<size)
 (v:Value) (n:Nat) (xs:List Value) (hs:a.eval s=v) (hown:w.ownsRow base e size v n xs)
 (ad:Addr) (m c:Nat) (news:List Value) (hx:a.eval x=.slice (some ad) m c) (hl:news.length=m*size) (hnews: ∀j u,news[j]?=some u->w.cell? (ad.add j)=some u) (h1: ∀u∈news,u.oneCell'=true)
 (h63:n+m<=maxLen) (hbytes:(n+m)*bytes<=140737488355328) (hbase:base<=w.heap.size) (hm:0<m)
 (h: ∀g cap' w',w'.ownsRow base e size (.slice (some ⟨g,0,none⟩) (n+m) cap') (n+m) (xs++news)->w.grownBy w' v.ownBlock->(some g=v.ownBlock\/g=w.heap.size)->K (a.put o.dst (.slice (some ⟨g,0,none⟩) (n+m) cap')) w'):
 if Region.wanted o (yielded ops a.tmps)=true then Oper.wp P o a w K Q else E:=by
 have hw:Region.wanted o (yielded ops a.tmps)=true:=by simp[Region.wanted,hg]
 rw[if_pos hw];obtain ⟨v',w',hr,h2,h3,h4,h5⟩:=run_append_own_at (P:=P) w base t o.type e i z size bytes ht hi hz hsize hby hzs hsz v n xs hown ad m c news hl hnews h1 h63 hbytes hbase
 rcases h2.2 with ⟨h6,_⟩| ⟨g,cap',cur,rfl,_⟩
 .have:=(h4.1 h6).2;omega
 unfold Oper.wp;simp[execOp,hop,resolve,invoke,builtin,hs,hx,hr,Result.andThen];refine h g cap' w' h2 h3 ?_
 rcases h5 with e|e
 .exact .inl (by rw[<-e];rfl)
 .exact .inr (oj e)
theorem Rk (w:World) (o0 o1 o2:Obj):(((w.alloc o0).alloc o1).alloc o2).heap[w.heap.size+1]?=some o1/\(((w.alloc o0).alloc o1).alloc o2).heap[w.heap.size+2]?=some o2/\Below w.heap.size w (((w.alloc o0).alloc o1).alloc o2):=by
 have s1:(w.alloc o0).heap.size=w.heap.size+1:=by simp
 have s2:((w.alloc o0).alloc o1).heap.size=w.heap.size+2:=by simp
 refine ⟨?_,?_,((bA.alloc (by omega) _).alloc (by omega) _)⟩
 .rw[jZ _ _ (by omega),<-s1];exact hZ _ _
 .rw[<-s2];exact hZ _ _
theorem Fi (w:World) (X:Tm): ∀j u,(cy [X])[j]?=some u->(w.alloc (.cells #[iV X.v,.string X.nm,.slice X.a X.len X.cap] 67)).cell? ((⟨w.heap.size,0,none⟩:Addr).add j)=some u:=by
 intro j u hj;have hb:=hZ w (.cells #[iV X.v,.string X.nm,.slice X.a X.len X.cap] 67);rw[ir,cell_of_row _ _ _ _ _ _ hb]
 simpa[cy,cells3]using hj
end Go.Proofs.YtmggaclaoefdaabGreat
