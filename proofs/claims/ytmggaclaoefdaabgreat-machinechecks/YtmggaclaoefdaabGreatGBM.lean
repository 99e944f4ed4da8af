/- Part of the proof. Part of the proof. Part of the proof. Part of the proof. -/
import Derived.Test.YtmggaclaoefdaabGreatSq0
import Derived.Test.YtmggaclaoefdaabGreatGBL
import Derived.Test.YtmggaclaoefdaabGreatGAO
import Derived.Test.YtmggaclaoefdaabGreatGAK
import Derived.Test.YtmggaclaoefdaabGreatGAX
import Derived.Test.YtmggaclaoefdaabGreatGAF
import Derived.Deep.RegionHeld3
import Derived.Test.YtmggaclaoefdaabGreatGBG
namespace Go.Proofs.YtmggaclaoefdaabGreat
open Go.RowKit
def solveE (P:Pg) (Q:Tm) (steps:Int):Int:=if progV P≠0 then progV P else if queryV Q≠0 then queryV Q else if steps<0∨steps>400 then 3 else 0
theorem query_okv {Q:Tm} (h:queryV Q=0):Q.len≤6∧∀i,i<Q.len→Okv 12 (Q.f i):=by
 have h6:Q.len≤6:=by
  by_cases h6:Q.len≤6
  ·exact h6
  ·rw[queryV,if_neg h6]at h;omega
 refine ⟨h6,fun i hi=>?_⟩
 rw[queryV,if_pos h6]at h;have h1:chks Q (i+1)=0:=fst_zero _ hi h;have h0:chks Q i=0:=fst_zero _ (Nat.le_of_lt hi) h;unfold chks at h0 h1;rw[fst,if_pos h0]at h1;exact okv_of_err _ (checkV_err h1)
theorem grTo_le {g:Nat→Int} {N:Int} (h0:0≤N) (k:Nat) (h: ∀i,i<k→g i≤N):grTo g k≤N:=by
 induction k with
 |zero=>exact h0
 |succ k ih=>
  rw[grTo];exact Int.max_le.2 ⟨ih (fun i hi=>h i (by omega)),h k (by omega)⟩
theorem gr_le {N:Int} (h0:0≤N) (T:Tm):Okv N T→gr T≤N:=by
 induction T with
 |nil=>intro h;exact h.elim
 |mk v nm a len cap f ih=>
  intro h;rw[gr_eq];exact Int.max_le.2 ⟨h.2.1,grTo_le h0 len (fun i hi=>ih i (h.2.2.2.2 i hi))⟩
theorem vars_12 {Q:Tm} (h:queryV Q=0): ∃a:Nat,varsV Q=a∧a≤12:=by
 have h0:0≤varsV Q:=by rw[varsV,if_pos h];exact grTo_nonneg _ _
 have h1:varsV Q≤12:=by rw[varsV,if_pos h];exact grTo_le (by omega) _ (fun i hi=>gr_le (by omega) _ ((query_okv h).2 i hi))
 exact ⟨(varsV Q).toNat,by omega,by omega⟩
def ps0 (Q:Tm) (a:Nat):PS:=⟨(kidsL Q).map fun t=>(can t,0),[],fun _=>none,a,[],0,0⟩
def solP (P:Pg) (Q:Tm) (limit:Nat):PS:=runP (cls P) (varsV Q).toNat limit 442 (ps0 Q (varsV Q).toNat)
def VRes (P:Pg) (Q:Tm) (steps:Int) (w:World) (e:Ending) (w':World):Prop:=Below w.heap.size w w'∧
 ((solveE P Q steps≠0∧e=.returned (.tuple #[rsV none 0 0 0 0,iV (solveE P Q steps)]))∨
  (solveE P Q steps=0∧∃(sa:Option Addr) (ca:Nat) (an:List Tm) (fin st:Int),e=.returned (.tuple #[rsV sa an.length ca fin st,iV 0])∧AR w' sa an∧an.length≤ca∧an.length≤40∧0<fin∧0≤st∧(solP P Q steps.toNat).ans=an.map ansC∧(solP P Q steps.toNat).fin=fin.toNat∧(solP P Q steps.toNat).st=st.toNat))
theorem ans_form {w:World} {lo:Nat} {av:Value} {an:List Tm} (h:w.ownsRow lo 87 1 av an.length (an.map slA)) (ht: ∀A∈an,TIn w A): ∃sa ca,av=.slice sa an.length ca∧an.length≤ca∧AR w sa an:=by
 rcases h.2 with ⟨rfl,h0⟩| ⟨g,cap,cur,rfl,hlo,hg,hnc,hcm,hsz,htk⟩
 ·exact ⟨none,0,by rw[h0],by omega,fun k hk=>by omega⟩
 ·exact ⟨some ⟨g,0,none⟩,cap,rfl,hnc,fun k hk=>⟨⟨g,0,rfl,by
   rw[Nat.zero_add,h.cellAt k (by omega)];simp[hk,slA]⟩,ht _ (List.getElem_mem hk)⟩⟩
theorem set3s {W:World} {r:Nat} {x y z a b c:Value} {t:TypeId} (h:W.heap[r]?=some (.cells #[x,y,z] t)):
 (((W.setCell ⟨r,0,none⟩ a).setCell ⟨r,1,none⟩ b).setCell ⟨r,2,none⟩ c).heap[r]?=some (.cells #[a,b,c] t):=by
 simp only[World.setCell,Array.getElem?_modify];simp[h]
theorem fin3s {w W:World} {r:Nat} {x y z:Value} {t:TypeId} (hr:w.heap.size≤r) (hX:W.heap[r]?=some (.cells #[x,y,z] t)) (hB:Below w.heap.size w W) (a c d:Value):
 ∃W',((W.setCell ⟨r,0,none⟩ a).setCell ⟨r,1,none⟩ c).setCell ⟨r,2,none⟩ d=W'∧W'.cell? ⟨r,0,none⟩=some a∧W'.cell? ⟨r,1,none⟩=some c∧W'.cell? ⟨r,2,none⟩=some d∧Below w.heap.size w W'∧W.grownBy W' (some r):=by
 have h3:W.grownBy (((W.setCell ⟨r,0,none⟩ a).setCell ⟨r,1,none⟩ c).setCell ⟨r,2,none⟩ d) (some r):=G.trans (G.trans (grown_set r 0 a) (grown_set r 1 c)) (grown_set r 2 d);have hc:=set3s (a:=a) (b:=c) (c:=d) hX;refine ⟨_,rfl,by simp[World.cell?,hc],by simp[World.cell?,hc],by simp[World.cell?,hc],?_,h3⟩
 exact ⟨h3.os.trans hB.os,h3.tape.trans hB.tape,h3.output.trans hB.output,Nat.le_trans hB.size h3.size,fun k hk=>(h3.block k (Nat.lt_of_lt_of_le hk hB.size) (by simp;omega)).trans (hB.block k hk)⟩
theorem nb_res {w:World} {k:Nat} {a:Option Addr} {n c:Nat} {y z:Int} {t:TypeId} (h:w.heap[k]?=some (.cells #[.slice a n c,iV y,iV z] t)) {T:Tm} (hT:TIn w T):NB k T:=by
 induction T with
 |nil=>trivial
 |mk v nm a' len cap f ih=>
  refine ⟨fun h0=>?_,fun i hi=>ih i (hT.2.2 i hi).2⟩
  obtain ⟨b,o,e,_,c1,_⟩:=(hT.2.2 0 h0).1;refine ⟨b,o,e,fun hb=>?_⟩
  subst hb
  have hlen:o+0*3+1<3:=by
   rcases Nat.lt_or_ge (o+0*3+1) 3 with h1|h1
   ·exact h1
   ·have h3: ¬(o+0*3+1<(#[Value.slice a n c,iV y,iV z]:Array Value).size):=by simp;omega
    rw[cell_of_row _ _ _ _ _ _ h]at c1;rw[Array.getElem?_eq_none (by omega)]at c1
    cases c1
  have h2:o=0∨o=1:=by omega
  rcases h2 with rfl|rfl
  ·simp[World.cell?,h]at c1
  ·simp[World.cell?,h]at c1
theorem AR.at {w w':World} {sa:Option Addr} {l:List Tm} {k:Nat} (h:AR w sa l) (hg:w.grownBy w' (some k)) (hs: ∀b o,sa=some ⟨b,o,none⟩→b≠k) (hn: ∀A∈l,NB k A):AR w' sa l:=fun i hi=>by
 obtain ⟨⟨b,o,e,hc⟩,hT⟩:=h i hi;exact ⟨⟨b,o,e,hg.cell hc (by simpa using hs b o e)⟩,hT.grown hg (fun q hq=>by obtain rfl:=Option.some.inj hq;exact hn _ (List.getElem_mem hi))⟩
end Go.Proofs.YtmggaclaoefdaabGreat

namespace Go.Proofs.YtmggaclaoefdaabGreat
open Go.RowKit
set_option linter.unusedVariables false
set_option linter.unusedSimpArgs false
theorem hg_nil (h:Nat→Cl):HG h 0:=⟨⟨fun i hi=>absurd hi (Nat.not_lt_zero i),fun i hi=>absurd hi (Nat.not_lt_zero i),fun i hi=>absurd hi (Nat.not_lt_zero i),Nat.zero_le _⟩,⟨fun _=>0,fun i hi=>absurd hi (Nat.not_lt_zero i)⟩,fun i hi=>absurd hi (Nat.not_lt_zero i),fun i hi=>absurd hi (Nat.not_lt_zero i),fun i hi=>absurd hi (Nat.not_lt_zero i),fun i hi=>absurd hi (Nat.not_lt_zero i)⟩
end Go.Proofs.YtmggaclaoefdaabGreat

namespace Go.Proofs.YtmggaclaoefdaabGreat
open Go.RowKit
set_option linter.unusedVariables false
set_option linter.unusedSimpArgs false
theorem checkV_ok {T:Tm} (h:checkV T=0):Okv 12 T∧err T=0∧cnt T≤60:=by
 have hc:cnt T≤60:=by
  by_cases hc:cnt T≤60
  ·exact hc
  ·rw[checkV,if_neg hc]at h;omega
 have he:err T=0:=checkV_err h;exact ⟨okv_of_err _ he,he,hc⟩
theorem queryV_ok {Q:Tm} (h:queryV Q=0):Q.len≤6∧∀i,i<Q.len→Okv 12 (Q.f i)∧err (Q.f i)=0∧cnt (Q.f i)≤60:=by
 have h6:Q.len≤6:=by
  by_cases h6:Q.len≤6
  ·exact h6
  ·rw[queryV,if_neg h6]at h;omega
 refine ⟨h6,fun i hi=>?_⟩
 rw[queryV,if_pos h6]at h;have h1:=fst_zero _ hi h;have h0:=fst_zero _ (Nat.le_of_lt hi) h;unfold chks at h0 h1;rw[fst,if_pos h0]at h1;exact checkV_ok h1
theorem progV_ok {P:Pg} (h:progV P=0):P.len≤30∧ClOk P:=by
 have h30:P.len≤30:=by
  by_cases h30:P.len≤30
  ·exact h30
  ·rw[progV,if_neg h30]at h;omega
 rw[progV,if_pos h30]at h
 have hcl: ∀i,i<P.len→clV (P.hd i) (P.bd i)=0:=fun i hi=>by
  have h1:=fst_zero _ hi h;have h0:=fst_zero _ (Nat.le_of_lt hi) h;unfold clsV at h0 h1;rw[fst,if_pos h0]at h1;exact h1
 have hh: ∀i,i<P.len→headV (P.hd i)=0∧queryV (P.bd i)=0:=fun i hi=>by
  have h1:=hcl i hi
  by_cases h2:headV (P.hd i)=0
  ·rw[clV,if_pos h2]at h1;exact ⟨h2,h1⟩
  ·rw[clV,if_neg h2]at h1;exact absurd h1 h2
 refine ⟨h30,fun i hi=>?_,fun i hi=>queryV_ok (hh i hi).2⟩
 have h1:=(hh i hi).1
 by_cases h2:checkV (P.hd i)=0
 ·exact checkV_ok h2
 ·rw[headV,if_neg h2]at h1;exact absurd h1 h2
def stP:Nat→HSt
 |0=>([],nosub)
 |k+1=>(putT (vT ((k:Int)+1)) (stP k)).1
theorem stP_eq (k:Nat):(stP k).1=(List.range k).map (fun i:Nat=>frC (i:Int))∧(∀v,(stP k).2 v=if 1≤v∧v≤(k:Int)then some (v-1)else none)∧(putT (vT ((k:Int)+1)) (stP k)).2=(k:Int):=by
 have hput: ∀p:HSt,p.2 ((k:Int)+1)=none→putT (vT ((k:Int)+1)) p=putV ((k:Int)+1) p:=fun p _=>by
  unfold vT putT;rw[if_pos (by omega)]
 induction k with
 |zero=>
  refine ⟨rfl,fun v=>?_,?_⟩
  ·show none=_
   rw[if_neg (by omega)]
  ·rw[hput _ rfl]
   rfl
 |succ k ih=>
  have hput': ∀(j:Nat) (p:HSt),putT (vT ((j:Int)+1)) p=putV ((j:Int)+1) p:=fun j p=>by
   unfold vT putT;rw[if_pos (by omega)]
  obtain ⟨h1,h2,h3⟩:=ih (fun p _=>hput' k p)
  have hn:(stP k).2 ((k:Int)+1)=none:=by rw[h2,if_neg (by omega)]
  have hl:(stP k).1.length=k:=by rw[h1];simp
  have e:stP (k+1)=((stP k).1++ [frC (k:Int)],fun v=>if v=(k:Int)+1 then some (k:Int)else (stP k).2 v):=by
   show (putT (vT ((k:Int)+1)) (stP k)).1=_
   rw[hput'];unfold putV;rw[hn,hl]
   rfl
  have e1:(stP (k+1)).1=(List.range (k+1)).map (fun i:Nat=>frC (i:Int)):=by
   rw[e,List.range_succ,List.map_append,h1];rfl
  have e2: ∀v,(stP (k+1)).2 v=if 1≤v∧v≤((k+1:Nat):Int)then some (v-1)else none:=fun v=>by
   rw[e]
   show (if v=(k:Int)+1 then some (k:Int)else (stP k).2 v)=_
   by_cases hv:v=(k:Int)+1
   ·subst hv
    rw[if_pos rfl,if_pos (by omega)]
    congr 1
    omega
   ·rw[if_neg hv,h2]
    by_cases hc:1≤v∧v≤(k:Int)
    ·rw[if_pos hc,if_pos (by omega)]
    ·rw[if_neg hc,if_neg (by omega)]
  refine ⟨e1,e2,?_⟩;rw[hput' (k+1)];unfold putV;rw[e2,if_neg (by omega),e1]
  simp
def startA (Q:Tm) (n:Nat):AhS:=ahP Q.f 0 (bwL Q.len) (stP n,[],0)
def startX (Q:Tm) (n:Nat):PM:=⟨(startA Q n).1.1,(startA Q n).2.1,[],[],(startA Q n).2.2,0,0⟩
theorem grTo_at {g:Nat→Int} {n:Int}: ∀{k:Nat},grTo g k≤n→∀i,i<k→g i≤n:=by
 intro k
 induction k with
 |zero=>intro _ i hi;exact absurd hi (Nat.not_lt_zero i)
 |succ k ih=>
  intro h i hi;rw[grTo]at h
  by_cases e:i=k
  ·subst e;exact Int.le_trans (Int.le_max_right _ _) h
  ·exact ih (Int.le_trans (Int.le_max_left _ _) h) i (by omega)
theorem okv_gr {n:Int} (T:Tm):Okv 12 T→gr T≤n→Okv n T:=by
 induction T with
 |nil=>intro h;exact h.elim
 |mk v nm a len cap f ih=>
  intro h hg;rw[gr_eq]at hg;have h1:v≤n:=Int.le_trans (Int.le_max_left _ _) hg;have h2:=Int.le_trans (Int.le_max_right _ _) hg;exact ⟨h.1,h1,h.2.2.1,h.2.2.2.1,fun i hi=>ih i (h.2.2.2.2 i hi) (grTo_at h2 i hi)⟩
theorem putT_posN {N:Int} (T:Tm):Okv N T→∀p:HSt,(∀v c,p.2 v=some c→v≤N)→∀v c,(putT T p).1.2 v=some c→v≤N:=by
 induction T with
 |nil=>intro h;exact h.elim
 |mk v nm a len cap f ih=>
  intro hT p hp;unfold putT
  by_cases hv:v=0
  ·rw[if_neg (by simp[hv])]
   have hK: ∀k,k≤len→∀u c,(putK (fun i=>putT (f i)) p.1.length k (p.1++(⟨2,len,nm⟩::frs p.1.length len),p.2)).2 u=some c→u≤N:=by
    intro k
    induction k with
    |zero=>intro _ u c h;exact hp u c h
    |succ k ik=>
     intro hk u c h;exact ih k (hT.2.2.2.2 k (by omega)) _ (ik (by omega)) u c h
   exact hK len (Nat.le_refl _)
  ·rw[if_pos hv]
   intro u c h;unfold putV at h
   cases hs:p.2 v with
   |some d=>rw[hs]at h;exact hp u c h
   |none=>
    rw[hs]at h;have h':(if u=v then some (p.1.length:Int)else p.2 u)=some c:=h
    by_cases e:u=v
    ·subst e;exact hT.2.1
    ·rw[if_neg e]at h'
     exact hp u c h'
theorem ahP_posN {N:Int} {f:Nat→Tm} {c n:Nat} (hO: ∀i,i<n→Okv N (f i)) (l:List Nat): ∀q:AhS,(∀i∈l,i<n)→(∀v c,q.1.2 v=some c→v≤N)→∀v c',(ahP f c l q).1.2 v=some c'→v≤N:=by
 induction l with
 |nil=>intro q _ h;exact h
 |cons i l ih=>
  intro q hl h;exact ih (ahS f c q i) (fun k hk=>hl k (List.mem_cons_of_mem _ hk)) (putT_posN (f i) (hO i (hl i List.mem_cons_self)) q.1 h)
theorem start_base (n:Nat) (hn:n≤12):Base (fun _=>none) (stP n).1 (fun u=>(u-1).toNat) (fun u=>1≤u∧u≤(n:Int)) 0 (stP n).2∧Grw (stP n).1 (stP n).2 (stP n)∧(stP n).1.length=n:=by
 obtain ⟨h1,h2,_⟩:=stP_eq n;have hl:(stP n).1.length=n:=by rw[h1];simp
 have hat: ∀i,i<n→hOf (stP n).1 i=frC (i:Int):=fun i hi=>by
  rw[h1];exact hOf_mapU (h:=fun i:Nat=>frC (i:Int)) hi
 have hpi:PutI 0 (stP n):=by
  refine ⟨fun v c e=>?_,fun x _ hx=>?_,Nat.zero_le _⟩
  ·rw[h2]at e
   by_cases hc:1≤v∧v≤(n:Int)
   ·rw[if_pos hc]at e
    have e':=Option.some.inj e;exact ⟨(v-1).toNat,by omega,by omega,fun _=>by rw[hat _ (by omega)]⟩
   ·rw[if_neg hc]at e;cases e
  ·exact .inl ⟨x,hat x (by omega),hx,.inl rfl⟩
 have hg:HG (hOf (stP n).1) (stP n).1.length:=hpi.hg (hg_nil (fun _=>frC 0)) (fun i hi=>absurd hi (Nat.not_lt_zero i)) (by omega)
 have hend: ∀i,i<n→endA (hOf (stP n).1) (stP n).1.length i=i:=fun i hi=>endA_eq (EndR.root (by omega) (fun ⟨_,e⟩=>by rw[hat i hi]at e;exact e rfl))
 refine ⟨⟨⟨fun v U e=>(by cases e),hg,fun u hu=>(by omega),fun u v hu hv _ _ e=>?_,fun u hu _=>?_⟩,fun v c e=>?_,fun v hv hp=>⟨fun hd=>?_,rfl⟩,Int.le_refl _⟩,⟨⟨fun v c e=>?_,fun x hx1 hx2=>absurd hx2 (by omega),Nat.le_refl _⟩,fun _ _=>rfl,fun _ _ h=>h,fun _ _ h=> .inl h,⟨fun u v c e1 e2=>?_,fun v c e=>?_⟩,fun v c e=>?_⟩,hl⟩
 ·have e':=e
  omega
 ·show (u-1).toNat<_∧(hOf (stP n).1 (u-1).toNat).k=1∧(hOf (stP n).1 (u-1).toNat).n=_
  rw[hat _ (by omega)]
  exact ⟨by omega,rfl,rfl⟩
 ·rw[h2]at e
  by_cases hc:1≤v∧v≤(n:Int)
  ·rw[if_pos hc]at e
   have e':=Option.some.inj e;refine ⟨(v-1).toNat,by omega,by omega,?_⟩
   have hw:wha (fun _=>none) (vT (0+v))=vT (0+v):=wha_none rfl
   have hv0:(vT (0+v)).v=v:=by show 0+v=v;omega
   refine .var (by omega) (by rw[hv0];omega) (by rw[hw,hv0];omega) (by rw[hw,hv0];exact hc) (by rw[hw];rfl) ?_
   rw[hw,hv0,hend _ (by omega)]
  ·rw[if_neg hc]at e;cases e
 ·rw[h2]at hv
  rw[if_pos (by omega)]at hv
  cases hv
 ·rw[h2]at e
  by_cases hc:1≤v∧v≤(n:Int)
  ·rw[if_pos hc]at e
   have e':=Option.some.inj e;exact ⟨(v-1).toNat,by omega,by omega,fun h=>absurd h (by omega)⟩
  ·rw[if_neg hc]at e;cases e
 ·rw[h2]at e1 e2
  by_cases hc:1≤u∧u≤(n:Int)
  ·rw[if_pos hc]at e1
   by_cases hc2:1≤v∧v≤(n:Int)
   ·rw[if_pos hc2]at e2
    have:=Option.some.inj e1;have:=Option.some.inj e2;omega
   ·rw[if_neg hc2]at e2;cases e2
  ·rw[if_neg hc]at e1;cases e1
 ·rw[h2]at e
  by_cases hc:1≤v∧v≤(n:Int)
  ·rw[if_pos hc]at e
   have:=Option.some.inj e;omega
  ·rw[if_neg hc]at e;cases e
 ·rw[h2]at e
  by_cases hc:1≤v∧v≤(n:Int)
  ·omega
  ·rw[if_neg hc]at e;cases e
theorem start_fsim {P:Pg} {Q:Tm} {n:Nat} (hQ:queryV Q=0) (hv:varsV Q=(n:Int)) (hn:n≤12):FSim P n (List.range n) ⟨startX Q n,[],0⟩ (ps0 Q n):=by
 obtain ⟨h6,hq⟩:=queryV_ok hQ;obtain ⟨hB,hG0,hl⟩:=start_base n hn;have hO2: ∀i,i<Q.len→Okv 12 (Q.f i)∧err (Q.f i)=0:=fun i hi=>⟨(hq i hi).1,(hq i hi).2.1⟩
 have hON: ∀i,i<Q.len→Okv (n:Int) (Q.f i):=fun i hi=>okv_gr _ (hq i hi).1 (by
  rw[varsV,if_pos hQ]at hv
  have h1:grTo (fun i=>gr (Q.f i)) Q.len≤(n:Int):=by
   have:grs Q=grTo (fun i=>gr (Q.f i)) Q.len:=rfl
   omega
  exact grTo_at h1 i hi)
 have hbl: ∀i∈bwL Q.len,i<Q.len:=fun i hi=>by simpa[bwL]using hi
 have hA:=Grw.ahP (c:=0) hO2 (bwL Q.len) (stP n,[],0) hbl hG0;have h119:=ahP_len119 (c:=0) (fun i hi=>⟨(hq i hi).1,(hq i hi).2.2⟩) (bwL Q.len) (stP n,[],0) hbl
 have hgl:=ahP_goals (c:=0) hO2 (bwL Q.len) (stP n,[],0) hbl hG0.pi (Nat.le_refl _)
 have hps:=ahP_posN (c:=0) hON (bwL Q.len) (stP n,[],0) hbl (fun v c e=>by
  have:=(stP_eq n).2.1 v;rw[this]at e
  by_cases hc:1≤v∧v≤(n:Int)
  ·exact hc.2
  ·rw[if_neg hc]at e;cases e)
 rw[bwL_len]at h119 hgl
 have hlen:(startA Q n).1.1.length≤726:=by
  have:(startA Q n).1.1.length≤(stP n).1.length+119*Q.len:=h119;omega
 have hglen:(startA Q n).2.1.length=Q.len:=by
  have:(startA Q n).2.1.length=0+Q.len:=hgl.2.2.1;omega
 have hnl:n≤(startA Q n).1.1.length:=by
  have:(stP n).1.length≤(startA Q n).1.1.length:=hA.2.1;omega
 have hHR:=hA.1.hr hB (by show (startA Q n).1.1.length≤400000;omega)
 have hCh:=ahP_chn (R:=Rep (fun _=>none) (hOf (startA Q n).1.1) (startA Q n).1.1.length (κg (fun u=>1≤u∧u≤(n:Int)) (fun u=>(u-1).toNat) 0 (startA Q n).1) (Dg (fun u=>1≤u∧u≤(n:Int)) 0 (stP n).2 (startA Q n).1)) (θ:=fun i=>ap (ownV 0) (Q.f i)) (c:=0) hO2 (bwL Q.len) (stP n,[],0) [] hbl hG0 (fun i hi t lo hb=>hA.1.term hB (by show (startA Q n).1.1.length≤400000;omega) (Nat.le_refl _) hb) .nil
 have hgle:(ps0 Q n).gl=((bwL Q.len).reverse.map fun i=>(ap (ownV 0) (Q.f i),0))++ []:=by
  show (kidsL Q).map (fun t=>(can t,0))=_
  unfold kidsL bwL;rw[List.reverse_reverse,List.append_nil,List.map_map];refine List.map_congr_left fun i hi=>?_
  show (can (Q.f i),0)=(ap (ownV 0) (Q.f i),0)
  have:ap (ownV 0) (Q.f i)=can (Q.f i):=by
   rw[←ap_idc _ (hq i (List.mem_range.1 hi)).1];refine ap_vsG _ fun v _=>?_
   show vT (0+v)=can (vT v)
   rw[can_vT,Int.zero_add]
  rw[this]
 have hOkS:OkS (startA Q n).1.1 (startA Q n).2.1 [] (List.range n):=by
  refine ⟨hHR.hg,fun i g hg=>?_,fun x h=>(by cases h),fun x hx=>?_⟩
  ·rcases hgl.1 i g hg with e|e
   ·simp at e
   ·exact e
  ·have:=List.mem_range.1 hx;omega
 refine ⟨⟨rfl,fun _=>⟨rfl,fun i c k h1 _=>?_⟩,fun _=>⟨_,_,hHR,fun u hu=>?_,fun _ _=>rfl,by show (0:Int)≤(n:Int);omega,?_,List.length_range,fun i x hx=>?_⟩⟩,rfl,rfl,fun _=>by show 0<40;omega,⟨hOkS,hgl.2.1,fun c hc=>(by cases hc),List.Pairwise.nil⟩,⟨by show (startA Q n).1.1.length≤726+833*0;omega,by show (startA Q n).2.1.length≤6+6*0;omega,fun c hc=>(by cases hc)⟩,Nat.zero_le _⟩
 ·have h1':([]:List Chq)[i]?=some c:=h1
  simp at h1'
 ·show u≤(n:Int)
  rcases hu with h| ⟨v,c,_,h2,rfl⟩
  ·exact h.2
  ·have:=hps v c h2;omega
 ·rw[hgle];exact hCh
 ·have hi:i<n:=by have:=(List.getElem?_eq_some_iff.1 hx).1;rwa [List.length_range]at this
  rw[List.getElem?_range hi]at hx;have hx':=Option.some.inj hx;subst hx'
  have h3:(stP n).2 ((i:Int)+1)=some (i:Int):=by
   rw[(stP_eq n).2.1,if_pos (by omega)]
   congr 1
   omega
  have:=hA.1.var hB (v:=(i:Int)+1) (y:=i) (hA.2.2.2 _ _ h3);rw[Int.zero_add]at this;exact this
end Go.Proofs.YtmggaclaoefdaabGreat

namespace Go.Proofs.YtmggaclaoefdaabGreat
open Go.RowKit Go.Shelf
set_option linter.unusedVariables false
set_option linter.unusedSimpArgs false
attribute [local go_sem] Oper.semAt_some
section
variable {lo:Nat} {w w':World} {s:Nat} {r:Rn} {h:List Cl} {gs:List Gq} {cs:List Chq} {tr qs:List Nat} {an:List Tm}
theorem MN.toQ (M:MN lo w s r h gs cs tr qs an) {w1:World} {v':Value} {qs':List Nat} (hB:Bw (fun k=>r.qv.ownBlock=some k) w.heap.size w w1) (htv:r.tv.ownBlock=none) (hA: ∀A∈an,NM (fun k=>r.qv.ownBlock=some k) A) (hr:w1.ownsRow lo 3 1 v' qs'.length (natL qs')) (hat:v'.ownBlock=r.qv.ownBlock∨∃q,v'.ownBlock=some q∧w.heap.size≤q):
 MN lo (w1.setCell ⟨s,5,none⟩ v') s { r with qv:=v'} h gs cs tr qs' an∧Bw (fun k=>k=s∨r.qv.ownBlock=some k) w.heap.size w (w1.setCell ⟨s,5,none⟩ v'):=by
 have hAp:=M.apart;have hs:=hB.size;have hB2:=bwSet (s:=s) hB hs 5 v';have hb1:RBk w1 s r:=M.blk.kept (hB.block s M.blk.lt (fun e=>hAp.h1.2.2.2.2.1 e))
 have hv':v'.ownBlock≠some s:=fun e=>by
  rcases hat with e'| ⟨q,e',hq⟩
  ·rw[e]at e';exact hAp.h1.2.2.2.2.1 e'.symm
  ·rw[e]at e';have:=Option.some.inj e';have:=M.blk.lt;omega
 have hn: ∀(v:Value),(∀k,v.ownBlock=some k→k≠s∧r.qv.ownBlock≠some k)→∀k,v.ownBlock=some k→¬(k=s∨r.qv.ownBlock=some k):=fun v hv k e hk=>by
  obtain ⟨h1,h2⟩:=hv k e
  rcases hk with hk|hk
  ·exact h1 hk
  ·exact h2 hk
 refine ⟨⟨hb1.set 5 v' rfl,rowStays M.hp hB2 (hn r.hv fun k e=>⟨fun hk=>hAp.h1.1 (hk▸e),(hAp.hh k e).2.2.2.1⟩),rowStays M.go hB2 (hn r.gv fun k e=>⟨fun hk=>hAp.h1.2.1 (hk▸e),(hAp.hg k e).2.2.2.1⟩),rowStays M.ch hB2 (hn r.cv fun k e=>⟨fun hk=>hAp.h1.2.2.1 (hk▸e),(hAp.hc k e).2.2.2.1⟩),rowStays M.tl hB2 (hn r.tv fun k e=>⟨fun hk=>hAp.h1.2.2.2.1 (hk▸e),(hAp.ht k e).2.2.2.1⟩),?_,rowStays M.anr hB2 (hn r.av fun k e=>⟨fun hk=>hAp.h1.2.2.2.2.2 (hk▸e),(hAp.ha k e).2.2.2.2⟩),?_,fun k e=>?_,M.los⟩,hB2⟩
 ·exact World.ownsRow.kept hr (grown_set s 5 v') (by
   cases hv:v'.ownBlock with
   |none=>exact .inl rfl
   |some k=>exact .inr (fun e=>hv' (by rw[hv,Option.some.inj e])))
 ·exact M.all' hB2 (fun A hA'=>nmOfT (M.all A hA').1 fun k hk=>by
   rcases hk with hk|hk
   ·subst hk;exact (M.all A hA').2.nb (.inl rfl)
   ·exact (hA A hA').nb hk) fun _ _ h=>h
 ·have e':=e
  rw[htv]at e';cases e'
theorem int1_new (w:World) (x:Int): ∀j u,[iV x][j]?=some u→(w.alloc (.cells #[iV x] 3)).cell? ((⟨w.heap.size,0,none⟩:Addr).add j)=some u:=by
 intro j u hj;have hb:=heap_alloc_new w (.cells #[iV x] 3);rw[addr_add,cell_of_row _ _ _ _ _ _ hb]
 simpa using hj
theorem infoInt:(Tryz.prog.info? 3).map (fun i=>(i.zero,i.size,i.bytes))=some (some (iV 0),1,8):=by kernel_rfl
def rn0 (P:Pg):Rn:=⟨.slice none 0 0,.slice none 0 0,0,.slice none 0 0,.slice none 0 0,.slice none 0 0,0,0,.slice none 0 0,P,0⟩
structure StI (w:World) (P:Pg) (s m k:Nat) (wr:World) (r1:Rn):Prop where
 mn:MN w.heap.size wr s r1 (stP k).1 [] [] [] (List.range k) []
 im:IM wr m (stP k).2
 P:r1.P=P
 n0:r1.gv=.slice none 0 0∧r1.cv=.slice none 0 0∧r1.tv=.slice none 0 0∧r1.av=.slice none 0 0∧r1.first=0∧r1.st=0∧r1.fin=0∧r1.left=0
 bel:Below w.heap.size w wr
def startE (P:Pg) (Q:Tm):Int:=if progV P≠0 then progV P else queryV Q
def StaR (P:Pg) (Q:Tm) (w:World) (e:Ending) (w':World):Prop:=Below w.heap.size w w'∧((startE P Q≠0∧e=.returned (.tuple #[.pointer none,iV (startE P Q)]))∨(startE P Q=0∧∃(n s:Nat) (r:Rn),varsV Q=(n:Int)∧n≤12∧e=.returned (.tuple #[.pointer (some ⟨s,0,none⟩),iV 0])∧MX w.heap.size w' s r (startX Q n) (List.range n) []∧r.P=P∧r.st=0∧PrgM w' s r))
set_option maxRecDepth 100000 in
set_option maxHeartbeats 8000000 in
theorem mstart_any (P:Pg) (Q:Tm) (w:World) (hP:PIn w P) (hc:P.len≤P.cap) (hQ:TIn w Q):
 Calls Tryz.prog 25 #[.slice P.a P.len P.cap,.slice Q.a Q.len Q.cap] w (StaR P Q w):=by
 have HP:Hid (∀W,Below w.heap.size w W→PIn W P∧TIn W Q):=fun W hW=>⟨hP.below hW,hQ.below hW⟩
 have HPl:Hid (PIn w P∧P.len≤P.cap):=⟨hP,hc⟩;have HK1:=hid (clauses_any P w hP);clear hP hQ hc
 go_enter Tryz.func25,Tryz.ntmps25
 go_wp2_with fail;refine HK1.o.mono ?_;rintro e w1 ⟨rfl,hb1⟩;have HB1:=hid hb1;clear hb1 HK1
 by_cases hp:progV P=0
 case neg=>
  have hpb:=bne_iff_ne.2 hp;have HE:Hid (startE P Q=progV P):=by rw[Hid];unfold startE;rw[if_pos hp]
  have HN:=hid hp;clear hp;go_wp2_with fail
  go_ret2
  exact ⟨HB1.o,.inl ⟨by rw[HE.o];exact HN.o,by rw[HE.o];rfl⟩⟩
 have HE:Hid (startE P Q=queryV Q):=by rw[Hid];unfold startE;rw[if_neg (by simp[hp])]
 have Hpr:=hid (progV_ok hp);rw[hp];have HK2:=hid (vars_any Q w1 (HP.o _ HB1.o).2);clear hp;go_wp2_with fail;refine HK2.o.mono ?_;rintro e w2 ⟨rfl,hb2⟩;have HB2:=hid (HB1.o.trans (hb2.mono HB1.o.size));clear hb2 HK2
 by_cases hq:queryV Q=0
 case neg=>
  have hqb:=bne_iff_ne.2 hq;have HN:=hid hq;clear hq;go_wp2_with fail
  go_ret2
  exact ⟨HB2.o,.inl ⟨by rw[HE.o];exact HN.o,by rw[HE.o];rfl⟩⟩
 obtain ⟨n,hvn,hn12⟩:=vars_12 hq;have Hvn:=hid hvn;have Hq:=hid hq;rw[hq,hvn];have hmm:= @run_makeMap Tryz.prog;have hs2:=HB2.o.size;clear hq hvn;go_wp2_with fail;have hb0:Below w2.heap.size w2 ((w2.alloc (.cells #[.slice none 0 0,.slice none 0 0,iV 0,.slice none 0 0,.slice none 0 0,.slice none 0 0,iV 0,iV 0,.slice none 0 0,.slice P.a P.len P.cap,iV 0] 62)).alloc (.map #[] 0)):=((Below.refl _ _).alloc (Nat.le_refl _) _).alloc (by simp) _
 have HS0:Hid (StI w P w2.heap.size (w2.heap.size+1) 0 ((w2.alloc (.cells #[.slice none 0 0,.slice none 0 0,iV 0,.slice none 0 0,.slice none 0 0,.slice none 0 0,iV 0,iV 0,.slice none 0 0,.slice P.a P.len P.cap,iV 0] 62)).alloc (.map #[] 0)) (rn0 P)):=by
  have hr0:RBk ((w2.alloc (.cells #[.slice none 0 0,.slice none 0 0,iV 0,.slice none 0 0,.slice none 0 0,.slice none 0 0,iV 0,iV 0,.slice none 0 0,.slice P.a P.len P.cap,iV 0] 62)).alloc (.map #[] 0)) w2.heap.size (rn0 P):=(heapOld _ _ (by simp)).trans (heap_alloc_new w2 _)
  refine ⟨⟨hr0,World.ownsRow_nil _ _ _ _,World.ownsRow_nil _ _ _ _,World.ownsRow_nil _ _ _ _,World.ownsRow_nil _ _ _ _,World.ownsRow_nil _ _ _ _,World.ownsRow_nil _ _ _ _,fun A hA=>(by cases hA),fun k hk=>(by cases hk),hs2⟩,?_,rfl,⟨rfl,rfl,rfl,rfl,rfl,rfl,rfl,rfl⟩,HB2.o.trans (hb0.mono hs2)⟩
  have:=IM.made (w2.alloc (.cells #[.slice none 0 0,.slice none 0 0,iV 0,.slice none 0 0,.slice none 0 0,.slice none 0 0,iV 0,iV 0,.slice none 0 0,.slice P.a P.len P.cap,iV 0] 62));rw[show (w2.alloc (.cells #[.slice none 0 0,.slice none 0 0,iV 0,.slice none 0 0,.slice none 0 0,.slice none 0 0,iV 0,iV 0,.slice none 0 0,.slice P.a P.len P.cap,iV 0] 62)).heap.size=w2.heap.size+1 by simp]at this
  exact this
 generalize ((w2.alloc (.cells #[.slice none 0 0,.slice none 0 0,iV 0,.slice none 0 0,.slice none 0 0,.slice none 0 0,iV 0,iV 0,.slice none 0 0,.slice P.a P.len P.cap,iV 0] 62)).alloc (.map #[] 0))=w3 at*;obtain ⟨i0,hi0,hz0,hz1,hz2⟩:=info_parts infoInt;clear hmm
 go_loopw [30] (fun x wr=>∃(k:Nat) (r1:Rn),k≤n∧x=iV (k:Int)∧StI w P w2.heap.size (w2.heap.size+1) k wr r1) (fun x _=>n-(intOf x).toNat)
 case atStart=>exact ⟨0,rn0 P,Nat.zero_le _,rfl,HS0.o⟩
 case round=>
  obtain ⟨k,r1,hk,rfl,hS⟩:=hrel;have HS:=hid hS;have hslt:=hS.mn.blk.lt;have hmlt:=hS.im.lt;have hlw:=hS.bel.size;obtain ⟨qa,qc,hqv,hqc,_,_⟩:=row_nil hS.mn.qu;obtain ⟨⟨_,_,_,_,_,x5⟩,_,xf⟩:=hS.mn.blk.get;rw[hqv,List.length_range]at x5;have xf5:=xf 5;have Hqv:Hid (r1.qv=.slice qa k qc):=by rw[Hid,hqv,List.length_range]
  clear hS xf hqv
  by_cases hlt:k<n
  case neg=>
   have hke:k=n:=by omega
   have hkI: ¬((k:Int)<(n:Int)):=by omega
   have HSn:Hid (StI w P w2.heap.size (w2.heap.size+1) n wr r1):=by rw[Hid,←hke];exact HS.o
   clear hke
   have HOwn:Hid (∀q,MnR w2.heap.size r1 q→w.heap.size≤q):=fun q hm=>by
    have M:=HSn.o.mn
    rcases hm with e|e|e|e|e|e
    ·omega
    ·exact (M.hp.lt q e).1
    ·exact (M.go.lt q e).1
    ·exact (M.ch.lt q e).1
    ·exact (M.tl.lt q e).1
    ·exact (M.anr.lt q e).1
   have hQw:TIn w Q:=(HP.o w (Below.refl _ _)).2;have hql:=queryV_ok Hq.o;have hst:=start_base n hn12
   have HAh:Hid (Calls Tryz.prog 57 #[.pointer (some ⟨w2.heap.size,0,none⟩),.slice Q.a Q.len Q.cap,.agg #[iV 0,iV 0,iV 0],.map (some (w2.heap.size+1))] wr (fun e w'=>e=.returned (.tuple #[])∧∃hv' gv',MN w.heap.size w' w2.heap.size { r1 with hv:=hv',gv:=gv',first:=((startA Q n).2.2:Int)} (startA Q n).1.1 (startA Q n).2.1 [] [] (List.range n) []∧Bw (AhM w2.heap.size (w2.heap.size+1) r1) wr.heap.size wr w'∧(hv'.ownBlock=r1.hv.ownBlock∨∃k,hv'.ownBlock=some k∧wr.heap.size≤k)∧(gv'.ownBlock=r1.gv.ownBlock∨∃k,gv'.ownBlock=some k∧wr.heap.size≤k))):=by
    have h:=mahead_any (T:=Q) (m:=w2.heap.size+1) (c:=0) (nx:=0) (ga:=0) (L0:=(stP n).1.length) wr HSn.o.mn HSn.o.im (HP.o wr HSn.o.bel).2 (fun i hi=>⟨(hql.2 i hi).1,(hql.2 i hi).2.1,by have:=(hql.2 i hi).2.2;omega⟩) (nmOfT hQw fun q hq=>hQw.nb (HOwn.o q hq)) (hQw.nb (by omega)) (fun A hA=>by cases hA) hst.2.1.pi (by have:=hst.2.2;have:=hql.1;omega) (by have:=hql.1;show 0+Q.len≤_;omega) (by omega)
    refine h.mono ?_;rintro e w' ⟨he,hv',gv',h1,_,_,h2,h3,h4⟩;exact ⟨he,hv',gv',h1,h2,h3,h4⟩
   clear hQw hql hst x5 xf5;go_wp2_with fail;refine HAh.o.mono ?_;rintro e w7 ⟨rfl,hv',gv',hM7,hB7,ho7,hg7⟩
   have HBf:Hid (Below w.heap.size w w7):=by
    have hbw:Bw (fun q=>w.heap.size≤q) w.heap.size w w7:=(Bw.ofBelow HSn.o.bel).trans ((hB7.mono hlw).wide fun q hq hm=>by
     rcases hm with e|e|e|e
     ·show w.heap.size≤q;omega
     ·show w.heap.size≤q;omega
     ·exact (HSn.o.mn.hp.lt q e).1
     ·exact (HSn.o.mn.go.lt q e).1)
    exact ⟨hbw.os,hbw.tape,hbw.output,hbw.size,fun q hq=>hbw.block q hq (by omega)⟩
   have HM7:=hid hM7
   have HN7:Hid (∀q,MnR w2.heap.size { r1 with hv:=hv',gv:=gv',first:=((startA Q n).2.2:Int)} q→w.heap.size≤q):=fun q hm=>by
    rcases hm with e|e|e|e|e|e
    ·omega
    ·exact (hM7.hp.lt q e).1
    ·exact (hM7.go.lt q e).1
    ·exact (hM7.ch.lt q e).1
    ·exact (hM7.tl.lt q e).1
    ·exact (hM7.anr.lt q e).1
   clear hM7 hB7 ho7 hg7;go_wp2_with fail
   go_ret2
   refine ⟨HBf.o,.inr ⟨by rw[HE.o];exact Hq.o,n,w2.heap.size,_,Hvn.o,hn12,rfl,⟨HM7.o,rfl,HSn.o.n0.2.2.2.2.2.2.2,HSn.o.n0.2.2.2.2.2.2.1⟩,HSn.o.P,HSn.o.n0.2.2.2.2.2.1,?_⟩⟩
   have hPw:=HPl.o.1;have e:=HSn.o.P;refine ⟨?_,?_,?_,?_,?_,?_⟩
   ·rw[e];exact hPw.below HBf.o
   ·rw[e];exact HPl.o.2
   ·rw[e];have:=Hpr.o.1;omega
   ·rw[e]
    intro b o hb h0 hm;obtain ⟨b',o',ha',c0,_⟩:=(hPw.2 0 h0).1;rw[hb]at ha';cases ha';have h1:b<w.heap.size:=lt_of_cell c0;have:=HN7.o b hm;omega
   ·rw[e]
    intro j hj;have h1:=Hpr.o.2.hd j hj;exact ⟨h1.1,h1.2.1,by omega,nmOfT (hPw.2 j hj).2.1 fun q hq=>(hPw.2 j hj).2.1.nb (HN7.o q hq)⟩
   ·rw[e]
    intro j hj;have h1:=Hpr.o.2.bd j hj;exact ⟨nmOfT (hPw.2 j hj).2.2 fun q hq=>(hPw.2 j hj).2.2.nb (HN7.o q hq),by omega,fun i hi=>⟨(h1.2 i hi).1,(h1.2 i hi).2.1,by have:=(h1.2 i hi).2.2;omega⟩⟩
  have hkI:(k:Int)<(n:Int):=by omega
  have hk1:IntKind.i64.wrap ((k:Int)+1)=(k:Int)+1:=by simp[IntKind.wrap,IntKind.bits,IntKind.signed];omega
  have hpk:=(stP_eq k).2.2;have hlk:(stP k).1.length=k:=by rw[(stP_eq k).1];simp
  have HPt:Hid (∀W,Below wr.heap.size wr W→Calls Tryz.prog 56 #[.pointer (some ⟨w2.heap.size,0,none⟩),.agg #[iV ((k:Int)+1),.string ⟨#[]⟩,.slice none 0 0],.map (some (w2.heap.size+1))] W (fun e w'=>∃hv',e=.returned (iV (k:Int))∧MN w.heap.size w' w2.heap.size { r1 with hv:=hv'} (stP (k+1)).1 [] [] [] (List.range k) []∧IM w' (w2.heap.size+1) (stP (k+1)).2∧Bw (fun q=>q=w2.heap.size∨(q=w2.heap.size+1∨r1.hv.ownBlock=some q)) W.heap.size W w')):=fun W hW=>by
   have h:=mput_any (T:=vT ((k:Int)+1)) W (HS.o.mn.below hW) (HS.o.im.kept (grown_of_below hW none) (by simp)) ⟨Nat.zero_le _,Nat.zero_le _,fun i hi=>absurd hi (Nat.not_lt_zero i)⟩ ⟨by show (0:Int)≤(k:Int)+1;omega,by show (k:Int)+1≤12;omega,fun _=>⟨rfl,rfl⟩,Nat.zero_le _,fun i hi=>absurd hi (Nat.not_lt_zero i)⟩ ⟨fun h=>absurd h (Nat.lt_irrefl 0),fun i hi=>absurd hi (Nat.not_lt_zero i)⟩ ⟨fun h=>absurd h (Nat.lt_irrefl 0),fun i hi=>absurd hi (Nat.not_lt_zero i)⟩ (fun A hA=>by cases hA) (by rw[hlk];show k+5*1≤2000000;omega) (by have:=hW.size;omega)
   refine h.mono ?_;rintro e w' ⟨hv',he,h1,h2,h3,_⟩;rw[hpk]at he;exact ⟨hv',he,h1,h2,h3⟩
  have hnb:r1.tv.ownBlock=none:=by rw[HS.o.n0.2.2.1];rfl
  have Hnb:=hid hnb;have hsz3:=hs2;clear hpk hlk hnb;go_wp2_with fail
  go_region_law (first
   | (go_simp
      go_at_call 56
      refine (HPt.o _ (by repeat (first|exact Below.refl _ _|refine Below.drew ?_))).mono ?_
      rintro e w5 ⟨hv',rfl,hM5,hI5,hB5⟩;have HM5:=hid hM5;have HI5:=hid hI5;have HB5:Hid (Bw (fun q=>q=w2.heap.size∨(q=w2.heap.size+1∨r1.hv.ownBlock=some q)) wr.heap.size wr w5):=Bw.trans (by repeat (first|exact Bw.refl _ _ _|refine Bw.drew ?_)) (hB5.mono (Nat.le_refl _))
      obtain ⟨⟨_,_,_,_,_,g5⟩,_,gf⟩:=hM5.blk.get;have g5':w5.cell? ⟨w2.heap.size,5,none⟩=some (.slice qa k qc):=by rw[g5];show some r1.qv=_;rw[Hqv.o]
      have gf5:=gf 5;have HBa:Hid (Below w5.heap.size w5 (w5.alloc (.cells #[iV (k:Int)] 3))):=(Below.refl _ _).alloc (Nat.le_refl _) _;have g5b:=(HBa.o.cell (p:=⟨w2.heap.size,5,none⟩) (lt_of_cell g5')).trans g5';have HMa:=hid (hM5.below HBa.o)
      have HOa:Hid ((w5.alloc (.cells #[iV (k:Int)] 3)).ownsRow w.heap.size 3 1 (.slice qa k qc) k (natL (List.range k))):=by have h:=HMa.o.qu;rw[List.length_range]at h;have e1:({ r1 with hv:=hv'}:Rn).qv=.slice qa k qc:=Hqv.o;rwa [e1]at h
      have hs5:=HB5.o.size;clear hM5 hI5 hB5 g5 gf)
   | (refine step_append_own_at rfl (.tmp 38) (.tmp 45) 28 rfl w.heap.size 3 i0 (iV 0) 1 8 Tryz.underlying28 hi0 hz0 hz1 hz2 rfl (by decide) (.slice qa k qc) k (natL (List.range k)) (by first|rfl|simp[Act.eval,Act.put]) HOa.o ⟨w5.heap.size,0,none⟩ 1 1 [iV (k:Int)] (by first|rfl|simp[Act.eval,Act.put]) rfl (int1_new w5 (k:Int)) (by intro u hu;simp at hu;rw[hu];rfl) (by unfold maxLen;omega) (by omega) (by have:=HBa.o.size;omega) (by omega) ?_
      intro g9 cap9 w9 hown9 hg9 hat9;have HG9:Hid ((w5.alloc (.cells #[iV (k:Int)] 3)).grownBy w9 (Value.slice qa k qc).ownBlock):=⟨hg9.os,hg9.tape,hg9.output,hg9.size,hg9.block⟩;have HO9:=hid hown9;have HA9:=hid hat9;have hne9:(Value.slice qa k qc).ownBlock≠some w2.heap.size:=fun e=>HMa.o.apart.h1.2.2.2.2.1 (by show r1.qv.ownBlock=_;rw[Hqv.o];exact e)
      have hst9:w9.heap[w2.heap.size]?=w5.heap[w2.heap.size]?:=(hg9.block w2.heap.size (by simp;omega) (fun e=>hne9 e.symm)).trans (heapOld _ _ (by omega))
      have q5:w9.cell? ⟨w2.heap.size,5,none⟩=some (.slice qa k qc):=(World.cell?_of_block hst9).trans g5';have qf5:w9.frozen? ⟨w2.heap.size,5,none⟩=false:=(World.frozen?_of_block hst9).trans gf5;clear hown9 hg9 hat9 hst9 hne9))
  all_goals
   have hB9:Bw (fun q=>({ r1 with hv:=hv'}:Rn).qv.ownBlock=some q) (w5.alloc (.cells #[iV (k:Int)] 3)).heap.size (w5.alloc (.cells #[iV (k:Int)] 3)) w9:=⟨HG9.o.os,HG9.o.tape,HG9.o.output,HG9.o.size,fun q hq hm=>HG9.o.block q hq (fun e=>hm (by show r1.qv.ownBlock=_;rw[Hqv.o];exact e.symm))⟩
   have hT:=HMa.o.toQ (v':=.slice (some ⟨g9,0,none⟩) (k+1) cap9) (qs':=List.range (k+1)) hB9 Hnb.o (fun A hA=>by cases hA) (by
    rw[List.length_range,List.range_succ];have e1:natL (List.range k++ [k])=natL (List.range k)++ [iV (k:Int)]:=by unfold natL;simp
    rw[e1];exact HO9.o) (by
    show _=r1.qv.ownBlock∨_
    rw[Hqv.o]
    rcases HA9.o with e|e
    ·exact .inl e
    ·exact .inr ⟨g9,rfl,by omega⟩)
   have HS9:Hid (StI w P w2.heap.size (w2.heap.size+1) (k+1) (w9.setCell ⟨w2.heap.size,5,none⟩ (.slice (some ⟨g9,0,none⟩) (k+1) cap9)) { r1 with hv:=hv',qv:=.slice (some ⟨g9,0,none⟩) (k+1) cap9}):=by
    have hqlt: ∀q,(Value.slice qa k qc).ownBlock=some q→q≠w2.heap.size+1∧w.heap.size≤q:=fun q e=>by
     have h1:=HOa.o.lt q e;refine ⟨fun e'=>?_,h1.1⟩
     subst e';obtain ⟨cur,hc⟩:=row_blk HOa.o e;obtain ⟨es,cl,hmap⟩:=(HI5.o.kept (grown_of_below HBa.o none) (by simp)).isMap
     rw[hc]at hmap;cases hmap
    have hI9:IM w9 (w2.heap.size+1) (stP (k+1)).2:=(HI5.o.kept (grown_of_below HBa.o none) (by simp)).keep (HG9.o.block _ (by have:=HBa.o.size;omega) (fun e=>(hqlt _ e.symm).1 rfl))
    refine ⟨hT.1,hI9.kept (grown_set _ 5 _) (fun e=>by have:=Option.some.inj e;omega),HS.o.P,HS.o.n0,?_⟩
    have hbw:Bw (fun q=>w.heap.size≤q) w.heap.size w (w9.setCell ⟨w2.heap.size,5,none⟩ (.slice (some ⟨g9,0,none⟩) (k+1) cap9)):=by
     refine (Bw.ofBelow HS.o.bel).trans (((HB5.o.mono hlw).wide fun q hq hm=>?_).trans ((Bw.ofBelow (HBa.o.mono (by omega))).trans ((hT.2.mono (by have:=HBa.o.size;omega)).wide fun q hq hm=>?_)))
     ·rcases hm with e|e|e
      ·show w.heap.size≤q;omega
      ·show w.heap.size≤q;omega
      ·exact (HS.o.mn.hp.lt q e).1
     ·rcases hm with e|e
      ·show w.heap.size≤q;omega
      ·exact (hqlt q (by have e':r1.qv.ownBlock=some q:=e;rw[Hqv.o]at e';exact e')).2
    exact ⟨hbw.os,hbw.tape,hbw.output,hbw.size,fun q hq=>hbw.block q hq (by omega)⟩
   clear hB9 hT;go_wp2_with fail;go_roundw
   case rel=>exact ⟨k+1,_,by omega,by simp,HS9.o⟩
   case measure=>
    show n-((k:Int)+1).toNat<n-(k:Int).toNat
    omega
end
end Go.Proofs.YtmggaclaoefdaabGreat
