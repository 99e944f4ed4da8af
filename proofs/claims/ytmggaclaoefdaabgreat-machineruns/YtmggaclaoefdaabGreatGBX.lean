/- Part of the proof. -/
import Derived.Test.YtmggaclaoefdaabGreatGBW
namespace Go.Proofs.YtmggaclaoefdaabGreat
open Go.RowKit Go.Shelf Go.Proofs.Tryz
set_option linter.unusedVariables false
set_option linter.unusedSimpArgs false
set_option maxRecDepth 100000
set_option maxHeartbeats 8000000
section
attribute [local go_sem] Oper.semAt_some
structure Nq (lo:Nat) (w:World) (f:Nat->Tm) (i n:Nat) (ts:List Tm):Prop where
 len:ts.length=n
 new: ∀(j:Nat) (X:Tm),j<i->ts[j]?=some X->ay w X/\a9 X=a9 (f j)/\bl lo X
 old: ∀(j:Nat) (X:Tm),i<=j->ts[j]?=some X->X=f j
theorem Nq.keep {lo:Nat} {w w':World} {f:Nat->Tm} {i n:Nat} {ts:List Tm} (h:Nq lo w f i n ts) (hk: ∀X,ay w X->bl lo X->ay w' X):Nq lo w' f i n ts:=
 ⟨h.len,fun j X hj hX=>let ⟨a,b,c⟩:=h.new j X hj hX;⟨hk X a c,b,c⟩,h.old⟩
theorem Nq.set {lo:Nat} {w:World} {f:Nat->Tm} {i n:Nat} {ts:List Tm} {X:Tm} (h:Nq lo w f i n ts) (hX:ay w X/\a9 X=a9 (f i)/\bl lo X):Nq lo w f (i+1) n (ts.set i X):=by
 refine ⟨by rw[List.length_set];exact h.len,fun j Z hj hZ=>?_,fun j Z hj hZ=>?_⟩
 .rw[List.getElem?_set]at hZ
  by_cases e:i=j
  .subst e
   rw[if_pos rfl]at hZ
   by_cases hl:i<ts.length
   .rw[if_pos hl]at hZ;cases hZ;exact hX
   .rw[if_neg hl]at hZ;cases hZ
  .rw[if_neg e]at hZ
   exact h.new j Z (by omega) hZ
 .rw[List.getElem?_set,if_neg (by omega)]at hZ
  exact h.old j Z (by omega) hZ
theorem Sv {X Y:Tm} (h:a9 X=a9 Y):X.v=Y.v/\X.nm=Y.nm:=by
 rw[ip X,ip Y]at h
 injection h with h1 h2
 exact ⟨h1,h2⟩
theorem Og {lo:Nat} {w:World} {a:Option Addr} {n cap:Nat} {ts:List Tm} {v:Int} {nm:ByteArray} (hr:w.ownsRow lo 67 3 (.slice a n cap) n (cy ts)) (hl:ts.length=n) (hn:nm.size<=maxLen) (hx: ∀X∈ts,ay w X) (hm:n<=maxLen):ay w (.mk v nm a n cap (fun j=>ts.getD j .nil)):=by
 refine ⟨hn,hm,fun i hi=>?_⟩
 have hi':i<ts.length:=by omega
 have e:ts.getD i .nil=ts[i]:=by simp[List.getD,gE hi']
 show fe w a i (ts.getD i .nil)/\ay w (ts.getD i .nil)
 rw[e];refine ⟨?_,hx _ (List.getElem_mem hi')⟩;have hf:=km ts i hi';obtain ⟨a',cp',e',_,hnone,hsome⟩:=ak hr;cases e';have hln:=hr.1
 cases a with
 |none=>have:=(hnone rfl).1;omega
 |some ad=>
  obtain ⟨g,rfl⟩:=hsome ad rfl;refine ⟨g,0,rfl,?_,?_,?_⟩ <;> simp only[Nat.zero_add]
  .exact (hr.cellAt (i*3) (by omega)).trans hf.1
  .exact (hr.cellAt (i*3+1) (by omega)).trans hf.2.1
  .exact (hr.cellAt (i*3+2) (by omega)).trans hf.2.2
theorem G5 (T:Tm): ∀(w:World),ay w T->kids T<=1000000->
 Calls prog 81 #[.slice T.a T.len T.cap] w fun e w'=>∃T',e=.returned (.slice T'.a T'.len T'.cap)/\ay w' T'/\a9 T'=a9 T/\bl w.heap.size T'/\Below w.heap.size w w':=by
 induction T with
 |nil=>intro w h;exact absurd h id
 |mk v nm a len cap f ih=>
  intro w hT hk
  have h1: ∀k,k<=bj (fun i=>cnt (f i)) k/\∀i,i<k->kids (f i)<bj (fun i=>cnt (f i)) k:=by
   intro k
   induction k with
   |zero=>exact ⟨oZ,fun i hi=>absurd hi (nL i)⟩
   |succ k ihk=>
    have hc:=om (f k);refine ⟨?_,fun i hi=>?_⟩
    .show k+1<=bj _ k+cnt (f k);omega
    .show kids (f i)<bj _ k+cnt (f k)
     by_cases e:i<k
     .have:=ihk.2 i e;omega
     .obtain rfl:i=k:=by omega
      omega
  have hk':bj (fun i=>cnt (f i)) len<=1000000:=hk
  have hln:len<=1000000:=lT (h1 len).1 hk';have HKi:Hid (∀i,i<len->kids (f i)<=1000000):=fun i hi=>by have:=(h1 len).2 i hi;omega
  have HT:Hid (∀W,Below w.heap.size w W->ay W (.mk v nm a len cap f)):=fun W hW=>hT.below hW
  have HI:Hid (∀(i:Nat) (w:World),ay w (f i)->kids (f i)<=1000000->Calls prog 81 #[.slice (f i).a (f i).len (f i).cap] w fun e w'=>∃T',e=.returned (.slice T'.a T'.len T'.cap)/\ay w' T'/\a9 T'=a9 (f i)/\bl w.heap.size T'/\Below w.heap.size w w'):=fun i=>ih i
  have HC:=hid (xb (.mk v nm a len cap f) w hT hln)
  show Calls _ _ #[.slice a len cap] _ _
  clear hT ih h1 hk hk'
  go_enter Tryz.func81,Tryz.ntmps81
  go_wp2_with fail;refine HC.o.mono ?_;rintro e w1 ⟨a1,cap1,rfl,hr1,hb1⟩;have HB1:=hid hb1;have HR1:=hid hr1;clear hr1 hb1 HC;go_wp2_with fail
  go_loopw [9] (fun x wr=>∃(i:Nat) (ts:List Tm),i<=len/\x=iV (i:Int)/\Nq w1.heap.size wr f i len ts/\wr.ownsRow w.heap.size 67 3 (.slice a1 len cap1) len (cy ts)/\Below w.heap.size w wr/\w1.heap.size<=wr.heap.size) (fun x _=>len-(intOf x).toNat)
  case atStart=>exact ⟨0,(List.range len).map f,oZ,rfl,⟨by simp,fun j X hj=>absurd hj (nL j),fun j X _ hX=>by
   rw[List.getElem?_map]at hX
   by_cases hj:j<len
   .simp[hj]at hX;exact hX.symm
   .simp[hj]at hX⟩,HR1.o,HB1.o,lZ⟩
  case round=>
   obtain ⟨i,ts,hi,rfl,hts,hrow,hb,hsr⟩:=hrel;have HTs:=hid hts;have HRow:=hid hrow;have HB:=hid hb;clear hts hrow hb
   by_cases hlt:i<len
   case neg=>
    have hI: ¬((i:Int)<(len:Int)):=by omega
    obtain rfl:i=len:=by omega
    go_wp2_with fail;go_ret
    have hall: ∀X∈ts,ay wr X/\bl w1.heap.size X:=fun X hX=>by
     obtain ⟨j,hj⟩:=List.getElem?_of_mem hX;have hjl:j<i:=by have:=(List.getElem?_eq_some_iff.1 hj).1;have:=HTs.o.len;omega
     have:=HTs.o.new j X hjl hj;exact ⟨this.1,this.2.2⟩
    refine ⟨.mk v nm a1 i cap1 (fun j=>ts.getD j .nil),rfl,Og HRow.o HTs.o.len (HT.o wr HB.o).1 (fun X hX=>(hall X hX).1) (HT.o wr HB.o).2.1,?_,?_,HB.o⟩
    .rw[ip,ip (Tm.mk v nm a i cap f)]
     show Tm.mk v nm none i 0 _=Tm.mk v nm none i 0 _
     congr 1
     funext j
     show (if j<i then a9 (ts.getD j .nil)else .nil)=(if j<i then a9 (f j)else .nil)
     by_cases hj:j<i
     .rw[if_pos hj,if_pos hj]
      have hjl:j<ts.length:=by rw[HTs.o.len];exact hj
      rw[show ts.getD j .nil=ts[j]from by simp[List.getD,gE hjl]]
      exact (HTs.o.new j _ hj (gE hjl)).2.1
     .rw[if_neg hj,if_neg hj]
    .refine ⟨fun h0=>?_,fun j hj=>?_⟩
     .obtain ⟨a',cp',e',_,hnone,hsome⟩:=ak HRow.o
      cases e'
      cases a1 with
      |none=>have:=(hnone rfl).1;omega
      |some ad=>
       obtain ⟨g,rfl⟩:=hsome ad rfl;exact ⟨g,0,rfl,(HRow.o.lt g rfl).1⟩
     .have hjl:j<ts.length:=by rw[HTs.o.len];exact hj
      show bl w.heap.size (ts.getD j .nil)
      rw[show ts.getD j .nil=ts[j]from by simp[List.getD,gE hjl]]
      exact (hall _ (List.getElem_mem hjl)).2.mono HB1.o.size
   have hI:(i:Int)<(len:Int):=by omega
   have hit:i<ts.length:=by rw[HTs.o.len];exact hlt
   have hfi:ts[i]=f i:=HTs.o.old i _ lZ (gE hit)
   obtain ⟨g,rfl⟩: ∃g,a1=some (dZ g 0):=by
    obtain ⟨a',cp',e',_,hnone,hsome⟩:=ak HRow.o;cases e'
    cases a1 with
    |none=>have:=(hnone rfl).1;omega
    |some ad=>
     obtain ⟨g,rfl⟩:=hsome ad rfl;exact ⟨g,rfl⟩
   have hg1:g<w1.heap.size:=(HR1.o.lt g rfl).2;have hgw:w.heap.size<=g:=(HR1.o.lt g rfl).1;have hf:=km ts i hit;rw[hfi]at hf;have hln3:=HRow.o.1;have c0:=(HRow.o.cellAt (i*3) (by omega)).trans hf.1
   have c1:=(HRow.o.cellAt (i*3+1) (by omega)).trans hf.2.1
   have c2:=(HRow.o.cellAt (i*3+2) (by omega)).trans hf.2.2
   have HBa:Hid (Below wr.heap.size wr (wr.alloc (.cells #[iV (f i).v,.string (f i).nm,.slice (f i).a (f i).len (f i).cap] 67))):=bA;obtain ⟨a0,a1',a2,_⟩:=ae (hZ wr (.cells #[iV (f i).v,.string (f i).nm,.slice (f i).a (f i).len (f i).cap] 67));have HCi:Hid (∀W,Below wr.heap.size wr W->Calls prog 81 #[.slice (f i).a (f i).len (f i).cap] W fun e w'=>∃T',e=.returned (.slice T'.a T'.len T'.cap)/\ay w' T'/\a9 T'=a9 (f i)/\bl W.heap.size T'/\Below W.heap.size W w'):=fun W hW=>HI.o i W ((HT.o W (HB.o.trans (hW.mono HB.o.size))).2.2 i hlt).2 (HKi.o i hlt)
   clear hf;go_wp2_with fail;generalize wr.alloc (.cells #[iV (f i).v,.string (f i).nm,.slice (f i).a (f i).len (f i).cap] 67)=wc at*;refine (HCi.o wc HBa.o).mono ?_;rintro e w2 ⟨X,rfl,hX1,hX2,hX3,hb2⟩;have HBc:=hid (HBa.o.trans (hb2.mono HBa.o.size));have HB2:=hid (HB.o.trans (HBc.o.mono HB.o.size));have hrow2:w2.ownsRow w.heap.size 67 3 (sZ g len cap1) len (cy ts):=bc HRow.o fun k e=>HBc.o.block k (HRow.o.lt k e).2
   have hgw2:g<wr.heap.size:=by omega
   have hc2:=(HBc.o.cell (p:=(dZ g (i*3+2))) hgw2).trans c2
   have hfz:w2.frozen? (dZ g (i*3+2))=false:=by
    rcases hrow2.2 with ⟨h',_⟩| ⟨g',cap',cur,h',_,hg',_⟩
    .cases h'
    .cases h'
     simp[World.frozen?,hg']
   have hcv:=Sv hX2
   have HFin:Hid (Nq w1.heap.size (w2.setCell (dZ g (i*3+2)) (.slice X.a X.len X.cap)) f (i+1) len (ts.set i X)/\(w2.setCell (dZ g (i*3+2)) (.slice X.a X.len X.cap)).ownsRow w.heap.size 67 3 (sZ g len cap1) len (cy (ts.set i X))/\Below w.heap.size w (w2.setCell (dZ g (i*3+2)) (.slice X.a X.len X.cap))/\w1.heap.size<=(w2.setCell (dZ g (i*3+2)) (.slice X.a X.len X.cap)).heap.size):=by
    have hgs:=af (W:=w2) g (i*3+2) (.slice X.a X.len X.cap);have hsz2:=lT hsr HBc.o.size;refine ⟨?_,Hx hrow2 HTs.o.len hit X (by rw[hfi];exact hcv.1) (by rw[hfi];exact hcv.2),HB2.o.grown hgs HB2.o.size (fun k e=>by have:=oj e;omega),by simpa using hsz2⟩
    have ha:=hX3.mono (lT hsr HBa.o.size);refine Nq.set (Nq.keep HTs.o fun Z hZ hA=>(hZ.below HBc.o).grown hgs fun k e=>?_) ⟨hX1.grown hgs fun k e=>?_,hX2,ha⟩
    .obtain rfl:=oj e;exact hA.nb hg1
    .obtain rfl:=oj e;exact ha.nb hg1
   clear hX1 hX2 hX3 hb2 hcv hrow2 c0 c1 c2 HCi a0 a1' a2;go_wp2_with fail;go_roundw
   case rel=>exact ⟨i+1,ts.set i X,by omega,by go_num,HFin.o.1,HFin.o.2.1,HFin.o.2.2.1,HFin.o.2.2.2⟩
   case measure=>simp[intOf];omega
theorem Pp {lo:Nat} {w:World} {v:Value} {an:List Tm} (hr:w.ownsRow lo 87 1 v an.length (an.map lh)) {i:Nat} (hi:i<an.length): ∃g cap,v=.slice (some ⟨g,0,none⟩) an.length cap/\w.cell? ⟨g,i,none⟩=some (.slice an[i].a an[i].len an[i].cap):=by
 obtain ⟨a,cap,rfl,_,hnone,hsome⟩:=ak hr
 cases a with
 |none=>have:=(hnone rfl).1;omega
 |some ad=>
  obtain ⟨g,rfl⟩:=hsome ad rfl;refine ⟨g,cap,rfl,(hr.cellAt i (by simpa using hi)).trans ?_⟩
  simp[hi,lh]
theorem Db {lo:Nat} {v:Value} {an:List Tm} (w:World) (hr:w.ownsRow lo 87 1 v an.length (an.map lh)) (hT: ∀A∈an,ay w A/\kids A<=1000) (hl:an.length<=40):
 Calls prog 75 #[v] w fun e w'=>e=.returned (.bool true)/\Below w.heap.size w w':=by
 obtain ⟨a,cap,rfl,_,_,_⟩:=ak hr;have HR:Hid (∀W,Below w.heap.size w W->W.ownsRow lo 87 1 (.slice a an.length cap) an.length (an.map lh)):=fun W hW=>bc hr fun k e=>hW.block k (hr.lt k e).2
 have HT:Hid (∀W,Below w.heap.size w W->∀i (hi:i<an.length),ay W an[i]/\kids an[i]<=1000):=fun W hW i hi=>⟨(hT _ (List.getElem_mem hi)).1.below hW,(hT _ (List.getElem_mem hi)).2⟩
 clear hr hT
 go_enter Tryz.func75,Tryz.ntmps75
 go_wp2_with fail
 go_loopw [3,8] (fun x y wr=>∃i k:Nat,i<=an.length/\y=iV (i:Int)/\x=iV (k:Int)/\44739242<=k+1000*i/\k<=44739242/\Below w.heap.size w wr) (fun _ y _=>an.length-(intOf y).toNat)
 case atStart=>exact ⟨0,44739242,oZ,rfl,rfl,by omega,lZ,bR⟩
 case round=>
  obtain ⟨i,k,hi,rfl,rfl,hk1,hk2,hb⟩:=hrel;have HB:=hid hb;have Hk:=hid hk1;clear hb hk1
  by_cases hlt:i<an.length
  case neg=>
   have hI: ¬((i:Int)<(an.length:Int)):=by omega
   go_wp2_with fail;go_ret;exact ⟨rfl,HB.o⟩
  have hI:(i:Int)<(an.length:Int):=by omega
  obtain ⟨g,cap',hav,hcl⟩:=Pp (HR.o wr HB.o) hlt;cases hav;obtain ⟨hti,hki⟩:=HT.o wr HB.o i hlt;have HC:Hid (Calls prog 105 #[iV (k:Int),iV 65536,.slice an[i].a an[i].len an[i].cap] wr fun e w'=>e=.returned (iV ((k-kids an[i]:Nat):Int))/\Below wr.heap.size wr w'):=I4 an[i] k 65536 wr hti (by have:=Hk.o;omega) (by omega) hk2 lZ
  obtain ⟨q,hq⟩: ∃q,q=k-kids an[i]:=⟨_,rfl⟩;rw[<-hq]at HC;have HQ:Hid (44739242<=q+1000*(i+1)/\q<=44739242):=by rw[Hid];have:=Hk.o;omega
  have hq0: ¬((q:Int)<0):=by omega
  generalize an[i]=A at*;clear hti hki hq;go_wp2_with fail;refine HC.o.mono ?_;rintro e w1 ⟨rfl,hb1⟩;have HB1:=hid (HB.o.trans (hb1.mono HB.o.size));clear hb1 HC hcl;go_wp2_with fail;refine ⟨?_,?measure⟩
  .first
   |exact ⟨i+1,q,by omega,by go_num,rfl,HQ.o.1,HQ.o.2,HB1.o⟩
   | ((repeat apply Exists.intro);first|exact ⟨⟨i+1,q,by omega,by go_num,rfl,HQ.o.1,HQ.o.2,HB1.o⟩,rfl⟩|exact ⟨⟨i+1,q,by omega,by go_num,rfl,HQ.o.1,HQ.o.2,HB1.o⟩,rfl,rfl⟩|exact ⟨⟨i+1,q,by omega,by go_num,rfl,HQ.o.1,HQ.o.2,HB1.o⟩,rfl,rfl,rfl⟩|exact ⟨⟨i+1,q,by omega,by go_num,rfl,HQ.o.1,HQ.o.2,HB1.o⟩,rfl,rfl,rfl,rfl⟩)
  case measure=>simp[intOf];omega
theorem Si {W:World} {k:Nat} {r:Rn} {t:TypeId} (v:Value) (h:W.heap[k]?=some (.cells (mC r) t)):(W.setCell ⟨k,0,none⟩ v).heap[k]?=some (.cells (mC { r with hv:=v}) t):=by
 simp only[World.setCell,Array.getElem?_modify];simp[h,mC]
theorem Sh {W:World} {k:Nat} {r:Rn} {t:TypeId} (v:Value) (h:W.heap[k]?=some (.cells (mC r) t)):(W.setCell ⟨k,1,none⟩ v).heap[k]?=some (.cells (mC { r with gv:=v}) t):=by
 simp only[World.setCell,Array.getElem?_modify];simp[h,mC]
theorem Sf {W:World} {k:Nat} {r:Rn} {t:TypeId} (v:Value) (h:W.heap[k]?=some (.cells (mC r) t)):(W.setCell ⟨k,3,none⟩ v).heap[k]?=some (.cells (mC { r with cv:=v}) t):=by
 simp only[World.setCell,Array.getElem?_modify];simp[h,mC]
theorem Se {W:World} {k:Nat} {r:Rn} {t:TypeId} (v:Value) (h:W.heap[k]?=some (.cells (mC r) t)):(W.setCell ⟨k,4,none⟩ v).heap[k]?=some (.cells (mC { r with tv:=v}) t):=by
 simp only[World.setCell,Array.getElem?_modify];simp[h,mC]
theorem Sd {W:World} {k:Nat} {r:Rn} {t:TypeId} (v:Value) (h:W.heap[k]?=some (.cells (mC r) t)):(W.setCell ⟨k,5,none⟩ v).heap[k]?=some (.cells (mC { r with qv:=v}) t):=by
 simp only[World.setCell,Array.getElem?_modify];simp[h,mC]
theorem Sc {W:World} {k:Nat} {r:Rn} {t:TypeId} (v:Value) (h:W.heap[k]?=some (.cells (mC r) t)):(W.setCell ⟨k,8,none⟩ v).heap[k]?=some (.cells (mC { r with av:=v}) t):=by
 simp only[World.setCell,Array.getElem?_modify];simp[h,mC]
theorem ee {W W1:World} {lo n z k i:Nat} {t:TypeId} {v x:Value} {xs:List Value} (h:W.ownsRow lo t z v n xs) (hk:k<lo) (hB:Below W.heap.size W W1):(W1.setCell ⟨k,i,none⟩ x).ownsRow lo t z v n xs:=by
 have h1:W1.ownsRow lo t z v n xs:=bc h fun g e=>hB.block g (h.lt g e).2
 exact bc h1 fun g e=>(af (W:=W1) k i x).block g (h1.lt g e).2 (fun e'=>by have:=oj e';have:=(h1.lt g e).1;omega)
theorem Nj {A B:Tm} (h:a9 A=a9 B):br A=br B:=by
 rw[ip A,ip B]at h
 injection h with _ _ _ h4 _ h6
 unfold br az;rw[<-h4];simp only[List.map_map]
 apply List.map_congr_left
 intro i hi;have hi':i<A.len:=List.mem_range.1 hi;have:=congrFun h6 i;rw[if_pos hi',if_pos (by omega)]at this
 exact this
end
end Go.Proofs.YtmggaclaoefdaabGreat
