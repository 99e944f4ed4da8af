/- Part of the proof. -/
import Derived.Test.YtmggaclaoefdaabGreatGAO
namespace Go.Proofs.YtmggaclaoefdaabGreat
open Go.RowKit Go.Proofs.Tryz
set_option linter.unusedVariables false
set_option linter.unusedSimpArgs false
set_option maxRecDepth 100000
set_option maxHeartbeats 8000000
theorem xw {b m:Nat} {tv:Value} {N:Int} {lo n:Nat} {σ:Sg} {L:Int} (w:World) (hS:VS w b m tv N lo n σ L):
 Calls prog 121 #[.pointer (some ⟨b,0,none⟩)] w fun e w'=>e=.returned (.tuple #[])/\VS w' b m tv N lo n σ (4000:Nat)/\G b w w':=by
 have HS:=hid hS;obtain ⟨v0,v1,v2,k0,k1,k2⟩:=ae hS.blk;have HX:=hid (Jt (c:=.int .i64 4000) hS.blk);have HG:Hid (G b w (w.setCell (dZ b 2) (.int .i64 4000))):=G.set b w 2 _;clear hS
 go_enter Tryz.func121,Tryz.ntmps121
 go_wp2_with fail
 go_end0
 exact ⟨rfl,HS.o.atB HG.o HX.o,HG.o⟩
theorem Fr {w:World} {lo:Nat} {tv:Value} {tr:List Int} (h:w.ownsRow lo 3 1 tv tr.length (tr.map (Value.int .i64))): ∃a cp,tv=.slice a tr.length cp/\tr.length<=cp/\cp<=maxLen/\∀k (hk:k<tr.length),∃g,a=some ⟨g,0,none⟩/\w.cell? ⟨g,k,none⟩=some (.int .i64 tr[k]):=by
 rcases h.2 with ⟨rfl,h0⟩| ⟨g,cap,cur,rfl,hlo,hg,hnc,hcm,hsz,htk⟩
 .exact ⟨none,0,by rw[h0],by omega,by unfold maxLen;omega,fun k hk=>by omega⟩
 .exact ⟨some (dZ g 0),cap,rfl,hnc,hcm,fun k hk=>⟨g,rfl,by
   rw[h.cellAt k (by omega)];simp[hk]⟩⟩
theorem L3 {b m:Nat} {tv:Value} {N:Int} {lo n:Nat} {σ:Sg} {L:Int} {tr:List Int} (w:World) (hS:VS w b m tv N lo n σ L) (hT:wo w lo tv tr σ):
 Calls prog 149 #[.pointer (some ⟨b,0,none⟩)] w fun e w'=>e=.returned (.int .i64 tr.length)/\w'=w:=by
 obtain ⟨a,cp,rfl,h1,h2,_⟩:=Fr hT.1;obtain ⟨v0,v1,v2,k0,k1,k2⟩:=ae hS.blk;clear hS hT
 go_enter Tryz.func149,Tryz.ntmps149
 go_wp2_with fail;go_ret;exact ⟨rfl,rfl⟩
def pc (σ:Sg) (l:List Int):Sg:=fun v=>if v∈l then σ v else none
def del (σ:Sg) (i:Int):Sg:=fun j=>if j=i then none else σ j
theorem gt.dropped {w':World} {m n:Nat} {σ:Sg} {D:DataW Value} (hm:Maps.IsMap D) (hs: ∀i:Int,0<=i->i<=1000000->Maps.has D (.int .i64 i)=(σ i).isSome/\∀T,σ i=some T->∀z,D.atKey (.int .i64 i) z=.held T.val) {i:Int} (ho:w'.ownsMap prog 3 n8 m n (D.del (.int .i64 i))):gt w' m n (del σ i):=by
 refine ⟨_,ho,hm.del _,fun j j0 j1=>?_⟩
 by_cases e:j=i
 .subst e
  exact ⟨by rw[Maps.has_del_same];simp[del],fun T' hT' z=>by simp[del]at hT'⟩
 .have hne:(Lit.int .i64 j)≠.int .i64 i:=fun h=>e (by injection h)
  obtain ⟨g1,g2⟩:=hs j j0 j1;refine ⟨by rw[Maps.has_del_other hne,g1,del,if_neg e],fun T' hT' z=>?_⟩
  rw[Maps.atKey_del_other hne];rw[del,if_neg e]at hT';exact g2 T' hT' z
def dl (σ:Sg) (l:List Int):Sg:=fun v=>if v∈l then none else σ v
theorem Kn (σ:Sg):dl σ []=σ:=by funext v;simp[dl]
theorem Pi (σ:Sg) (l:List Int) (j:Nat) (h:j<l.length):del (dl σ (l.take j)) l[j]=dl σ (l.take (j+1)):=by
 funext v
 unfold del dl;rw[List.take_succ_eq_append_getElem h]
 by_cases e:v=l[j]
 .rw[if_pos e,if_pos (List.mem_append.2 (.inr (by simp[e])))]
 .rw[if_neg e]
  by_cases h2:v∈l.take j
  .rw[if_pos h2,if_pos (List.mem_append.2 (.inl h2))]
  .rw[if_neg h2,if_neg (fun h'=>by rcases List.mem_append.1 h' with h'|h';(·exact h2 h');(·simp at h';exact e h'))]
theorem Km {σ:Sg} {tr:List Int} (hn:tr.Nodup) (hs: ∀v,(σ v).isSome=true↔v∈tr) (k:Nat):dl σ (tr.drop k)=pc σ (tr.take k):=by
 funext v
 unfold dl pc
 by_cases h1:v∈tr.take k
 .have h2:v ∉ tr.drop k:=fun h2=>by
   rw[<-List.take_append_drop k tr,List.nodup_append]at hn;exact hn.2.2 v h1 v h2 rfl
  rw[if_pos h1,if_neg h2]
 .rw[if_neg h1]
  by_cases h2:v∈tr.drop k
  .rw[if_pos h2]
  .rw[if_neg h2]
   have:v ∉ tr:=fun h=>by
    rw[<-List.take_append_drop k tr]at h
    rcases List.mem_append.1 h with h|h
    .exact h1 h
    .exact h2 h
   cases hv:σ v with
   |none=>rfl
   |some U=>exact absurd ((hs v).1 (by rw[hv];rfl)) this
theorem B4 (g ln cp k:Nat) (h:k<=ln) (hc:ln<=cp): ∃o,(∀W:World,(Instr.slice 28 (.slice (some ⟨g,0,none⟩) ln cp) (some (.int .i64 k)) none none).run prog W=.ok (.slice (some ⟨g,o,none⟩) (ln-k) (cp-k)) W)/\(k<ln->o=k):=by
 obtain ⟨i0,hi,hz0,hz1,hz2⟩:=info_parts Tryz.info3;have h':(k:Int)<=(ln:Int):=by omega
 refine ⟨if cp=k then 0 else k,fun W=>?_,fun h1=>by rw[if_neg (by omega)]⟩
 simp[Instr.slice,run_underlying Tryz.underlying28,Instr.sliceBounds,run_sliceBound,sizeOf,typeInfo,hi,hz1,h',Addr.add]
 by_cases h1:cp=k
 .rw[if_pos h1,if_pos h1]
 .rw[if_neg h1,if_neg h1]
  by_cases h2:k=0
  .rw[if_pos h2,h2]
  .rw[if_neg h2]
theorem J8 (g ln cp k:Nat) (h:k<=ln) (hc:ln<=cp) (W:World):(Instr.slice 28 (.slice (some ⟨g,0,none⟩) ln cp) none (some (.int .i64 k)) none).run prog W=.ok (.slice (some ⟨g,0,none⟩) k cp) W:=by
 obtain ⟨i0,hi,hz0,hz1,hz2⟩:=info_parts Tryz.info3;have h':(k:Int)<=(cp:Int):=by omega
 simp[Instr.slice,run_underlying Tryz.underlying28,Instr.sliceBounds,run_sliceBound,sizeOf,typeInfo,hi,h',Addr.add]
theorem B5 (W:World):(Instr.slice 28 (.slice none 0 0) (some (.int .i64 0)) none none).run prog W=.ok (.slice none 0 0) W:=by
 obtain ⟨i0,hi,hz0,hz1,hz2⟩:=info_parts Tryz.info3;simp[Instr.slice,run_underlying Tryz.underlying28,Instr.sliceBounds,run_sliceBound,sizeOf,typeInfo,hi,Addr.add]
theorem J9 (W:World):(Instr.slice 28 (.slice none 0 0) none (some (.int .i64 0)) none).run prog W=.ok (.slice none 0 0) W:=by
 obtain ⟨i0,hi,hz0,hz1,hz2⟩:=info_parts Tryz.info3;simp[Instr.slice,run_underlying Tryz.underlying28,Instr.sliceBounds,run_sliceBound,sizeOf,typeInfo,hi,Addr.add]
theorem VS.back {w w1:World} {b m:Nat} {g cp k:Nat} {N:Int} {lo n:Nat} {σ σ':Sg} {L:Int} {tr:List Int} (hS:VS w b m (.slice (some ⟨g,0,none⟩) tr.length cp) N lo n σ L) (hT:wo w lo (.slice (some ⟨g,0,none⟩) tr.length cp) tr σ) (hk:k<=tr.length) (hM:gt w1 m n σ') (hσ:σ'=pc σ (tr.take k)) (hg:w.grownBy w1 (some m)):
 VS (w1.setCell ⟨b,1,none⟩ (.slice (some ⟨g,0,none⟩) k cp)) b m (.slice (some ⟨g,0,none⟩) k cp) N lo n (pc σ (tr.take k)) L/\wo (w1.setCell ⟨b,1,none⟩ (.slice (some ⟨g,0,none⟩) k cp)) lo (.slice (some ⟨g,0,none⟩) k cp) (tr.take k) (pc σ (tr.take k))/\GF b m (.slice (some ⟨g,0,none⟩) tr.length cp) w (w1.setCell ⟨b,1,none⟩ (.slice (some ⟨g,0,none⟩) k cp)):=by
 have hset:=G.set b w1 1 (sZ g k cp);have hgb:=hS.tb g rfl;have hgl:g<w.heap.size:=hS.trail_lt g rfl
 have hGF:GF b m (sZ g tr.length cp) w (w1.setCell (dZ b 1) (sZ g k cp)):=
  ⟨hset.os.trans hg.os,hset.tape.trans hg.tape,hset.output.trans hg.output,lT hg.size hset.size,fun j hj h1 h2 _=>(hset.block j (by have:=hg.size;omega) (by simpa using h1)).trans (hg.block j hj (by simpa using h2))⟩
 have hgw:(w1.setCell (dZ b 1) (sZ g k cp)).heap[g]?=w.heap[g]?:=(hset.block g (by have:=hg.size;omega) (by simpa using hgb.1)).trans (hg.block g hgl (by simpa using hgb.2))
 have hrow:(w1.setCell (dZ b 1) (sZ g k cp)).ownsRow lo 3 1 (sZ g k cp) (tr.take k).length ((tr.take k).map (Value.int .i64)):=by
  have hl:(tr.take k).length=k:=by rw[List.length_take];omega
  rcases hT.1.2 with ⟨h,_⟩| ⟨g',cap,cur,he,hlo,hgg,hnc,hcm,hsz,htk⟩
  .simp at h
  .simp only[Value.slice.injEq,Option.some.injEq,Addr.mk.injEq,and_true,true_and]at he
   obtain ⟨rfl,rfl⟩:=he;rw[hl];refine ⟨by rw[List.length_map,hl,Nat.mul_one],.inr ⟨g,cp,cur,rfl,hlo,hgw.trans hgg,by omega,hcm,hsz,?_⟩⟩
   rw[List.map_take,<-htk,List.take_take]
   congr 1
   omega
 have hsub: ∀v U,pc σ (tr.take k) v=some U->σ v=some U:=fun v U h=>by
  unfold pc at h
  split at h
  .exact h
  .simp at h
 refine ⟨⟨Qh ((hg.block b hS.lt (by simpa using hS.ne)).trans hS.blk),?_,⟨tr.take k,hrow,?_⟩,hS.ne,fun g' h=>hS.tb g' h,hS.lob,fun v T h=>?_,fun v T h=>hS.dec v T (hsub v T h),hS.big⟩,⟨hrow,?_,fun v=>?_,fun v h=>hT.2.2.2 v (List.mem_of_mem_take h)⟩,hGF⟩
 .rw[<-hσ];exact hM.kept hset (fun e=>hS.ne (oj e).symm)
 .obtain ⟨tr0,h1,h2⟩:=hS.own
  have:=(uj hT.1 h1).1;rw[List.length_take];omega
 .obtain ⟨h1,h2,h3,h4,h5⟩:=hS.trm v T (hsub v T h)
  exact ⟨h1.gf hGF h3 h4 h5,h2,h3,h4,fun g' hg'=>h5 g' hg'⟩
 .exact hT.2.1.sublist (List.take_sublist k tr)
 .unfold pc
  constructor
  .intro h
   split at h
   .assumption
   .simp at h
  .intro h
   rw[if_pos h];exact (hT.2.2.1 v).2 (List.mem_of_mem_take h)
theorem Cp {b m:Nat} {tv:Value} {N:Int} {lo n:Nat} {σ:Sg} {L:Int} {tr:List Int} (k:Nat) (w:World) (hS:VS w b m tv N lo n σ L) (hT:wo w lo tv tr σ) (hk:k<=tr.length):
 Calls prog 145 #[.pointer (some ⟨b,0,none⟩),.int .i64 k] w fun e w'=>e=.returned (.tuple #[])/\∃tv':Value,tv'.ownBlock=tv.ownBlock/\VS w' b m tv' N lo n (pc σ (tr.take k)) L/\wo w' lo tv' (tr.take k) (pc σ (tr.take k))/\GF b m tv w w':=by
 obtain ⟨a,cp,rfl,hc1,hc2,hcell⟩:=Fr hT.1;have HS:Hid (VS w b m (.slice a tr.length cp) N lo n σ L):=hS;have HT:Hid (wo w lo (.slice a tr.length cp) tr σ):=hT;obtain ⟨v0,v1,v2,k0,k1,k2⟩:=ae hS.blk;have hm:m<w.heap.size:=hS.map.lt;have hbl:=hS.lt;have hne:=hS.ne;have hcm:cp<=2 ^ 63-1:=hc2
 cases a with
 |none=>
  have h0:tr= []:=by
   cases tr with
   |nil=>rfl
   |cons x r=>obtain ⟨g,h,_⟩:=hcell 0 (by simp);simp at h
  subst h0;have hk0:k=0:=by simpa using hk
  subst hk0
  have hcp:cp=0:=by
   rcases hT.1.2 with ⟨h,_⟩| ⟨g',cap,cur,he,_⟩
   .simp at h;exact h
   .simp at he
  subst hcp;have hf:=B5;have ht:=J9;have HX:Hid ((w.setCell (dZ b 1) nZ).heap[b]?=some (.cells #[.map (some m),nZ,.int .i64 L] 132)):=Qh (c:=nZ) hS.blk;have HG:Hid (G b w (w.setCell (dZ b 1) nZ)):=G.set b w 1 _
  have HE:Hid (pc σ (([]:List Int).take 0)=σ):=by
   have:=Km hT.2.1 hT.2.2.1 0;rw[Hid,<-this];exact Kn σ
  clear hS hT hk hcell;simp only[List.length_nil]at*
  go_enter Tryz.func145,Tryz.ntmps145
  go_wp2_with fail
  go_loopw [13] (fun i wr=>i=.int .i64 0/\wr=w) (fun _ _=>0)
  case atStart=>exact ⟨rfl,rfl⟩
  case round=>
   obtain ⟨rfl,rfl⟩:=hrel;go_wp2_with fail
   go_end0
   refine ⟨rfl,nZ,rfl,?_,?_,GF.ofG HG.o⟩
   .rw[HE.o];exact HS.o.atB HG.o HX.o
   .rw[HE.o]
    exact ⟨HT.o.1.kept HG.o (.inl rfl),HT.o.2⟩
 |some ad=>
  have hg0: ∃g,ad=(dZ g 0):=by
   rcases hT.1.2 with ⟨h,_⟩| ⟨g',cap,cur,he,_⟩
   .simp at h
   .simp at he;exact ⟨g',he.1⟩
  obtain ⟨g,rfl⟩:=hg0;obtain ⟨o,hf,hof⟩:=B4 g tr.length cp k hk hc1;have ht:=J8 g tr.length cp k hk hc1
  have HCell:Hid (∀j (hj:k+j<tr.length),w.cell? (dZ g (k+j))=some (.int .i64 tr[k+j])):=fun j hj=>by
   obtain ⟨g',h1,h2⟩:=hcell (k+j) hj;simp at h1;subst h1;exact h2
  have hgm:=(hS.tb g rfl).2;have HD0:Hid (gt w m n (dl σ ((tr.drop k).take 0))):=by rw[Hid,List.take_zero,Kn];exact hS.map
  have hkl:k<=tr.length:=hk;clear hS hT hk hcell
  go_enter Tryz.func145,Tryz.ntmps145
  go_wp2_with fail
  go_loopw [13] (fun i wr=>∃j:Nat,j<=tr.length-k/\i=.int .i64 j/\gt wr m n (dl σ ((tr.drop k).take j))/\w.grownBy wr (some m)) (fun i _=>tr.length-k-(intOf i).toNat)
  case atStart=>exact ⟨0,oZ,rfl,HD0.o,G.refl _ _⟩
  case round=>
   obtain ⟨j,hj,rfl,hMj,hGj⟩:=hrel;have HGj:Hid (w.grownBy wr (some m)):=hGj;have r0:wr.cell? (dZ b 0)=some (.map (some m)):=hGj.cell v0 (by simpa using hne)
   have r1:wr.cell? (dZ b 1)=some (sZ g tr.length cp):=hGj.cell v1 (by simpa using hne)
   have rf1:wr.frozen? (dZ b 1)=false:=(World.frozen?_of_block (hGj.block b hbl (by simpa using hne))).trans k1
   have HMj:Hid (gt wr m n (dl σ ((tr.drop k).take j))):=hMj
   by_cases hlt:j<tr.length-k
   case neg=>
    have hje:j=tr.length-k:=by omega
    have HMe:Hid (gt wr m n (pc σ (tr.take k))):=by
     have:=HMj.o;rw[hje,List.take_of_length_le (by rw[List.length_drop];omega),Km HT.o.2.1 HT.o.2.2.1]at this
     exact this
    clear hMj hGj hje;go_wp2_with fail
    go_end0
    obtain ⟨h1,h2,h3⟩:=VS.back HS.o HT.o hkl HMe.o rfl HGj.o;exact ⟨rfl,sZ g k cp,rfl,h1,h2,h3⟩
   have hlj:k+j<tr.length:=by omega
   have ho:o=k:=hof (by omega)
   have hc:wr.cell? (dZ g (o+j))=some (.int .i64 tr[k+j]):=by rw[ho];exact hGj.cell (HCell.o j hlj) (by simpa using hgm)
   have hr:=HT.o.2.2.2 tr[k+j] (List.getElem_mem _)
   have HNx:Hid (del (dl σ ((tr.drop k).take j)) tr[k+j]=dl σ ((tr.drop k).take (j+1))):=by
    have:=Pi σ (tr.drop k) j (by rw[List.length_drop];omega)
    rw[List.getElem_drop]at this;exact this
   obtain ⟨D,hD,hIs,hs⟩:=hMj;have HIs:Hid (Maps.IsMap D):=hIs;have HSs:Hid (∀i:Int,0<=i->i<=1000000->Maps.has D (.int .i64 i)=(dl σ ((tr.drop k).take j) i).isSome/\∀T,dl σ ((tr.drop k).take j) i=some T->∀z,D.atKey (.int .i64 i) z=.held T.val):=hs;have HDD:Hid (wr.ownsMap prog 3 n8 m n D):=hD;have HKy:=pk hr.1 hr.2;clear hD hIs hs hGj ho;generalize tr[k+j]=q at*;go_wp2_with (at_delete;refine wpList_delete_own _ rfl _ _ 130 3 rfl 67 il Tryz.underlying130 n8 m n D rfl HDD.o _ _ rfl HKy ?_;intro w1 hown1 hturn1);go_roundw
   case rel=>exact ⟨j+1,by omega,by go_num,by rw[<-HNx.o];exact gt.dropped HIs.o HSs.o hown1,G.trans HGj.o hturn1.grown⟩
   case measure=>simp[intOf];omega
structure Sr where
 av:Value
 fin:Int
 st:Int
 P:Pg
 limit:Int
 asked:Int
 last:Int
 b:Nat
 first:Value
 cv:Value
def Sr.cells (r:Sr):Array Value:= #[r.av,iV r.fin,iV r.st,.slice r.P.a r.P.len r.P.cap,iV r.limit,iV r.asked,iV r.last,.pointer (some ⟨r.b,0,none⟩),r.first,r.cv]
def Dd (w:World) (s:Nat) (r:Sr):Prop:=w.heap[s]?=some (.cells r.cells 97)
theorem Dd.lt {w:World} {s:Nat} {r:Sr} (h:Dd w s r):s<w.heap.size:=(aZ h)
theorem Dd.get {w:World} {s:Nat} {r:Sr} (h:Dd w s r):w.cell? ⟨s,0,none⟩=some r.av/\w.cell? ⟨s,1,none⟩=some (iV r.fin)/\w.cell? ⟨s,2,none⟩=some (iV r.st)/\w.cell? ⟨s,3,none⟩=some (.slice r.P.a r.P.len r.P.cap)/\w.cell? ⟨s,4,none⟩=some (iV r.limit)/\w.cell? ⟨s,5,none⟩=some (iV r.asked)/\w.cell? ⟨s,6,none⟩=some (iV r.last)/\w.cell? ⟨s,7,none⟩=some (.pointer (some ⟨r.b,0,none⟩))/\w.cell? ⟨s,8,none⟩=some r.first/\w.cell? ⟨s,9,none⟩=some r.cv/\∀i,w.frozen? ⟨s,i,none⟩=false:=by
 unfold Dd Sr.cells at h;refine ⟨?_,?_,?_,?_,?_,?_,?_,?_,?_,?_,fun i=>?_⟩ <;> simp[World.cell?,World.frozen?,h]
theorem Dd.kept {w w':World} {s:Nat} {r:Sr} (h:Dd w s r) (hb:w'.heap[s]?=w.heap[s]?):Dd w' s r:=hb.trans h
theorem Dd.set {w:World} {s:Nat} {r r':Sr} (i:Nat) (v:Value) (h:Dd w s r) (hr:r'.cells=r.cells.setIfInBounds i v):Dd (w.setCell ⟨s,i,none⟩ v) s r':=by
 unfold Dd at*;rw[hr];simp only[World.setCell,Array.getElem?_modify];simp[h]
theorem tw (T:Tm) (nm:ByteArray) (n:Nat) (w:World):
 Calls prog 123 #[T.val,.string nm,iV n] w fun e w'=>e=.returned (.bool (gn T nm n))/\Below w.heap.size w w':=by
 show Calls prog 123 #[.agg #[iV T.v,.string T.nm,.slice T.a T.len T.cap],.string nm,iV n] w _
 by_cases h1:T.nm.toList=nm.toList
 .have h1b:=beq_iff_eq.2 h1
  have HR:Hid (gn T nm n=((T.len:Int)==(n:Int))):=by
   rw[Hid];unfold gn;rw[h1b,Bool.true_and]
   by_cases h:T.len=n
   .rw[decide_eq_true h];exact (beq_iff_eq.2 (by omega)).symm
   .rw[decide_eq_false h];exact (bF (by omega)).symm
  clear h1
  go_enter Tryz.func123,Tryz.ntmps123
  go_wp2_with fail;go_ret;exact ⟨by rw[HR.o];rfl,bA⟩
 .have h1b:=bF h1
  have HR:Hid (gn T nm n=false):=by rw[Hid];unfold gn;rw[h1b,Bool.false_and]
  clear h1
  go_enter Tryz.func123,Tryz.ntmps123
  go_wp2_with fail;go_ret;exact ⟨by rw[HR.o];rfl,bA⟩
theorem Ou {s:Nat} {r:Sr} (w:World) (hr:Dd w s r) (hl:0<=r.last/\r.last<=1000000):
 Calls prog 150 #[.pointer (some ⟨s,0,none⟩)] w fun e w'=>e=.returned (.func (.func 167) #[] #[.pointer (some ⟨w.heap.size,0,none⟩)])/\w'=(w.setCell ⟨s,6,none⟩ (iV (r.last+12))).alloc (.cells #[iV r.last] 3):=by
 have hmf: ∀(fn:Fn) (first cap:Array Value) (w:World),(Instr.makeFunc fn first cap).run prog w=.ok (.func fn first cap) w:=fun _ _ _ _=>rfl
 have hs:=hr.lt;obtain ⟨_,_,_,_,_,_,c6,_,_,_,cf⟩:=hr.get;have f6:=cf 6;clear hr cf
 go_enter Tryz.func150,Tryz.ntmps150
 go_wp2_with fail;go_ret;exact ⟨rfl,rfl⟩
theorem tx (n:Int):a9 (vT n)=vT n:=by
 unfold vT;rw[ip]
 show Tm.mk n ⟨#[]⟩ none 0 0 _=_
 congr 1
def Rw (o:Nat) (last:Int):sd where
 S:=Unit
 I:=fun _ w=>w.heap[o]?=some (.cells #[iV last] 3)
 nx:=fun _ _=>()
 le:=fun _ _=>True
 O:=fun _ v=>fh last v
 M:=fun _=>False
 B:=o+1
theorem Ov (o:Nat) (last:Int):qq (Rw o last):=
 ⟨fun _=>trivial,fun _ _ _ _ _=>trivial,fun _ _=>trivial,fun _ _ _ h hb=>(hb.block o (Nat.lt_succ_self o)).trans h,fun _ h=>h.elim⟩
theorem Lp (o:Nat) (last v:Int) (hl:0<=last/\last<=1000000) (hv:0<=v/\v<=1000000):TC (Rw o last) 167 #[.pointer (some ⟨o,0,none⟩)] v:=by
 intro s w hB hI;have HI:Hid (w.heap[o]?=some (.cells #[iV last] 3)):=hI;have hB:o<w.heap.size:=hB;have HZ:Hid (Below w.heap.size w (w.alloc (.cells #[iV 0,.string ⟨#[]⟩,nZ] 67))):=bA
 have c0:(w.alloc (.cells #[iV 0,.string ⟨#[]⟩,nZ] 67)).cell? (dZ o 0)=some (iV last):=by
  rw[HZ.o.cell (p:=(dZ o 0)) hB];simp[World.cell?,HI.o]
 have hw:IntKind.i64.wrap (last+v)=last+v:=by simp[IntKind.wrap,IntKind.bits,IntKind.signed];omega
 clear hI
 show Calls prog 167 #[iV v,pZ o] w _
 go_enter Tryz.func167,Tryz.ntmps167
 go_wp2_with fail;refine bodyPost_ret (v:=(vT (last+v)).val) ?_ rfl ⟨vT (last+v),rfl,Bw.ofBelow bA,(jZ _ _ hB).trans HI.o,A0 _ _,⟨fun h=>absurd h (Nat.lt_irrefl 0),fun i hi=>absurd hi (nL i)⟩,fun _ _=>tx _⟩
 simp[results,Tryz.results167,go_sem,Tm.val,vT,Tm.v,Tm.nm,Tm.a,Tm.len,Tm.cap]
theorem Lo:Rr 167:=Kl Tryz.func167 rfl rfl
theorem zw {N:Int} {T:Tm} (h:d9 N T): ∀v∈cz T,0<=v/\v<=N:=by
 induction T with
 |nil=>exact h.elim
 |mk v nm a len cap f ih=>
  intro u hu;rw[cz]at hu
  split at hu
  .obtain ⟨l,hl,hul⟩:=List.mem_flatten.1 hu
   obtain ⟨i,hi,rfl⟩:=List.mem_map.1 hl;exact ih i (h.2.2.2.2 i (List.mem_range.1 hi)) u hul
  .rw[List.mem_singleton]at hu;subst hu;exact ⟨h.1,h.2.1⟩
theorem Cd {o:Nat} {last:Int} {T:Tm} (w:World) (hI:w.heap[o]?=some (.cells #[iV last] 3)) (hl:0<=last/\last<=1000000) (hT:ay w T) (hO:d9 12 T):
 Calls prog 151 #[T.val,.func (.func 167) #[] #[.pointer (some ⟨o,0,none⟩)]] w fun e w'=>∃X:Tm,e=.returned X.val/\Below w.heap.size w w'/\ay w' X/\bl w.heap.size X/\a9 X=ap (fh last) T:=by
 refine (Ce (Ov o last) Lo T hO.fo (fun v hv=>Lp o last v hl (by have:=zw hO v hv;omega)) () w (aZ hI) hI hT (NM.old hT (fun k h=>h.elim))).mono ?_
 rintro e w' ⟨X,h1,h2,h3,h4,h5,h6⟩;exact ⟨X,h1,⟨h2.os,h2.tape,h2.output,h2.size,fun k hk=>h2.block k hk (fun h=>h)⟩,h4,h5,h6 () trivial⟩
def bm (P:Pg):qh:=(List.range P.len).map fun i=>(a9 (P.hd i),(az (P.bd i)).map a9)
theorem iy (P:Pg):(bm P).length=P.len:=by simp[bm]
theorem pw (P:Pg) {i:Nat} (h:i<P.len):(bm P).getD i (.nil,[])=(a9 (P.hd i),(az (P.bd i)).map a9):=by
 simp[bm,List.getD,h]
theorem sy (T:Tm) (nm:ByteArray) (n:Nat):gn (a9 T) nm n=gn T nm n:=by unfold gn;rw[ty,lw]
def jq:Option Nat->Int
 |none=> -1
 |some j=>j
theorem Ca {P:Pg} {t:Tm} {i:Nat} (h: ∀k,i<=k->k<P.len->gn (P.hd k) t.nm t.len=false):cj (bm P) t i=none:=by
 unfold cj;rw[List.find?_eq_none];intro k hk;rw[iy]at hk;have hk:=List.mem_range.1 hk;rw[pw P hk,sy]
 by_cases hi:i<=k
 .rw[h k hi hk];simp
 .simp[hi]
theorem B8 {P:Pg} {t:Tm} {i j:Nat} (hi:i<=j) (hj:j<P.len) (hm:gn (P.hd j) t.nm t.len=true) (h: ∀k,i<=k->k<j->gn (P.hd k) t.nm t.len=false):cj (bm P) t i=some j:=by
 unfold cj;rw[List.find?_range_eq_some,iy,pw P hj,sy];refine ⟨by simp[hi,hm],List.mem_range.2 hj,fun k hk=>?_⟩
 rw[pw P (by omega),sy]
 by_cases hik:i<=k
 .rw[h k hik hk];simp
 .simp[hik]
theorem Tryz.info107:(prog.info? 107).map (fun i=>(i.zero,i.size,i.bytes))=some (some (.agg #[iV 0,.string ⟨#[]⟩,.slice none 0 0,.slice none 0 0]),4,72):=by kernel_rfl
theorem P3 (a:Option Addr) (ln cp k:Nat) (h:k<=ln) (hc:ln<=cp): ∃a',(∀W:World,(Instr.slice 23 (.slice a ln cp) (some (iV k)) none none).run prog W=.ok (.slice a' (ln-k) (cp-k)) W)/\∀b o,a=some ⟨b,o,none⟩->k<ln->a'=some ⟨b,o+k*4,none⟩:=by
 obtain ⟨i0,hi,hz0,hz1,hz2⟩:=info_parts Tryz.info107;have h':(k:Int)<=(ln:Int):=by omega
 refine ⟨if cp=k then a else a.map fun ad=>ad.add (k*4),fun W=>?_,fun b o ha h1=>?_⟩
 .simp[Instr.slice,run_underlying Tryz.underlying23,Instr.sliceBounds,run_sliceBound,sizeOf,typeInfo,hi,hz1,h']
 .rw[if_neg (by omega),ha]
  simp[Addr.add]
theorem Aa {s:Nat} {r:Sr} (T:Tm) (i:Nat) (w:World) (hr:Dd w s r) (hP:kg w r.P) (hc:r.P.len<=r.P.cap) (hT:T.len<=maxLen) (hi:i<=r.P.len):
 Calls prog 148 #[.pointer (some ⟨s,0,none⟩),T.val,iV i] w fun e w'=>e=.returned (iV (jq (cj (bm r.P) T i)))/\Below w.heap.size w w':=by
 have HR:Hid (Dd w s r):=hr;have HP:Hid (kg w r.P):=hP;have hs:=hr.lt;have hlen:r.P.len<=2 ^ 63-1:=hP.1;have hTl:T.len<=2 ^ 63-1:=hT;have HNo:Hid (∀k,(∀j,i<=j->j<r.P.len->gn (r.P.hd j) T.nm T.len=false)->k=r.P.len->cj (bm r.P) T i=none):=fun k h _=>Ca h
 have HYes:Hid (∀j,i<=j->j<r.P.len->gn (r.P.hd j) T.nm T.len=true->(∀k,i<=k->k<j->gn (r.P.hd k) T.nm T.len=false)->cj (bm r.P) T i=some j):=fun j h1 h2 h3 h4=>B8 h1 h2 h3 h4
 obtain ⟨a',hsl,hao⟩:=P3 r.P.a r.P.len r.P.cap i hi hc;have HAo:Hid (∀b o,r.P.a=some (dZ b o)->i<r.P.len->a'=some (dZ b (o+i*4))):=hao;have HRow:Hid (∀k,k<r.P.len->∀wr,Below w.heap.size w wr->wu wr r.P.a k (r.P.hd k) (r.P.bd k)):=fun k hk wr hb=>((HP.o.below hb).2 k hk).1
 have HBx:Hid (Below w.heap.size w (w.alloc (.cells #[iV T.v,.string T.nm,.slice T.a T.len T.cap] 67))):=bA;have HX0:Hid ((w.alloc (.cells #[iV T.v,.string T.nm,.slice T.a T.len T.cap] 67)).heap[w.heap.size]?=some (.cells #[iV T.v,.string T.nm,.slice T.a T.len T.cap] 67)):=hZ w _;obtain ⟨_,_,_,c3,_,_,_,_,_,_,_⟩:=(hr.kept (HBx.o.block s hs)).get;clear hr hP hT hao
 show Calls prog 148 #[pZ s,.agg #[iV T.v,.string T.nm,.slice T.a T.len T.cap],iV i] w _
 go_enter Tryz.func148,Tryz.ntmps148
 go_wp2_with fail;generalize w.alloc (.cells #[iV T.v,.string T.nm,.slice T.a T.len T.cap] 67)=W at*;have hW:w.heap.size<W.heap.size:=(aZ HX0.o)
 go_loopw [16] (fun x wr=>∃j:Nat,j<=r.P.len-i/\x=iV j/\(∀k,i<=k->k<i+j->gn (r.P.hd k) T.nm T.len=false)/\Below W.heap.size W wr) (fun x _=>r.P.len-i-(intOf x).toNat)
 case atStart=>exact ⟨0,oZ,rfl,fun k h1 h2=>absurd h1 (by omega),bR⟩
 case round=>
  obtain ⟨j,hj,rfl,hno,hB⟩:=hrel;have HNj:Hid (∀k,i<=k->k<i+j->gn (r.P.hd k) T.nm T.len=false):=hno;have HB:Hid (Below W.heap.size W wr):=hB;have HBw:Hid (Below w.heap.size w wr):=HBx.o.trans (hB.mono HBx.o.size);clear hno hB c3
  by_cases hlt:j<r.P.len-i
  case neg=>
   have HE:Hid (cj (bm r.P) T i=none):=HNo.o _ (fun k h1 h2=>HNj.o k h1 (by omega)) rfl
   go_wp2_with fail;go_ret;exact ⟨by rw[HE.o];rfl,HBw.o⟩
  obtain ⟨b,o,ha,c0,c1,c2,c3⟩:=HRow.o (i+j) (by omega) wr HBw.o
  have ha':=HAo.o b o ha (by omega)
  rw[show o+(i+j)*4=o+i*4+j*4 from by rw[Nat.add_mul];omega]at c0 c1 c2 c3
  clear ha;subst ha';have hltI:(j:Int)<((r.P.len-i:Nat):Int):=by omega
  have HXr:Hid (wr.heap[w.heap.size]?=some (.cells #[iV T.v,.string T.nm,.slice T.a T.len T.cap] 67)):=(HB.o.block _ hW).trans HX0.o;have hrs:w.heap.size<wr.heap.size:=lL hW HB.o.size;have HM:Hid (gn (r.P.hd (i+j)) T.nm T.len=true->cj (bm r.P) T i=some (i+j)):=fun h=>HYes.o (i+j) (by omega) (by omega) h (fun k h1 h2=>HNj.o k h1 h2)
  have HNx:Hid (gn (r.P.hd (i+j)) T.nm T.len=false->∀k,i<=k->k<i+(j+1)->gn (r.P.hd k) T.nm T.len=false):=fun h k h1 h2=>by
   by_cases e:k=i+j
   .rw[e];exact h
   .exact HNj.o k h1 (by omega)
  generalize hH:r.P.hd (i+j)=H at*;generalize hBd:r.P.bd (i+j)=Bd at*;clear hH hBd;have HBn:Hid (Below wr.heap.size wr (wr.alloc (.cells #[iV H.v,.string H.nm,.slice H.a H.len H.cap,.slice Bd.a Bd.len Bd.cap] 107))):=bA;obtain ⟨x0,x1,x2,_,_,_⟩:=ae ((HBn.o.block _ hrs).trans HXr.o);go_wp2_with fail;refine (tw H T.nm T.len _).mono ?_;rintro e w1 ⟨rfl,hb1⟩;have HB1:Hid (Below wr.heap.size wr w1):=HBn.o.trans (hb1.mono HBn.o.size);have HBW1:Hid (Below W.heap.size W w1):=HB.o.trans (HB1.o.mono HB.o.size);have HBw1:Hid (Below w.heap.size w w1):=HBw.o.trans (HB1.o.mono HBw.o.size);clear hb1 c0 c1 c2 c3 x0 x1 x2
  cases hm:gn H T.nm T.len with
  |true=>
   have HE:Hid (cj (bm r.P) T i=some (i+j)):=HM.o hm;have hwr:IntKind.i64.wrap ((i:Int)+(j:Int))=(i:Int)+(j:Int):=by simp[IntKind.wrap,IntKind.bits,IntKind.signed];omega
   clear hm;go_wp2_with fail;go_ret;exact ⟨by rw[HE.o];show _=Ending.returned (iV ((i+j:Nat):Int));rw[Int.natCast_add];rfl,HBw1.o⟩
  |false=>
   have HN2:Hid (∀k,i<=k->k<i+(j+1)->gn (r.P.hd k) T.nm T.len=false):=HNx.o hm;clear hm;go_wp2_with fail;go_roundw
   case rel=>exact ⟨j+1,by omega,by go_num,HN2.o,HBW1.o⟩
   case measure=>simp[intOf];omega
def Ms (s:Nat) (cv av:Value) (k:Nat):Prop:=k=s\/cv.ownBlock=some k\/av.ownBlock=some k
def Mu (s b m:Nat) (tv cv av:Value) (k:Nat):Prop:=(k=b\/k=m\/tv.ownBlock=some k)\/Ms s cv av k
def GL (w:World) (M:Nat->Prop) (N:Int):Value->List Gl->Prop
 |p,[]=>p=.pointer none
 |p,(T,c)::r=>∃(k:Nat) (q:Value),p=.pointer (some ⟨k,0,none⟩)/\¬M k/\w.heap[k]?=some (.cells #[iV T.v,.string T.nm,.slice T.a T.len T.cap,iV c,q] 134)/\ay w T/\NM M T/\d9 N T/\GL w M N q r
theorem GL.next {w w':World} {M M':Nat->Prop} {N:Int}: ∀{gl:List Gl} {p:Value},GL w M N p gl->Bw M w.heap.size w w'->(∀k,k<w.heap.size->M' k->M k)->GL w' M' N p gl:=by
 intro gl
 induction gl with
 |nil=>intro p h _ _;exact h
 |cons g r ih=>
  intro p h hb hm;obtain ⟨T,c⟩:=g;obtain ⟨k,q,h1,h2,h3,h4,h5,h6,h7⟩:=h;have hk:k<w.heap.size:=(aZ h3);exact ⟨k,q,h1,fun e=>h2 (hm k hk e),(hb.block k hk h2).trans h3,h4.bw hb lZ h5,h5.anti h4 hm,h6,ih h7 hb hm⟩
theorem yz {M:Nat->Prop} {N:Int} (B:Tm) (cut:Nat) (p:Value) (gl:List Gl) (w:World) (hB:ay w B) (hBM:NM M B) (hBO: ∀i,i<B.len->d9 N (B.f i)) (hG:GL w M N p gl) (hM: ∀k,M k->k<w.heap.size) (hp: ∃ad,p=.pointer ad):
 Calls prog 50 #[.slice B.a B.len B.cap,iV cut,p] w fun e w'=>∃q,e=.returned q/\(∃ad,q=.pointer ad)/\GL w' M N q (((az B).map fun t=>(t,cut))++gl)/\Below w.heap.size w w':=by
 have HB:Hid (ay w B/\NM M B/\∀i,i<B.len->d9 N (B.f i)):=⟨hB,hBM,hBO⟩;have HG:=hid hG;have HM:=hid hM;have hlen:B.len<=2 ^ 63-1:=hB.len;obtain ⟨pa,rfl⟩:=hp;have HRow:Hid (∀k,k<B.len->∀wr,Below w.heap.size w wr->fe wr B.a k (B.f k)/\ay wr (B.f k)):=fun k hk wr hb=>⟨(HB.o.1.row hk).below hb,(HB.o.1.kid hk).below hb⟩
 clear hB hBM hBO hG hM;generalize hua:B.a=ua at*
 go_enter Tryz.func50,Tryz.ntmps50
 go_wp2_with fail
 go_loopw [2,7] (fun g x wr=>∃(j:Nat) (q:Option Addr),j<=B.len/\x=iV ((B.len:Int)-1-j)/\g=.pointer q/\GL wr M N (.pointer q) ((((az B).drop (B.len-j)).map fun t=>(t,cut))++gl)/\Below w.heap.size w wr) (fun _ x _=>((intOf x)+1).toNat)
 case atStart=>
  refine ⟨0,pa,oZ,by simp,rfl,?_,bR⟩
  rw[Nat.sub_zero,rj];exact HG.o
 case round=>
  obtain ⟨j,q,hj,rfl,rfl,hGj,hBj⟩:=hrel;have HGj:=hid hGj;have HBj:=hid hBj;clear hGj hBj
  by_cases hlt:j<B.len
  case neg=>
   have hje:j=B.len:=by omega
   have HGe:Hid (GL wr M N (.pointer q) (((az B).map fun t=>(t,cut))++gl)):=by
    have:=HGj.o;rw[hje,Nat.sub_self,List.drop_zero]at this;exact this
   have hd:=decide_eq_false (by omega)
   clear hje;go_wp2_with fail;go_ret;exact ⟨_,rfl,⟨q,rfl⟩,HGe.o,HBj.o⟩
  obtain ⟨hr,hTk⟩:=HRow.o (B.len-(j+1)) (by omega) wr HBj.o
  have HTk:=hid hTk;obtain ⟨bb,o,ha,c0,c1,c2⟩:=hr;have hx:((B.len:Int)-1-(j:Int))=((B.len-(j+1):Nat):Int):=by omega
  have hd:=decide_eq_true (by omega)
  have hk1:((B.len-(j+1):Nat):Int)<(B.len:Int):=by omega
  have HNm:Hid (NM M (B.f (B.len-(j+1)))/\d9 N (B.f (B.len-(j+1)))):=⟨HB.o.2.1.kid (by omega),HB.o.2.2 _ (by omega)⟩
  have HDr:Hid ((az B).drop (B.len-(j+1))=B.f (B.len-(j+1))::(az B).drop (B.len-j)):=by
   rw[Hid,oy (by omega),show B.len-(j+1)+1=B.len-j from by omega]
  have hnx:((B.len-(j+1):Nat):Int)-1=(B.len:Int)-1-((j+1:Nat):Int):=by omega
  have HNX:Hid (((B.len-(j+1):Nat):Int)-1=(B.len:Int)-1-((j+1:Nat):Int)):=hnx;clear hTk hnx;subst ha;rw[hx];clear hx;generalize hkk:B.len-(j+1)=kk at*;generalize hT:B.f kk=T at*;go_wp2_with fail;have HBn:Hid (Below wr.heap.size wr (wr.alloc (.cells #[iV T.v,.string T.nm,.slice T.a T.len T.cap,iV cut,.pointer q] 134))):=bA
  have HGn:Hid (GL (wr.alloc (.cells #[iV T.v,.string T.nm,.slice T.a T.len T.cap,iV cut,.pointer q] 134)) M N (pZ wr.heap.size) ((((az B).drop kk).map fun t=>(t,cut))++gl)):=by
   rw[Hid,HDr.o,List.map_cons,List.cons_append];exact ⟨wr.heap.size,.pointer q,rfl,fun e=>by have:=HM.o _ e;have:=HBj.o.size;omega,hZ wr _,HTk.o.below HBn.o,HNm.o.1,HNm.o.2,HGj.o.next (Bw.ofBelow HBn.o) (fun _ _ h=>h)⟩
  go_roundw
  case rel=>exact ⟨j+1,some (dZ wr.heap.size 0),by omega,by rw[<-HNX.o],by first|rfl|simp,by rw[hkk];exact HGn.o,HBj.o.trans (HBn.o.mono HBj.o.size)⟩
  case measure=>simp[intOf]
end Go.Proofs.YtmggaclaoefdaabGreat
