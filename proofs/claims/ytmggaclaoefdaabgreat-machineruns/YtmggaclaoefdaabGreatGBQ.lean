/- Part of the proof. -/
import Derived.Test.YtmggaclaoefdaabGreatGBP
namespace Go.Proofs.YtmggaclaoefdaabGreat
open Go.RowKit Go.Proofs.Tryz
set_option linter.unusedVariables false
set_option linter.unusedSimpArgs false
set_option maxRecDepth 100000
set_option maxHeartbeats 8000000
def zb (σ:Sg) (j:Nat):List Int:=bg [] (((List.range j).map fun i:Nat=>cz (ex σ 200 (vT ((i:Int)+1)))).flatten)
theorem Bl (σ:Sg) (j:Nat):zb σ (j+1)=bg (zb σ j) (cz (ex σ 200 (vT ((j:Int)+1)))):=by
 unfold zb;rw[List.range_succ,List.map_append,List.flatten_append,fm];simp
theorem uq (σ:Sg) (n:Nat):io σ n=(List.range n).map fun i:Nat=>a9 (ap (iq (jz (zb σ n))) (ex σ 200 (vT ((i:Int)+1)))):=by
 unfold io zb;simp only[List.map_map]
 rfl
theorem Mp (σ:Sg) (n:Nat):io (cs σ) n=io σ n:=by
 have e: ∀v:Int,a9 (ex (cs σ) 200 (vT v))=a9 (ex σ 200 (vT v)):=fun v=>by
  have:=Su σ 200 (vT v)
  rwa [tx]at this
 have en:zb (cs σ) n=zb σ n:=by
  unfold zb
  congr 2
  apply List.map_congr_left
  intro i _;exact J5 (e _)
 rw[uq,uq,en]
 apply List.map_congr_left
 intro i _;rw[P6 (e _)]
theorem G4 (n:Nat):(da n).map a9=da n:=by
 unfold da;rw[List.map_map]
 apply List.map_congr_left
 intro i _;exact tx _
theorem D8 (n:Nat):da (n+1)=da n++ [vT ((n:Int)+1)]:=by unfold da;rw[List.range_succ,List.map_append];rfl
theorem nc (n:Nat):(da n).length=n:=by simp[da]
theorem qt (n i:Nat) (h:i<n):(da n).getD i .nil=vT ((i:Int)+1):=by simp[da,List.getD,h]
theorem qb (σ:Sg) (n:Nat):dx (cs σ) 200 (da n)=dx σ 200 (da n):=by
 have:=Bf σ 200 (da n)
 rwa [G4]at this
structure FL (σ:Sg) (a lo:Nat) (w:World) (v:Value) (k j:Nat) (ts:List Tm):Prop where
 own:w.ownsRow lo 67 3 v a (cy ts)
 len:ts.length=a
 all: ∀T∈ts,ay w T/\bl lo T/\NB k T/\∀q,v.ownBlock=some q->NB q T
 ne: ∀q,v.ownBlock=some q->q≠k
 done: ∀i,i<j->∀s',zb σ j <+:s'->a9 (ts.getD i .nil)=ap (iq (jz s')) (ex σ 200 (vT ((i:Int)+1)))
 rest: ∀i,j<=i->i<a->ts.getD i .nil=vT ((i:Int)+1)
theorem FL.bw {σ:Sg} {a lo:Nat} {w w':World} {v:Value} {k j:Nat} {ts:List Tm} (h:FL σ a lo w v k j ts) (hb:Bw (fun q=>q=k) w.heap.size w w'):FL σ a lo w' v k j ts:=
 ⟨wm h.own (fun g hg=>hb.block g (h.own.lt g hg).2 (h.ne g hg)),h.len,fun T hT=>⟨(h.all T hT).1.bw hb lZ (h.all T hT).2.2.1.nm,(h.all T hT).2⟩,h.ne,h.done,h.rest⟩
theorem FL.put {σ:Sg} {a lo:Nat} {w:World} {g cap:Nat} {k j:Nat} {ts:List Tm} (h:FL σ a lo w (.slice (some ⟨g,0,none⟩) a cap) k j ts) (hj:j<a) {X:Tm} (hX:ay w X) (hA:bl lo X) (hk:NB k X) (hg:NB g X)
 (hV: ∀s',zb σ (j+1) <+:s'->a9 X=ap (iq (jz s')) (ex σ 200 (vT ((j:Int)+1)))):
 FL σ a lo (((w.setCell ⟨g,j*3,none⟩ (iV X.v)).setCell ⟨g,j*3+1,none⟩ (.string X.nm)).setCell ⟨g,j*3+2,none⟩ (.slice X.a X.len X.cap)) (.slice (some ⟨g,0,none⟩) a cap) k (j+1) (ts.set j X):=by
 have hG:w.grownBy (((w.setCell (dZ g (j*3)) (iV X.v)).setCell (dZ g (j*3+1)) (.string X.nm)).setCell (dZ g (j*3+2)) (.slice X.a X.len X.cap)) (some g):=G.trans (G.trans (af g _ _) (af g _ _)) (af g _ _);have hget: ∀i,i≠j->(ts.set j X).getD i .nil=ts.getD i .nil:=fun i hi=>by simp[List.getD,Ne.symm hi]
 have hgetj:(ts.set j X).getD j .nil=X:=by simp[List.getD,h.len,hj]
 refine ⟨ui h.own h.len hj X,by rw[List.length_set];exact h.len,fun T hT=>?_,h.ne,fun i hi s' hs=>?_,fun i h1 h2=>?_⟩
 .rcases List.mem_or_eq_of_mem_set hT with hT|rfl
  .obtain ⟨h1,h2,h3,h4⟩:=h.all T hT
   exact ⟨h1.grown hG (fun q hq=>by obtain rfl:=oj hq;exact h4 _ rfl),h2,h3,h4⟩
  .exact ⟨hX.grown hG (fun q hq=>by obtain rfl:=oj hq;exact hg),hA,hk,fun q hq=>by
    have:g=q:=by simpa[Value.ownBlock]using hq
    exact this▸hg⟩
 .by_cases e:i=j
  .subst e;rw[hgetj];exact hV s' hs
  .rw[hget i e];exact h.done i (by omega) s' (List.IsPrefix.trans (by rw[Bl];exact mx _ _) hs)
 .rw[hget i (by omega)];exact h.rest i (by omega) h2
theorem FL.ans {σ:Sg} {a lo:Nat} {w:World} {v:Value} {k:Nat} {ts:List Tm} (h:FL σ a lo w v k a ts): ∃A:Tm,v=lh A/\ay w A/\bl lo A/\br A=io σ a:=by
 have hL:i6 lo w v ts ts:=⟨by rw[h.len];exact h.own,fun T hT=>⟨(h.all T hT).1,(h.all T hT).2.1,(h.all T hT).2.2.2⟩,rfl,fun i _=>Ff.refl _⟩
 obtain ⟨A,h1,h2,h3,h4⟩:=hL.terms;refine ⟨A,h1,h2,h3,?_⟩;have hl:A.len=a:=h4.1.trans h.len;unfold br az;rw[uq,List.map_map,hl]
 apply List.map_congr_left
 intro i hi;have hi:=List.mem_range.1 hi
 show a9 (A.f i)=a9 (ap _ _)
 have e:=sq (h4.2 i (by omega))
 rw[e,<-h.done i hi _ (List.prefix_refl _),Ae]
def T8 (w0 w:World) (s m:Nat) (r:Sr) (tv:Value) (n:Nat) (σ:Sg) (L:Int) (tr:List Int) (gl:List Gl) (ch:List Cr) (an:List Tm) (a:Nat) (e:Ending) (w':World):Prop:=
 (dx σ 200 (da a)=none/\e=.returned (.slice none 0 0)/\SS w0 w' s m { r with fin:=3} tv n σ L tr gl ch an/\w.heap.size<=w'.heap.size)\/
 ((∃k,dx σ 200 (da a)=some k)/\∃A:Tm,e=.returned (lh A)/\Below w.heap.size w w'/\ay w' A/\bl w.heap.size A/\br A=io σ a)
theorem Ow {T:Tm} {v N:Int} (h:Ff T (vT v)) (h0:0<v) (h1:v<=N):d9 N T:=by
 cases T with
 |nil=>have h:v=0:=h.1;omega
 |mk u nm a len cap f=>
  obtain ⟨e1,e2,e3,_⟩:=h;have e1:u=v:=e1;have e2:nm=⟨#[]⟩:=e2;have e3:len=0:=e3;exact ⟨by omega,by omega,fun _=>⟨e2,e3⟩,by omega,fun i hi=>absurd hi (by omega)⟩
theorem Iq {w0:World} {s m:Nat} {r:Sr} {tv:Value} {n:Nat} {σ:Sg} {L:Int} {tr:List Int} {gl:List Gl} {ch:List Cr} {an:List Tm} (a:Nat) (w:World) (h:SS w0 w s m r tv n σ L tr gl ch an) (ha:r.asked=a) (ha12:a<=12):
 Calls prog 119 #[.pointer (some ⟨s,0,none⟩)] w (T8 w0 w s m r tv n σ L tr gl ch an a):=by
 have H:=hid h;obtain ⟨_,_,_,_,_,y5,_,_,_,_,_⟩:=h.blk.get;have hs:=h.blk.lt;rw[ha]at y5;have HA:=hid ha;obtain ⟨i0,hi,hz0,hz1,hz2⟩:=info_parts Tryz.info67;have hmm:= @run_makeMap prog;have hmf: ∀(fn:Fn) (first cap:Array Value) (w:World),(Instr.makeFunc fn first cap).run prog w=.ok (.func fn first cap) w:=fun _ _ _ _=>rfl
 clear h ha
 go_enter Tryz.func119,Tryz.ntmps119
 go_wp2_with fail
 go_loopw [3,12] (fun v x wr=>∃j:Nat,j<=a/\x=iV j/\i6 w.heap.size wr v (da j) (da j)/\Below w.heap.size w wr) (fun _ x _=>a-(intOf x).toNat)
 case atStart=>exact ⟨0,oZ,rfl,⟨World.ownsRow_nil _ _ _ _,fun c hc=>absurd hc (by simp[da]),rfl,fun i hi=>absurd hi (nL i)⟩,bR⟩
 case round=>
  obtain ⟨j,hj,rfl,hL,hB⟩:=hrel;have HL:=hid hL;have HB:=hid hB;have hvl:=nc j;clear hL hB
  by_cases hlt:j<a
  case pos=>
   have HBx:Hid (Below wr.heap.size wr (wr.alloc (.cells #[iV ((j:Int)+1),.string ⟨#[]⟩,nZ] 67))):=bA;have HL3:=hid (HL.o.keep HBx.o);have HB3:=hid (HB.o.trans (HBx.o.mono HB.o.size));have hsz3:=HB3.o.size;have HN3':=hid (Fi wr (vT ((j:Int)+1)));go_wp2_with (at_builtin;refine wpList_append_own_at _ rfl (.tmp 15) (.tmp 19) 24 rfl w.heap.size 67 i0 (.agg #[iV 0,.string ByteArray.empty,nZ]) 3 48 Tryz.underlying24 hi hz0 hz1 hz2 rfl (by decide) u3 (da j).length (cy (da j)) rfl HL3.o.own (dZ wr.heap.size 0) 1 1 (cy [vT ((j:Int)+1)]) rfl rfl HN3'.o (mw _) (by unfold maxLen;omega) (by omega) hsz3 ?_;intro v' w6 hown' hgrow hnil hat)
   have HB6:Hid (Below w.heap.size w w6):=HB3.o.grown hgrow hsz3 (fun k hk=>(HL3.o.own.lt k hk).1)
   have HL6:Hid (i6 w.heap.size w6 v' (da (j+1)) (da (j+1))):=by
    rw[Hid,D8];exact HL3.o.more (A0 _ _) ⟨fun h=>absurd h (Nat.lt_irrefl 0),fun i hi=>absurd hi (nL i)⟩ (fun g hg=>⟨fun h=>absurd h (Nat.lt_irrefl 0),fun i hi=>absurd hi (nL i)⟩) (Ff.refl _) hown' hgrow hat
   clear hown' hgrow hnil hat;go_wp2_with fail;go_roundw
   case rel=>exact ⟨j+1,by omega,by go_num,HL6.o,HB6.o⟩
   case measure=>simp[intOf];omega
  have hje:j=a:=by omega
  have hLa:i6 w.heap.size wr u3 (da a) (da a):=by have:=HL.o;rw[hje]at this;exact this
  have HLa:=hid hLa;obtain ⟨V,hV,hVin,hVab,hVs⟩:=hLa.terms;have hVl:V.len=a:=hVs.1.trans (nc a);have HK:Hid (az V=(List.range a).map fun i=>V.f i):=by rw[Hid];unfold az;rw[hVl]
  have HKc:Hid ((az V).map a9=da a):=by
   rw[HK.o,List.map_map];unfold da
   apply List.map_congr_left
   intro i hi;have hi:=List.mem_range.1 hi;have:=sq (hVs.2 i (by omega))
   rw[qt a i hi,tx]at this;exact this
  have HVo:Hid (∀i,i<V.len->d9 1000000 (V.f i)):=fun i hi=>by
   have:=hVs.2 i hi;rw[qt a i (by omega)]at this
   exact Ow this (by omega) (by omega)
  have HSr:=hid (H.o.below HB.o)
  have HRo:Hid (Calls prog 142 #[pZ r.b,iV 200,.slice V.a a V.cap] wr fun e w'=>∃x:Int,e=.returned (iV x)/\Below wr.heap.size wr w'/\Tk σ 200 V x):=by
   have:=Le 200 r.b m tv 1000000 w0.heap.size n σ L V wr HSr.o.vs lZ hVin HVo.o;rw[hVl]at this;exact this
  have HRV:Hid (∀ts,dx σ 200 (az V++ts)=dx (cs σ) 200 (da a++ts.map a9)):=fun ts=>by
   rw[<-Bf,List.map_append,HKc.o]
  have hu3:u3=.slice V.a a V.cap:=by rw[hV,hVl]
  have z7:=HSr.o.blk.get.2.2.2.2.2.2.2.1;clear hje hV hVin hVab hVs hvl;subst hu3;clear hLa;generalize V.a=va at*;generalize V.cap=vc at*;go_wp2_with fail;refine HRo.o.mono ?_;rintro e w1 ⟨x,rfl,hb1,hP⟩;have HB1:=hid hb1;have HS1:=hid (HSr.o.below hb1);have hz1:w.heap.size<=w1.heap.size:=lT HB.o.size hb1.size;have y1:=HS1.o.blk.get.2.1;have yf1:=HS1.o.blk.get.2.2.2.2.2.2.2.2.2.2 1
  rcases hP with ⟨k,rfl,hk,hw⟩| ⟨rfl,hw⟩
  case inr=>
   have HQ:Hid (dx σ 200 (da a)=none):=by
    have:=hw [];rw[HRV.o,List.map_nil,List.append_nil,qb]at this;exact this
   clear hw hb1;go_wp2_with fail;go_ret;exact .inl ⟨HQ.o,rfl,HS1.o.put 1 _ rfl rfl rfl rfl HS1.o.gls,by simpa[World.setCell]using hz1⟩
  have HQ:Hid (dx σ 200 (da a)=some k):=by
   have:=hw [];rw[HRV.o,List.map_nil,List.append_nil,qb,xv]at this;exact this
  have hkb:decide ((k:Int)<0)=false:=decide_eq_false (by omega)
  have HL1:Hid (i6 w.heap.size w1 (.slice va a vc) (da a) (da a)):=HLa.o.keep hb1;clear hw hb1;have HFn:Hid (∀i:Nat,i<a->ph σ 200 (vT ((i:Int)+1))):=fun i hi=>Bc 200 _ _ HQ.o _ (List.mem_map.2 ⟨i,List.mem_range.2 hi,rfl⟩)
  have hkl:w.heap.size<=w1.heap.size:=hz1;have HBb:Hid (Below w1.heap.size w1 ((w1.alloc (.map #[] 0)).alloc (.cells #[.map (some w1.heap.size)] 103))):=bA.alloc (by simp) _
  have HNb:Hid (ep ((w1.alloc (.map #[] 0)).alloc (.cells #[.map (some w1.heap.size)] 103)) w1.heap.size (zb σ 0)):=(ep.made w1).kept (jZ _ _ (by simp))
  have HOb:Hid (((w1.alloc (.map #[] 0)).alloc (.cells #[.map (some w1.heap.size)] 103)).heap[w1.heap.size+1]?=some (.cells #[.map (some w1.heap.size)] 103)):=by
   have:=hZ (w1.alloc (.map #[] 0)) (.cells #[.map (some w1.heap.size)] 103)
   rwa [show (w1.alloc (.map #[] 0)).heap.size=w1.heap.size+1 from by simp]at this
  go_wp2_with fail;generalize (w1.alloc (.map #[] 0)).alloc (.cells #[.map (some w1.heap.size)] 103)=wb at*
  have HFL0:Hid (FL σ a w.heap.size wb (.slice va a vc) w1.heap.size 0 (da a)):=by
   have h1:=HL1.o.keep HBb.o;refine ⟨by have:=h1.own;rwa [nc]at this,nc a,fun T hT=>?_,fun q hq=>?_,fun i hi=>absurd hi (nL i),fun i _ hi=>qt a i hi⟩
   .obtain ⟨i,_,rfl⟩:=List.mem_map.1 hT
    exact ⟨A0 _ _,⟨fun h=>absurd h (Nat.lt_irrefl 0),fun i hi=>absurd hi (nL i)⟩,⟨fun h=>absurd h (Nat.lt_irrefl 0),fun i hi=>absurd hi (nL i)⟩,fun _ _=>⟨fun h=>absurd h (Nat.lt_irrefl 0),fun i hi=>absurd hi (nL i)⟩⟩
   .have:=(HL1.o.own.lt q hq).2;omega
  have HBwb:Hid (Below w.heap.size w wb):=(HB.o.trans (HB1.o.mono HB.o.size)).trans (HBb.o.mono hkl);have hzb:w1.heap.size+1<wb.heap.size:=(aZ HOb.o);generalize hkk:w1.heap.size=kk at*;clear hkk
  go_loopw [36] (fun x wr=>∃(j:Nat) (ts:List Tm),j<=a/\x=iV j/\FL σ a w.heap.size wr (.slice va a vc) kk j ts/\ep wr kk (zb σ j)/\wr.heap[kk+1]?=some (.cells #[.map (some kk)] 103)/\Below w.heap.size w wr) (fun x _=>a-(intOf x).toNat)
  case atStart=>exact ⟨0,da a,oZ,rfl,HFL0.o,HNb.o,HOb.o,HBwb.o⟩
  case round=>
   clear HFL0 HNb HOb HBwb HBb HS1 HSr HL HLa HL1 HB HB1 HRo HRV HKc HK HVo hkb y1 yf1 z7 hlt hj hzb hVl hk hz1;obtain ⟨j2,ts,hj2,rfl,hFL,hNu,hOb,hB2⟩:=hrel;have HFL:Hid (FL σ a w.heap.size wr (.slice va a vc) kk j2 ts):=hFL;have HNu:Hid (ep wr kk (zb σ j2)):=hNu;have HOb:Hid (wr.heap[kk+1]?=some (.cells #[.map (some kk)] 103)):=hOb;have HB2:Hid (Below w.heap.size w wr):=hB2;have hzk:kk+1<wr.heap.size:=(aZ hOb);clear hFL hNu hOb hB2
   by_cases hlt:j2<a
   case neg=>
    have hje:j2=a:=by omega
    have hFa:FL σ a w.heap.size wr (.slice va a vc) kk a ts:=by have:=HFL.o;rwa [hje]at this
    obtain ⟨A,hA1,hA2,hA3,hA4⟩:=hFa.ans;have HAn:Hid (Value.slice va a vc=lh A/\ay wr A/\bl w.heap.size A/\br A=io σ a):=⟨hA1,hA2,hA3,hA4⟩;clear hje hFa hA1 hA2 hA3 hA4;go_wp2_with fail;go_ret;exact .inr ⟨⟨k,HQ.o⟩,A,by rw[<-HAn.o.1];rfl,HB2.o,HAn.o.2⟩
   obtain ⟨g,hva⟩: ∃g,va=some (dZ g 0):=by
    rcases HFL.o.own.2 with ⟨_,h0⟩| ⟨g,cp,cur,h,_⟩
    .omega
    .injection h with h1 _ _;exact ⟨g,h1⟩
   subst hva;have hg:=HFL.o.own.lt g rfl;have hgk:g≠kk:=HFL.o.ne g rfl;obtain ⟨f0,f1,f2⟩:=km ts j2 (by rw[HFL.o.len];exact hlt)
   have htj:ts[j2]'(by rw[HFL.o.len];exact hlt)=vT ((j2:Int)+1):=by
    have:=HFL.o.rest j2 lZ hlt
    simpa[List.getD,HFL.o.len,hlt]using this
   rw[htj]at f0 f1 f2;have c0:wr.cell? (dZ g (j2*3))=some (iV ((j2:Int)+1)):=(HFL.o.own.cellAt (j2*3) (by omega)).trans f0
   have c1:wr.cell? (dZ g (j2*3+1))=some (.string ⟨#[]⟩):=(HFL.o.own.cellAt (j2*3+1) (by omega)).trans f1
   have c2:wr.cell? (dZ g (j2*3+2))=some nZ:=(HFL.o.own.cellAt (j2*3+2) (by omega)).trans f2
   have hfz: ∀i,wr.frozen? (dZ g i)=false:=fun i=>by
    rcases HFL.o.own.2 with ⟨h,_⟩| ⟨g',cp,cur,h,_,hgg,_⟩
    .simp at h
    .injection h with h1 _ _
     injection h1 with h1
     injection h1 with h1 _ _
     subst h1;simp[World.frozen?,hgg]
   clear f0 f1 f2 htj;have hltI:(j2:Int)<(a:Int):=by omega
   have HBa:Hid (Below wr.heap.size wr (wr.alloc (.cells #[iV ((j2:Int)+1),.string ⟨#[]⟩,nZ] 67))):=bA;have HXa:Hid ((wr.alloc (.cells #[iV ((j2:Int)+1),.string ⟨#[]⟩,nZ] 67)).heap[wr.heap.size]?=some (.cells #[iV ((j2:Int)+1),.string ⟨#[]⟩,nZ] 67)):=hZ wr _;go_wp2_with fail;generalize wr.alloc (.cells #[iV ((j2:Int)+1),.string ⟨#[]⟩,nZ] 67)=wa at*;have hza:wr.heap.size<wa.heap.size:=(aZ HXa.o);have HFa:Hid (FL σ a w.heap.size wa (sZ g a vc) kk j2 ts):=HFL.o.bw (Bw.ofBelow HBa.o);have HBwa:Hid (Below w.heap.size w wa):=HB2.o.trans (HBa.o.mono HB2.o.size);have HSa:Hid (SS w0 wa s m r tv n σ L tr gl ch an):=H.o.below HBwa.o;have x7:wa.cell? (dZ s 7)=some (pZ r.b):=HSa.o.blk.get.2.2.2.2.2.2.2.1;obtain ⟨e0,e1,e2,_,_,_⟩:=ae HXa.o;have hsg:s≠g:=by omega
   have HKp:Hid (∀W:World,(W.heap[s]?=wa.heap[s]?/\W.heap[wr.heap.size]?=wa.heap[wr.heap.size]?)->W.cell? (dZ s 7)=some (pZ r.b)/\W.cell? (dZ wr.heap.size 0)=some (iV ((j2:Int)+1))/\W.cell? (dZ wr.heap.size 1)=some (.string ⟨#[]⟩)/\W.cell? (dZ wr.heap.size 2)=some nZ):=fun W hW=>⟨(cB hW.1).trans x7,(cB hW.2).trans e0,(cB hW.2).trans e1,(cB hW.2).trans e2⟩
   have HKset:Hid (∀(W:World) (i:Nat) (v:Value),(W.heap[s]?=wa.heap[s]?/\W.heap[wr.heap.size]?=wa.heap[wr.heap.size]?)->((W.setCell (dZ g i) v).heap[s]?=wa.heap[s]?/\(W.setCell (dZ g i) v).heap[wr.heap.size]?=wa.heap[wr.heap.size]?)):=fun W i v hW=>⟨(Below.heap_setCell _ _ _ _ (show s≠g from hsg)).trans hW.1,(Below.heap_setCell _ _ _ _ (show wr.heap.size≠g by omega)).trans hW.2⟩
   have HKdr:Hid (∀W:World,(W.heap[s]?=wa.heap[s]?/\W.heap[wr.heap.size]?=wa.heap[wr.heap.size]?)->(W.drew.heap[s]?=wa.heap[s]?/\W.drew.heap[wr.heap.size]?=wa.heap[wr.heap.size]?)):=fun W hW=>hW
   have HK0:Hid (wa.heap[s]?=wa.heap[s]?/\wa.heap[wr.heap.size]?=wa.heap[wr.heap.size]?):=⟨rfl,rfl⟩
   have HCg:Hid (∀W:World,W.heap[g]?=wa.heap[g]?->W.cell? (dZ g (j2*3))=some (iV ((j2:Int)+1))/\W.cell? (dZ g (j2*3+1))=some (.string ⟨#[]⟩)/\W.cell? (dZ g (j2*3+2))=some nZ/\W.frozen? (dZ g (j2*3))=false/\W.frozen? (dZ g (j2*3+1))=false/\W.frozen? (dZ g (j2*3+2))=false):=fun W hW=>by
    have hgw:W.heap[g]?=wr.heap[g]?:=hW.trans (HBa.o.block g hg.2);exact ⟨(cB hgw).trans c0,(cB hgw).trans c1,(cB hgw).trans c2,(World.frozen?_of_block hgw).trans (hfz _),(World.frozen?_of_block hgw).trans (hfz _),(World.frozen?_of_block hgw).trans (hfz _)⟩
   have HC:Hid (∀W,Below wa.heap.size wa W->Calls prog 143 #[pZ r.b,.agg #[iV ((j2:Int)+1),.string ⟨#[]⟩,nZ],.func (.func 144) #[] #[pZ (kk+1)]] W (XQ (fun q=>q=kk) W (fun X w'=>ep w' kk (zb σ (j2+1))/\∀s',zb σ (j2+1) <+:s'->a9 X=ap (iq (jz s')) (ex σ 200 (vT ((j2:Int)+1)))))):=fun W hW=>by
    have hbW:Below wr.heap.size wr W:=HBa.o.trans (hW.mono (Nat.le_of_lt hza));have:=Gz (lo:=w0.heap.size) (n:=n) (L:=L) H.o.vs.dec (k:=kk) (o:=kk+1) (b:=r.b) (m:=m) (tv:=tv) ⟨by have:=H.o.vs.lt;omega,by have:=H.o.vs.map.lt;omega,fun q hq=>by have:=(H.o.trk.1.lt q hq).2;omega⟩ (fun u T hu=>(H.o.vs.trm u T hu).1.nb hkl) (by omega) 200 _ (vT ((j2:Int)+1)) lZ (zb σ j2) W (HNu.o.kept (hbW.block kk (by omega))) (HSa.o.below hW).vs ((hbW.block (kk+1) hzk).trans HOb.o) (Pz (by omega) (by omega)) (A0 _ _) ⟨fun h=>absurd h (Nat.lt_irrefl 0),fun i hi=>absurd hi (nL i)⟩ (HFn.o j2 hlt)
    rw[<-Bl]at this;exact this
   clear c0 c1 c2 hfz x7 e0 e1 e2
   go_region_held3 (fun W=>W.cell? (dZ s 7)=some (pZ r.b)/\W.cell? (dZ wr.heap.size 0)=some (iV ((j2:Int)+1))/\W.cell? (dZ wr.heap.size 1)=some (.string ⟨#[]⟩)/\W.cell? (dZ wr.heap.size 2)=some nZ) ((refine HKp.o _ ?_;repeat (first|with_reducible exact HK5.o|with_reducible exact HK0.o|refine HKset.o _ _ _ ?_|refine HKdr.o _ ?_))) (first
    | (go_at_call 143
       refine (HC.o _ (by repeat (first|exact bR|refine Below.drew ?_))).mono ?_
       rintro e w5 ⟨X,rfl,hb5,hX5,hA5,hN5,hV5⟩;have HB5:Hid (Bw (fun q=>q=kk) wa.heap.size wa w5):=Bw.trans (Bw.ofBelow (by repeat (first|exact bR|refine Below.drew ?_))) (hb5.mono lZ)
       have HX5:Hid (ay w5 X/\bl wa.heap.size X):=⟨hX5,hA5⟩;have HN5:Hid (ep w5 kk (zb σ (j2+1))/\∀s',zb σ (j2+1) <+:s'->a9 X=ap (iq (jz s')) (ex σ 200 (vT ((j2:Int)+1)))):=⟨hN5,hV5⟩;have HK5:Hid (w5.heap[s]?=wa.heap[s]?/\w5.heap[wr.heap.size]?=wa.heap[wr.heap.size]?):=⟨HB5.o.block s (by have:=HSa.o.blk.lt;omega) (by omega),HB5.o.block _ hza (by omega)⟩
       obtain ⟨q0,q1,q2,qf0,qf1,qf2⟩:=HCg.o w5 (HB5.o.block g (by omega) hgk)
       rw[show X.val=.agg #[iV X.v,.string X.nm,.slice X.a X.len X.cap]from rfl]
       clear hb5 hX5 hA5 hN5 hV5))
   all_goals
    have hXg:NB g X:=HX5.o.2.nb (by omega)
    have hXk:NB kk X:=HX5.o.2.nb (by omega)
    have HF6:Hid (FL σ a w.heap.size (((w5.setCell (dZ g (j2*3)) (iV X.v)).setCell (dZ g (j2*3+1)) (.string X.nm)).setCell (dZ g (j2*3+2)) (.slice X.a X.len X.cap)) (sZ g a vc) kk (j2+1) (ts.set j2 X)):=(HFa.o.bw HB5.o).put hlt HX5.o.1 (HX5.o.2.mono HBwa.o.size) hXk hXg HN5.o.2;have hG6:w5.grownBy (((w5.setCell (dZ g (j2*3)) (iV X.v)).setCell (dZ g (j2*3+1)) (.string X.nm)).setCell (dZ g (j2*3+2)) (.slice X.a X.len X.cap)) (some g):=G.trans (G.trans (af g _ _) (af g _ _)) (af g _ _);have hz5:=HB5.o.size;have HN6:Hid (ep (((w5.setCell (dZ g (j2*3)) (iV X.v)).setCell (dZ g (j2*3+1)) (.string X.nm)).setCell (dZ g (j2*3+2)) (.slice X.a X.len X.cap)) kk (zb σ (j2+1))):=HN5.o.1.kept (hG6.block kk (by omega) (by simpa using hgk.symm))
    have HO6:Hid ((((w5.setCell (dZ g (j2*3)) (iV X.v)).setCell (dZ g (j2*3+1)) (.string X.nm)).setCell (dZ g (j2*3+2)) (.slice X.a X.len X.cap)).heap[kk+1]?=some (.cells #[.map (some kk)] 103)):=by
     have hgk1:g≠kk+1:=fun e=>by
      rcases HFL.o.own.2 with ⟨h,_⟩| ⟨g',cp,cur,h,_,hgg,_⟩
      .simp at h
      .injection h with h1 _ _
       injection h1 with h1
       injection h1 with h1 _ _
       subst h1;rw[e,HOb.o]at hgg
       injection hgg with hgg
       injection hgg with _ hgg
       exact absurd hgg (by decide)
     exact (hG6.block (kk+1) (by omega) (by simpa using hgk1.symm)).trans ((HB5.o.block (kk+1) (by omega) (by omega)).trans ((HBa.o.block (kk+1) hzk).trans HOb.o))
    have HB6:Hid (Below w.heap.size w (((w5.setCell (dZ g (j2*3)) (iV X.v)).setCell (dZ g (j2*3+1)) (.string X.nm)).setCell (dZ g (j2*3+2)) (.slice X.a X.len X.cap))):=by
     have h1:Below w.heap.size wa w5:=⟨HB5.o.os,HB5.o.tape,HB5.o.output,HB5.o.size,fun q hq=>HB5.o.block q (by have:=HBwa.o.size;omega) (by omega)⟩
     exact (HBwa.o.trans h1).grown hG6 (by have:=HBwa.o.size;omega) (fun q hq=>by have:=oj hq;omega)
    clear hXg hXk hG6 hz5 q0 q1 q2 qf0 qf1 qf2;go_wp2_with fail;go_roundw
    case rel=>exact ⟨j2+1,ts.set j2 X,by omega,by go_num,HF6.o,HN6.o,HO6.o,HB6.o⟩
    case measure=>simp[intOf];omega
theorem Tryz.info87:(prog.info? 87).map (fun i=>(i.zero,i.size,i.bytes))=some (some (.slice none 0 0),1,24):=by kernel_rfl
theorem So (w:World) (A:Tm): ∀j u,[lh A][j]?=some u->(w.alloc (.cells #[.slice A.a A.len A.cap] 87)).cell? ((⟨w.heap.size,0,none⟩:Addr).add j)=some u:=by
 intro j u hj;have hb:=hZ w (.cells #[.slice A.a A.len A.cap] 87);rw[ir,cell_of_row _ _ _ _ _ _ hb]
 simpa[lh]using hj
def R4 (w0 w:World) (s m:Nat) (r:Sr) (X:PS) (an:List Tm) (a Lb Nb:Nat) (e:Ending) (w':World):Prop:=
 ∃(r':Sr) (tv':Value) (n':Nat) (σ' σx:Sg) (L':Int) (tr':List Int) (gl':List Gl) (ch':List Cr) (an':List Tm),e=.returned (.tuple #[])/\SS w0 w' s m r' tv' n' σ' L' tr' gl' ch' an'/\
  ej (bm r.P) a X=ar r' σx gl' ch' an'/\(r'.fin=0->σx=σ')/\(r'.P=r.P/\r'.limit=r.limit/\r'.asked=r.asked/\r'.st=r.st)/\0<=r'.fin/\0<=r'.last/\r'.last+360*ch'.length<=Lb+360/\n'+130000*ch'.length<=Nb+130000/\w.heap.size<=w'.heap.size/\an'.length<=40/\(r'.fin=0->an'.length=an.length+1/\an'.length<40)
theorem Fb {w0:World} {s m:Nat} {r:Sr} {tv:Value} {n:Nat} {σ:Sg} {L:Int} {tr:List Int} {gl:List Gl} {ch:List Cr} {an:List Tm} (a Lb Nb:Nat) (w:World) (hPr:Pt w0 r.P) (h:SS w0 w s m r tv n σ L tr gl ch an) (hW: ∀c∈ch,c.gl≠ []/\c.k<=r.P.len) (hl:0<=r.last/\r.last+360*ch.length<=Lb) (hLb:Lb<=980000) (hn:n+130000*ch.length<=Nb) (hNb:Nb<=800000000) (hf:r.fin=0) (hc:ch.length<=4000) (ha:r.asked=a) (ha12:a<=12) (han:an.length<40):
 Calls prog 85 #[.pointer (some ⟨s,0,none⟩)] w (R4 w0 w s m r (ar r σ gl ch an) an a Lb Nb):=by
 have H:=hid h;have HPr:=hid hPr;have HW:=hid hW;have HF:=hid (Iq a w h ha ha12);have HFin:=hid hf;clear h hPr hW ha
 go_enter Tryz.func85,Tryz.ntmps85
 go_wp2_with fail;refine HF.o.mono ?_;rintro e w1 (⟨hR,rfl,hS1,hz1⟩| ⟨hR,A,rfl,hb1,hA,hAb,hE⟩)
 case inl=>
  have HS1:=hid hS1
  have HE:Hid (ej (bm r.P) a (ar r σ gl ch an)=ar { r with fin:=3} σ gl ch an):=by
   rw[Hid];unfold ej;rw[show (ar r σ gl ch an).σ=cs σ from rfl,qb,hR];rfl
  have y1:=hS1.blk.get.2.1;clear hS1 hR hf;go_wp2_with fail
  go_end0
  exact ⟨{ r with fin:=3},tv,n,σ,σ,L,tr,gl,ch,an,rfl,HS1.o,HE.o,fun _=>rfl,⟨rfl,rfl,rfl,rfl⟩,by show (0:Int)<=3;omega,hl.1,by show r.last+_<=_;omega,by omega,hz1,by omega,fun h=>absurd (show (3:Int)=0 from h) (by omega)⟩
 have HS1:=hid (H.o.below hb1);have HA1:Hid (ay w1 A/\NM (Mu s r.b m tv r.cv r.av) A):=⟨hA,hAb.nm (fun k hk=>(H.o.mu hk).2)⟩
 have HE:Hid (∀av',ej (bm r.P) a (ar r σ gl ch an)=if an.length+1=40 then ar { r with av:=av',fin:=1} σ gl ch (an++ [A])else bk (bm r.P) (ar { r with av:=av'} σ gl ch (an++ [A]))):=fun av'=>by
  obtain ⟨k,hk⟩:=hR;unfold ej;rw[show (ar r σ gl ch an).σ=cs σ from rfl,qb,hk,Mp,<-hE]
  simp only;rw[show (ar r σ gl ch an).ans.length=an.length from by simp[ar]]
  unfold ar;rw[List.map_append]
  rfl
 have hz1:=hb1.size;have y1:w1.cell? (dZ s 1)=some (iV 0):=by have:=HS1.o.blk.get.2.1;rwa [hf]at this
 have HBn:Hid (Below w1.heap.size w1 (w1.alloc (.cells #[.slice A.a A.len A.cap] 87))):=bA;have HS2:=hid (HS1.o.below HBn.o);have HA2:Hid (ay (w1.alloc (.cells #[.slice A.a A.len A.cap] 87)) A/\NM (Mu s r.b m tv r.cv r.av) A):=⟨HA1.o.1.below HBn.o,HA1.o.2⟩;have HNw:=hid (So w1 A);obtain ⟨i0,hi0,hz0,hz1',hz2⟩:=info_parts Tryz.info87;have hlo2:=HS2.o.low.size;have y0:=HS1.o.blk.get.1;have z0:=HS2.o.blk.get.1;have zf0:=HS2.o.blk.get.2.2.2.2.2.2.2.2.2.2 0;have hsl2:=HS2.o.blk.lt;rw[show lh A=.slice A.a A.len A.cap from rfl]
 clear hb1 hA hAb hE hR;have z1:(w1.alloc (.cells #[.slice A.a A.len A.cap] 87)).cell? (dZ s 1)=some (iV 0):=by have:=HS2.o.blk.get.2.1;rwa [hf]at this
 have zf1:=HS2.o.blk.get.2.2.2.2.2.2.2.2.2.2 1;generalize hav:r.av=avv at*;have HZs:Hid (w1.heap.size<(w1.alloc (.cells #[.slice A.a A.len A.cap] 87)).heap.size):=by rw[Hid];simp
 by_cases hm:an.length+1=40
 case pos=>
  have hmb:=beq_iff_eq.2 (by omega)
  have HM:=hid hm;clear hm
  go_wp2_with (at_builtin;refine wpList_append_own_at _ rfl (.tmp 16) (.tmp 18) 29 rfl w0.heap.size 87 i0 nZ 1 24 Tryz.underlying29 hi0 hz0 hz1' hz2 rfl (by decide) avv an.length (an.map lh) rfl (hav▸HS2.o.anr) (dZ w1.heap.size 0) 1 1 [lh A] rfl rfl HNw.o (by intro u hu;simp[lh]at hu;rw[hu];rfl) (by unfold maxLen;omega) (by omega) hlo2 ?_;intro v' w8 hown' hgrow hnil hat;have hv': ∃g' cap',v'=sZ g' (an.length+1) cap':=(by rcases hown'.2 with ⟨_,h0⟩| ⟨g',cap',_,h,_⟩;(·omega);(·exact ⟨g',cap',h⟩));obtain ⟨g',cap',rfl⟩:=hv';have hst:w8.heap[s]?=(w1.alloc (.cells #[.slice A.a A.len A.cap] 87)).heap[s]?:=hgrow.block s hsl2 (fun e=>(HS2.o.dav s (hav▸e.symm)).1 rfl);have q0:w8.cell? (dZ s 0)=some avv:=(cB hst).trans z0;have qf0:w8.frozen? (dZ s 0)=false:=(World.frozen?_of_block hst).trans zf0;have q1:w8.cell? (dZ s 1)=some (iV 0):=(cB hst).trans z1;have qf1:w8.frozen? (dZ s 1)=false:=(World.frozen?_of_block hst).trans zf1)
  subst hav;have HSF:=hid (HS2.o.ans hown' hgrow hat HA2.o);have hszF:w.heap.size<=w8.heap.size:=by have:=hgrow.size;have:=HZs.o;omega
  clear hown' hgrow hnil hat hst q0 qf0
  go_end0
  refine ⟨{ r with av:=sZ g' (an.length+1) cap',fin:=1},tv,n,σ,σ,L,tr,gl,ch,an++ [A],rfl,HSF.o.put 1 _ rfl rfl rfl rfl HSF.o.gls,?_,fun _=>rfl,⟨rfl,rfl,rfl,rfl⟩,by show (0:Int)<=1;omega,hl.1,by show r.last+_<=_;omega,by omega,by simpa[World.setCell]using hszF,by rw[List.length_append];have:=HM.o;simp;omega,fun h=>absurd (show (1:Int)=0 from h) (by omega)⟩
  rw[HE.o (sZ g' (an.length+1) cap'),if_pos HM.o]
 have hmb:=bF (by omega)
 have HM:=hid hm;clear hm
 go_wp2_with (at_builtin;refine wpList_append_own_at _ rfl (.tmp 16) (.tmp 18) 29 rfl w0.heap.size 87 i0 nZ 1 24 Tryz.underlying29 hi0 hz0 hz1' hz2 rfl (by decide) avv an.length (an.map lh) rfl (hav▸HS2.o.anr) (dZ w1.heap.size 0) 1 1 [lh A] rfl rfl HNw.o (by intro u hu;simp[lh]at hu;rw[hu];rfl) (by unfold maxLen;omega) (by omega) hlo2 ?_;intro v' w8 hown' hgrow hnil hat;have hv': ∃g' cap',v'=sZ g' (an.length+1) cap':=(by rcases hown'.2 with ⟨_,h0⟩| ⟨g',cap',_,h,_⟩;(·omega);(·exact ⟨g',cap',h⟩));obtain ⟨g',cap',rfl⟩:=hv';have hst:w8.heap[s]?=(w1.alloc (.cells #[.slice A.a A.len A.cap] 87)).heap[s]?:=hgrow.block s hsl2 (fun e=>(HS2.o.dav s (hav▸e.symm)).1 rfl);have q0:w8.cell? (dZ s 0)=some avv:=(cB hst).trans z0;have qf0:w8.frozen? (dZ s 0)=false:=(World.frozen?_of_block hst).trans zf0;have q1:w8.cell? (dZ s 1)=some (iV 0):=(cB hst).trans z1;have qf1:w8.frozen? (dZ s 1)=false:=(World.frozen?_of_block hst).trans zf1)
 subst hav;have HSF:=hid (HS2.o.ans hown' hgrow hat HA2.o);have hszF:w.heap.size<=(w8.setCell (dZ s 0) (sZ g' (an.length+1) cap')).heap.size:=by have:=hgrow.size;have:=HZs.o;simp[World.setCell];omega
 have HBk:Hid (Calls prog 120 #[pZ s] (w8.setCell (dZ s 0) (sZ g' (an.length+1) cap')) (Dq w0 (w8.setCell (dZ s 0) (sZ g' (an.length+1) cap')) s m { r with av:=sZ g' (an.length+1) cap'} (ar { r with av:=sZ g' (an.length+1) cap'} σ gl ch (an++ [A])) (an++ [A]) Lb Nb)):=ni (r:= { r with av:=sZ g' (an.length+1) cap'}) Lb Nb _ HPr.o HSF.o HW.o hl (by omega) hn (by omega) (by show 0<=r.fin;rw[HFin.o];exact Int.le_refl _) (by omega)
 clear hown' hgrow hnil hat hst q0 qf0 q1 qf1;refine HBk.o.mono ?_;rintro e w9 ⟨r',tv',n',σ',σx,L',tr',gl',ch',rfl,hS9,hE9,hσ9,hQ9,hf9,hl9,hb9,hn9,hz9⟩
 have HR:Hid (R4 w0 w s m r (ar r σ gl ch an) an a Lb Nb (.returned (.tuple #[])) w9):=by
  refine ⟨r',tv',n',σ',σx,L',tr',gl',ch',an++ [A],rfl,hS9,?_,hσ9,hQ9,hf9,hl9,hb9,hn9,lT hszF hz9,by rw[List.length_append];simp;omega,fun _=>?_⟩
  .rw[HE.o (sZ g' (an.length+1) cap'),if_neg HM.o];exact hE9
  .have:=HM.o
   rw[List.length_append];simp;omega
 clear hS9 hE9 hσ9 hQ9 hf9 hl9 hb9 hn9 hz9;go_wp2_with fail
 go_end0
 exact HR.o
end Go.Proofs.YtmggaclaoefdaabGreat
