/- Part of the proof. -/
import Derived.Test.YtmggaclaoefdaabGreatGBO
namespace Go.Proofs.YtmggaclaoefdaabGreat
open Go.RowKit Go.Proofs.Tryz
set_option linter.unusedVariables false
set_option linter.unusedSimpArgs false
set_option maxRecDepth 100000
set_option maxHeartbeats 8000000
section
variable {w0 w:World} {s m:Nat} {r:Sr} {tv:Value} {n:Nat} {σ:Sg} {L:Int} {tr:List Int} {gl:List Gl} {ch:List Cr} {an:List Tm}
theorem SS.ans (h:SS w0 w s m r tv n σ L tr gl ch an) {w':World} {av':Value} {A:Tm} (ho:w'.ownsRow w0.heap.size 87 1 av' (an.length+1) (an.map lh++ [lh A])) (hg:w.grownBy w' r.av.ownBlock) (hat:av'.ownBlock=r.av.ownBlock\/av'.ownBlock=some w.heap.size)
 (hA:ay w A/\NM (Mu s r.b m tv r.cv r.av) A):
 SS w0 (w'.setCell ⟨s,0,none⟩ av') s m { r with av:=av'} tv n σ L tr gl ch (an++ [A]):=by
 have hs:=h.blk.lt;have hns:r.av.ownBlock≠some s:=fun e=>(h.dav s e).1 rfl
 have hst:w'.heap[s]?=w.heap[s]?:=hg.block s hs (fun e=>hns e.symm)
 have hw1:Bw (Mu s r.b m tv r.cv r.av) w.heap.size w w':=(Bw.refl _ _ _).grown hg lZ (fun k hk=> rZ (rZ hk))
 have hset:=G.set s w' 0 av';have hw:Bw (Mu s r.b m tv r.cv r.av) w.heap.size w (w'.setCell (dZ s 0) av'):=hw1.grown hset hw1.size (fun k hk=> rZ (.inl (oj hk).symm))
 have hmu: ∀k,k<w.heap.size->Mu s r.b m tv r.cv av' k->Mu s r.b m tv r.cv r.av k:=fun k hk e=>by
  rcases e with e|e|e|e
  .exact .inl e
  .exact .inr (.inl e)
  .exact rZ (.inl e)
  .rcases hat with h1|h1
   .exact rZ (.inr (h1▸e))
   .rw[h1]at e;have:=oj e;omega
 have havd: ∀g,av'.ownBlock=some g->g≠s/\g≠r.b/\g≠m/\tv.ownBlock≠some g/\r.cv.ownBlock≠some g:=fun g hg'=>by
  rcases hat with e|e
  .rw[e]at hg'
   exact h.dav g hg'
  .rw[e]at hg'
   have he:=oj hg';have h1:=h.vs.lt;have h2:=h.vs.map.lt;refine ⟨by omega,by omega,by omega,fun e=>?_,fun e=>?_⟩
   .have:=(h.trk.1.lt g e).2;omega
   .have:=(h.chr.lt g e).2;omega
 have hms: ∀v T,σ v=some T->NM (Ms s r.cv av') T:=fun v T hv=>(h.sg v T hv).anti (h.vs.trm v T hv).1 (fun k hk e=>by
  rcases e with e|e|e
  .exact .inl e
  .exact .inr (.inl e)
  .rcases hat with h1|h1
   .exact rZ (h1▸e)
   .rw[h1]at e;have:=oj e;omega)
 have hvs1:VS w' r.b m tv 1000000 w0.heap.size n σ L:=by
  cases hcb:r.av.ownBlock with
  |none=>rw[hcb]at hg;exact h.vs.below ⟨hg.os,hg.tape,hg.output,hg.size,fun k hk=>hg.block k hk (by simp)⟩
  |some g=>
   rw[hcb]at hg;obtain ⟨d1,d2,d3,d4,_⟩:=h.dav g hcb;exact h.vs.atK hg d2 d3 (fun g' e e'=>d4 (e'▸e)) (fun v T hv=>(h.sg v T hv).nb (rZ hcb))
 have hvs2:=hvs1.atK hset h.dsb.1 h.dsb.2.1 h.dsb.2.2 (fun v T hv=>(h.sg v T hv).nb (.inl rfl))
 have hrw: ∀{lo sz:Nat} {t:TypeId} {v:Value} {n:Nat} {xs:List Value},w.ownsRow lo t sz v n xs->(∀g,v.ownBlock=some g->g≠s/\r.av.ownBlock≠some g)->(w'.setCell (dZ s 0) av').ownsRow lo t sz v n xs:=fun h1 h2=>wm h1 (fun g hg'=>by
  have hl:=(h1.lt g hg').2;exact (hset.block g (lL hl hg.size) (by simpa using (h2 g hg').1)).trans (hg.block g hl (fun e=>(h2 g hg').2 e.symm)))
 refine ⟨(h.blk.kept hst).set 0 av' rfl,hvs2,⟨hrw h.trk.1 (fun g hg'=>⟨h.dsb.2.2 g hg',fun e=>(h.dav g e).2.2.2.1 hg'⟩),h.trk.2⟩,hms,h.gls.next hw hmu,hrw h.chr (fun g hg'=>⟨(h.dcv g hg').1,fun e=>(h.dav g e).2.2.2.2 hg'⟩),fun d hd=>(h.chg d hd).next hw hmu,h.chs,h.chm,?_,fun B hB=>?_,h.lows hw,h.los,h.dsb,h.dcv,havd⟩
 .rw[List.length_append,List.map_append]
  exact ho.kept hset (j6 (fun g hg'=>(havd g hg').1))
 .rcases List.mem_append.1 hB with hB|hB
  .exact ⟨(h.ant B hB).1.bw hw lZ (h.ant B hB).2,(h.ant B hB).2.anti (h.ant B hB).1 hmu⟩
  .rw[List.mem_singleton]at hB
   subst hB;exact ⟨hA.1.bw hw lZ hA.2,hA.2.anti hA.1 hmu⟩
end
theorem VS.bw {w w':World} {b m:Nat} {tv:Value} {N:Int} {lo n:Nat} {σ:Sg} {L:Int} {k B:Nat} (h:VS w b m tv N lo n σ L) (hb:Bw (fun q=>q=k) B w w') (hB:w.heap.size<=B) (h1:k≠b) (h2:k≠m) (h3: ∀g,tv.ownBlock=some g->g≠k) (h4: ∀v T,σ v=some T->NB k T):VS w' b m tv N lo n σ L:=
 h.atK (k:=k) ⟨hb.os,hb.tape,hb.output,hb.size,fun i hi hne=>hb.block i (lL hi hB) (fun e=>hne (by rw[e]))⟩ h1 h2 h3 h4
def r0 (P:Pg) (limit asked last:Int) (b:Nat):Sr:=⟨.slice none 0 0,0,0,P,limit,asked,last,b,.pointer none,.slice none 0 0⟩
theorem SS.start {w0 w1:World} {b m:Nat} (hv:VS w1 b m (.slice none 0 0) 1000000 w0.heap.size 0 (fun _=>none) (4000:Nat)) (hb:Below w0.heap.size w0 w1) (P:Pg) (limit asked last:Int):
 SS w0 (w1.alloc (.cells (r0 P limit asked last b).cells 97)) w1.heap.size m (r0 P limit asked last b) (.slice none 0 0) 0 (fun _=>none) (4000:Nat) [] [] [] []:=by
 have hB:Below w1.heap.size w1 (w1.alloc (.cells (r0 P limit asked last b).cells 97)):=bA;have h1:=hv.lt;have h2:=hv.map.lt;refine ⟨hZ w1 _,hv.below hB,⟨World.ownsRow_nil _ _ _ _,List.nodup_nil,fun v=>by simp,fun v h=>by simp at h⟩,fun v T h=>by simp at h,rfl,World.ownsRow_nil _ _ _ _,fun c h=>by simp at h,fun c h=>by simp at h,List.Pairwise.nil,World.ownsRow_nil _ _ _ _,fun A h=>by simp at h,hb.trans (hB.mono hb.size),hb.size,⟨by show w1.heap.size≠b;omega,by omega,fun g h=>by simp[Value.ownBlock]at h⟩,fun g h=>by simp[r0,Value.ownBlock]at h,fun g h=>by simp[r0,Value.ownBlock]at h⟩
theorem R5 (w:World):(zeroValue 3).run prog w=.ok (.int .i64 0) w:=by kernel_rfl
def ep (w:World) (k:Nat) (s:List Int):Prop:=∃D:DataW Value,w.ownsMap prog 3 n8 k s.length D/\Maps.IsMap D/\Maps.size D=s.length/\(s.Nodup/\∀i∈s,0<i/\i<=1000000)/\
 ∀i:Int,0<=i->i<=1000000->Maps.has D (.int .i64 i)=decide (i∈s)/\(i∈s->∀z,D.atKey (.int .i64 i) z=.held (.int .i64 (jz s i)))
theorem ep.lt {w:World} {k:Nat} {s:List Int} (h:ep w k s):k<w.heap.size:=by
 obtain ⟨D,h1,_⟩:=h;exact h1.lt
theorem ep.kept {w w':World} {k:Nat} {s:List Int} (h:ep w k s) (hb:w'.heap[k]?=w.heap[k]?):ep w' k s:=by
 obtain ⟨D,⟨es,clock,h1,h2⟩,h3⟩:=h;exact ⟨D,⟨es,clock,hb.trans h1,h2⟩,h3⟩
theorem ep.made (w:World):ep (w.alloc (.map #[] 0)) w.heap.size []:=
 ⟨.map [],World.ownsMap_made w _ _ _,Maps.isMap_empty,rfl,⟨List.nodup_nil,fun i h=>by simp at h⟩,fun i _ _=>⟨rfl,fun h=>by simp at h⟩⟩
theorem ep.few {w:World} {k:Nat} {s:List Int} (h:ep w k s):s.length<10000000:=by
 obtain ⟨D,_,_,_,hnd,_⟩:=h
 have h1:(s.map Int.toNat).Nodup:=by
  rw[List.nodup_iff_pairwise_ne,List.pairwise_map];have h0:=List.nodup_iff_pairwise_ne.1 hnd.1;exact h0.imp_of_mem (fun ha hb hab e=>hab (by have:=hnd.2 _ ha;have:=hnd.2 _ hb;omega))
 have h2:(s.map Int.toNat) ⊆ List.range 1000001:=fun x hx=>by
  obtain ⟨i,hi,rfl⟩:=List.mem_map.1 hx;have:=hnd.2 i hi;exact List.mem_range.2 (by omega)
 have h3:=List.Nodup.length_le_of_subset h1 h2;rw[List.length_map,List.length_range]at h3;omega
theorem ep.look {w:World} {k:Nat} {s:List Int} (h:ep w k s) {i:Int} (h0:0<=i) (h1:i<=1000000):
 (Instr.lookup 103 (.map (some k)) (.int .i64 i) false).run prog w=.ok (.int .i64 (if i∈s then jz s i else 0)) w:=by
 obtain ⟨D,hD,hm,_,_,hs⟩:=h;obtain ⟨hs1,hs2⟩:=hs i h0 h1;obtain ⟨v,ps,hrun,hv⟩:=hD.lookup (t:=103) (e:=3) il Tryz.underlying103 (R5 w) (zd:=.held (.int .i64 0)) (zp:= []) rfl (pk h0 h1);have hv':=congrArg Prod.fst (oj hv)
 by_cases hi:i∈s
 .rw[hs2 hi]at hv'
  obtain rfl:=DataW.held.inj hv';rw[if_pos hi];exact hrun
 .rw[Maps.atKey_of_not_has (by rw[hs1];simpa using hi)]at hv'
  obtain rfl:=DataW.held.inj hv';rw[if_neg hi];exact hrun
theorem Lr {s:List Int} {i:Int} (hi:i ∉ s):jz (s++ [i]) i=(s.length:Int)+1:=by
 unfold jz;rw[List.idxOf_append,if_neg hi];simp
theorem ep.add {w:World} {k:Nat} {s:List Int} (h:ep w k s) {i:Int} (hp:0<i) (h1:i<=1000000) (hi:i ∉ s) (hn:s.length<10000000):
 ∃w',(Instr.mapUpdate 103 (.map (some k)) (.int .i64 i) (.int .i64 (1+(s.length:Int)))).run prog w=.ok () w'/\ep w' k (s++ [i])/\w.grownBy w' (some k):=by
 have h0:0<=i:=by omega
 obtain ⟨D,hD,hm,hz,hnd,hs⟩:=h;obtain ⟨w',hrun,ho,hg⟩:=hD.update (t:=103) (e:=3) il Tryz.underlying103 (by unfold maxLen;omega) (pk h0 h1) (val:=.int .i64 (1+(s.length:Int))) (d:=.held (.int .i64 (1+(s.length:Int)))) (ps:= []) rfl
 refine ⟨w',hrun,⟨_,by rw[List.length_append];exact ho,hm.put _ _,?_,⟨?_,fun j hj=>?_⟩,fun j j0 j1=>?_⟩,hg⟩
 .rw[Maps.size_put (hD.tidy il),(hs i h0 h1).1,hz]
  simp[hi]
 .rw[List.nodup_append]
  exact ⟨hnd.1,by simp,fun a ha c hc=>by rw[List.mem_singleton]at hc;subst hc;exact fun e=>hi (e▸ha)⟩
 .rcases List.mem_append.1 hj with h|h
  .exact hnd.2 j h
  .rw[List.mem_singleton]at h;subst h;exact ⟨hp,h1⟩
 .by_cases e:j=i
  .subst e
   refine ⟨by rw[Maps.has_put_same hm (il.key (pk h0 h1))];simp,fun _ z=>?_⟩
   rw[Maps.atKey_put_same hm (il.key (pk h0 h1)),Lr hi,Int.add_comm]
  .have hne:(Lit.int .i64 j)≠.int .i64 i:=fun h=>e (by injection h)
   obtain ⟨g1,g2⟩:=hs j j0 j1;refine ⟨by rw[Maps.has_put_other hne,g1];simp[e],fun hj z=>?_⟩
   have hj':j∈s:=by
    rcases List.mem_append.1 hj with h|h
    .exact h
    .rw[List.mem_singleton]at h;exact absurd h e
   rw[Maps.atKey_put_other hne,g2 hj' z,sw (List.prefix_append s [i]) hj']
theorem Ey {o k:Nat} {s:List Int} (v:Int) (w:World) (hI:w.heap[o]?=some (.cells #[.map (some k)] 103)) (hN:ep w k s) (hok:o≠k) (hp:0<v) (h1:v<=1000000):
 Calls prog 144 #[iV v,.pointer (some ⟨o,0,none⟩)] w fun e w'=>e=.returned (iV (jz (bg s [v]) v))/\ep w' k (bg s [v])/\w.grownBy w' (some k):=by
 have h0:0<=v:=by omega
 have hs:=hN.few;have c0:w.cell? (dZ o 0)=some (.map (some k)):=by simp[World.cell?,hI]
 have HN:=hid hN
 by_cases hv:v∈s
 .have hl:=hN.look h0 h1
  rw[if_pos hv]at hl;have hne:(jz s v==0)=false:=bF (by unfold jz;omega)
  have HA:Hid (bg s [v]=s):=by rw[Hid,kn,if_pos hv]
  clear hN hI hv
  go_enter Tryz.func144,Tryz.ntmps144
  go_wp2_with fail;go_ret;exact ⟨by rw[HA.o];rfl,by rw[HA.o];exact HN.o,G.refl _ _⟩
 .have hl:=hN.look h0 h1
  rw[if_neg hv]at hl;obtain ⟨w1,hup,hN1,hg1⟩:=hN.add hp h1 hv hs;have hl1:=hN1.look h0 h1;rw[if_pos (by simp)]at hl1
  have HN1:=hid hN1;have HG1:=hid hg1;have c1:w1.cell? (dZ o 0)=some (.map (some k)):=hg1.cell c0 (by simpa using hok)
  have HA:Hid (bg s [v]=s++ [v]):=by rw[Hid,kn,if_neg hv]
  obtain ⟨D,hD,_,hz,_,_⟩:=hN;have HD:=hid hD;have hw:IntKind.i64.wrap (1+(s.length:Int))=1+(s.length:Int):=by simp[IntKind.wrap,IntKind.bits,IntKind.signed];omega
  clear hI hv hN1 hg1 hD
  go_enter Tryz.func144,Tryz.ntmps144
  go_wp2_with (at_len;refine wpList_len_own _ rfl _ 103 rfl 3 3 Tryz.underlying103 n8 k s.length D rfl HD.o ?_;rw[hz]);go_ret;exact ⟨by rw[HA.o];rfl,by rw[HA.o];exact HN1.o,HG1.o⟩
def XQ (M:Nat->Prop) (w:World) (Q:Tm->World->Prop) (e:Ending) (w':World):Prop:=∃X:Tm,e=.returned X.val/\Bw M w.heap.size w w'/\ay w' X/\bl w.heap.size X/\Q X w'
theorem G0 {M:Nat->Prop} {Q:Tm->World->Prop} {b fn:Nat} {caps:Array Value} {T:Tm} (w:World) (hM: ∀k,M k->k<w.heap.size) (hQ: ∀X w1 w2,Q X w1->Below w.heap.size w1 w2->Q X w2)
 (hC: ∀W,Below w.heap.size w W->W.heap[w.heap.size]?=some (.cells #[.pointer (some ⟨b,0,none⟩)] 92)->W.heap[w.heap.size+2]?=some (.cells #[.func (.func fn) #[] caps] 161)->Calls prog 151 #[T.val,.func (.func 164) #[] #[.pointer (some ⟨w.heap.size,0,none⟩),.pointer (some ⟨w.heap.size+2,0,none⟩)]] W (XQ M W Q)):
 Calls prog 143 #[.pointer (some ⟨b,0,none⟩),T.val,.func (.func fn) #[] caps] w (XQ M w Q):=by
 have hmf: ∀(fn:Fn) (first cap:Array Value) (w:World),(Instr.makeFunc fn first cap).run prog w=.ok (.func fn first cap) w:=fun _ _ _ _=>rfl
 have HM:=hid hM;have HQ:=hid hQ;have HC:=hid hC;clear hM hQ hC
 show Calls prog 143 #[pZ b,.agg #[iV T.v,.string T.nm,.slice T.a T.len T.cap],.func (.func fn) #[] caps] w _
 go_enter Tryz.func143,Tryz.ntmps143
 go_wp2_with fail;obtain ⟨a0,a2,a3,aB⟩:=Rj w (.cells #[pZ b] 92) (.cells #[iV T.v,.string T.nm,.slice T.a T.len T.cap] 67) (.cells #[.func (.func fn) #[] caps] 161) (.cells #[iV 0,.string ⟨#[]⟩,nZ] 67);refine (HC.o _ aB a0 a2).mono ?_;rintro e w1 ⟨X,rfl,hb1,hX1,hA1,hS1⟩;have HX3:Hid (w1.heap[w.heap.size+3]?=some (.cells #[iV 0,.string ⟨#[]⟩,nZ] 67)):=(hb1.block _ (aZ a3) (fun e=>by have:=HM.o _ e;omega)).trans a3
 have HB1:=hid ((Bw.ofBelow aB).trans (hb1.mono aB.size));have HX:Hid (ay w1 X/\NB (w.heap.size+3) X/\bl w.heap.size X/\Q X w1):=⟨hX1,hA1.nb (aZ a3),hA1.mono aB.size,hS1⟩;clear hb1 hX1 hA1 hS1 a0 a2 a3 aB;obtain ⟨x0,x1,x2,f0,f1,f2⟩:=ae HX3.o;rw[show X.val=.agg #[iV X.v,.string X.nm,.slice X.a X.len X.cap]from rfl]
 go_wp2_with fail;obtain ⟨W',hW,z0,z1,z2,hB',hgr⟩:=tm (r:=w.heap.size+3) (by omega) HX3.o HB1.o (iV X.v) (.string X.nm) (.slice X.a X.len X.cap)
 rw[hW];have hT':ay W' X:=HX.o.1.grown hgr (fun k hk=>by obtain rfl:=oj hk;exact HX.o.2.1)
 have hbb:Below w.heap.size w1 W':=bR.grown hgr HB1.o.size (fun k hk=>by have:=oj hk;omega)
 refine bodyPost_ret (v:=X.val) ?_ rfl ⟨X,rfl,hB',hT',HX.o.2.2.1,HQ.o _ _ _ HX.o.2.2.2 hbb⟩;simp[results,Tryz.results143,go_sem,z0,z1,z2,Tm.val]
def Ju (wF:World) (k:Nat) (σ:Sg) (d:Nat):sd where
 S:=List Int
 I:=fun s w=>ep w k s/\Bw (fun q=>q=k) wF.heap.size wF w
 nx:=fun s v=>bg s (cz (ex σ d (vT v)))
 le:=fun s s'=>s <+:s'
 O:=fun s v=>ap (iq (jz s)) (ex σ d (vT v))
 M:=fun q=>q=k
 B:=wF.heap.size
theorem Ox {wF:World} {k:Nat} (hk:k<wF.heap.size) (σ:Sg) (d:Nat):qq (Ju wF k σ d):=
 ⟨fun s=>List.prefix_refl s,fun _ _ _ h1 h2=>h1.trans h2,fun s _=>mx _ s,fun _ _ _ h hb=>⟨h.1.kept (hb.block k hk),h.2.trans (Bw.ofBelow hb)⟩,fun q (h:q=k)=>h▸hk⟩
def WN (k o b m:Nat) (tv:Value) (lo n:Nat) (σ:Sg) (L:Int) (d:Nat) (T:Tm):Prop:=∀(s:List Int) (w:World),ep w k s->VS w b m tv 1000000 lo n σ L->w.heap[o]?=some (.cells #[.map (some k)] 103)->d9 1000000 T->ay w T->NB k T->ph σ d T->
    Calls prog 143 #[.pointer (some ⟨b,0,none⟩),T.val,.func (.func 144) #[] #[.pointer (some ⟨o,0,none⟩)]] w (XQ (fun q=>q=k) w (fun X w'=>ep w' k (bg s (cz (ex σ d T)))/\∀s',bg s (cz (ex σ d T)) <+:s'->a9 X=ap (iq (jz s')) (ex σ d T)))
theorem D5 {wF:World} {k o b m pv pn:Nat} {tv:Value} {lo n:Nat} {σ:Sg} {L:Int} {d:Nat} {v:Int} (hp:0<v) (hN:v<=1000000) (hS:VS wF b m tv 1000000 lo n σ L) (hkb:k≠b/\k≠m/\∀g,tv.ownBlock=some g->g≠k) (hσk: ∀u T,σ u=some T->NB k T) (hpv:wF.heap[pv]?=some (.cells #[.pointer (some ⟨b,0,none⟩)] 92)) (hpn:wF.heap[pn]?=some (.cells #[.func (.func 144) #[] #[.pointer (some ⟨o,0,none⟩)]] 161)) (ho:wF.heap[o]?=some (.cells #[.map (some k)] 103)) (hne:pv≠k/\pn≠k/\o≠k) (hF:ph σ (d+1) (vT v)) (hW: ∀U,σ v=some U->WN k o b m tv lo n σ L (d+1) U):
 TC (Ju wF k σ (d+1)) 164 #[.pointer (some ⟨pv,0,none⟩),.pointer (some ⟨pn,0,none⟩)] v:=by
 intro s W hB hI;have hv:v≠0:=by omega
 have h0:0<=v:=by omega
 obtain ⟨hN1,hbw⟩:ep W k s/\Bw (fun q=>q=k) wF.heap.size wF W:=hI
 have hSW:=hS.bw hbw lZ hkb.1 hkb.2.1 hkb.2.2 hσk;have HSW:=hid hSW;have hbl: ∀q,q≠k->q<wF.heap.size->W.heap[q]?=wF.heap[q]?:=fun q h1 h2=>hbw.block q h2 h1
 have HPv:Hid (W.heap[pv]?=some (.cells #[pZ b] 92)):=(hbl pv hne.1 (aZ hpv)).trans hpv;have HPn:Hid (W.heap[pn]?=some (.cells #[.func (.func 144) #[] #[pZ o]] 161)):=(hbl pn hne.2.1 (aZ hpn)).trans hpn;have HPo:Hid (W.heap[o]?=some (.cells #[.map (some k)] 103)):=(hbl o hne.2.2 (aZ ho)).trans ho;have HNk:=hid hN1;have HBw:=hid hbw;have HOk:=hid hne.2.2;obtain ⟨v0,_,_,_,_,_⟩:=ae hSW.blk;obtain ⟨mo,hmo,hMW⟩:=hSW.map.looks;have HBZ:Hid (Below W.heap.size W (W.alloc (.cells #[iV 0,.string ⟨#[]⟩,nZ] 67))):=bA;have hpvl:pv<W.heap.size:=(aZ HPv.o);have hpnl:pn<W.heap.size:=(aZ HPn.o);have q0:(W.alloc (.cells #[iV 0,.string ⟨#[]⟩,nZ] 67)).cell? (dZ pv 0)=some (pZ b):=by rw[HBZ.o.cell (p:=(dZ pv 0)) hpvl];simp[World.cell?,HPv.o]
 have q1:=(HBZ.o.cell (ag v0)).trans v0;have hoz:=(HBZ.o.block m hSW.map.lt).trans hmo;have HZ:Hid ((W.alloc (.cells #[iV 0,.string ⟨#[]⟩,nZ] 67)).heap[W.heap.size]?=some (.cells #[iV 0,.string ⟨#[]⟩,nZ] 67)):=hZ W _;have hkW:=hN1.lt
 cases hsv:σ v with
 |none=>
  have hl:=((hMW _ hoz).look h0 hN).2 hsv
  have hex:ex σ (d+1) (vT v)=.mk v ⟨#[]⟩ none 0 0 (fun _=> .nil):=by
   rw[ex,gh (T:=vT v) hsv,if_neg (show¬(vT v).v=0 from hv)];rfl
  have hvs:cz (ex σ (d+1) (vT v))= [v]:=by rw[hex,cz,if_neg hv]
  have HVs:=hid hvs;have HEx:=hid hex;have HFn:Hid (∀W2,Below W.heap.size W W2->Calls prog 144 #[iV v,pZ o] W2 fun e w'=>e=.returned (iV (jz (bg s [v]) v))/\ep w' k (bg s [v])/\W2.grownBy w' (some k)):=fun W2 hW2=>Ey v W2 ((hW2.block o (aZ HPo.o)).trans HPo.o) (HNk.o.kept (hW2.block k hkW)) HOk.o hp hN
  have q2:(W.alloc (.cells #[iV 0,.string ⟨#[]⟩,nZ] 67)).cell? (dZ pn 0)=some (.func (.func 144) #[] #[pZ o]):=by rw[HBZ.o.cell (p:=(dZ pn 0)) hpnl];simp[World.cell?,HPn.o]
  clear hsv hMW hex hvs hSW hN1 hbw hbl hW hS hpv hpn ho hne hF hσk hkb
  show Calls prog 164 #[iV v,pZ pv,pZ pn] W _
  go_enter Tryz.func164,Tryz.ntmps164
  go_wp2_with fail;have HB2:Hid (Below W.heap.size W ((W.alloc (.cells #[iV 0,.string ⟨#[]⟩,nZ] 67)).alloc (.cells #[iV 0,.string ⟨#[]⟩,nZ] 67))):=bA.alloc (by simp) _
  have HZ2:Hid (((W.alloc (.cells #[iV 0,.string ⟨#[]⟩,nZ] 67)).alloc (.cells #[iV 0,.string ⟨#[]⟩,nZ] 67)).heap[W.heap.size]?=some (.cells #[iV 0,.string ⟨#[]⟩,nZ] 67)):=by rw[Hid,jZ _ _ (by simp)];exact HZ.o
  refine (HFn.o _ HB2.o).mono ?_;rintro e w1 ⟨rfl,hn1,hg1⟩;have HN1:=hid hn1;have HX3:Hid (w1.heap[W.heap.size]?=some (.cells #[iV 0,.string ⟨#[]⟩,nZ] 67)):=(hg1.block _ (aZ HZ2.o) (by simp;omega)).trans HZ2.o
  have HB3:Hid (Bw (fun q=>q=k) W.heap.size W w1):=(Bw.ofBelow HB2.o).grown hg1 HB2.o.size (fun q hq=> .inr (oj hq).symm)
  clear hn1 hg1 hl q0 q1 q2 v0;obtain ⟨x0,x1,x2,f0,f1,f2⟩:=ae HX3.o;generalize hnum:jz (bg s [v]) v=nv at*;go_wp2_with fail;obtain ⟨W',hW',z0,z1,z2,hB',hgr⟩:=tm (r:=W.heap.size) lZ HX3.o HB3.o (iV nv) (.string ⟨#[]⟩) nZ;rw[hW'];have hbb:Below W.heap.size w1 W':=bR.grown hgr HB3.o.size (fun q hq=>by have:=oj hq;omega)
  have hbF:=HBw.o.trans (hB'.mono hB);refine bodyPost_ret (v:=(vT nv).val) ?_ rfl ⟨vT nv,rfl,hB',?_,A0 _ _,⟨fun h=>absurd h (Nat.lt_irrefl 0),fun i hi=>absurd hi (nL i)⟩,fun s'' hs''=>?_⟩
  .simp[results,Tryz.results164,go_sem,z0,z1,z2,Tm.val,vT,Tm.v,Tm.nm,Tm.a,Tm.len,Tm.cap]
  .show ep W' k (bg s (cz (ex σ (d+1) (vT v))))/\_
   rw[HVs.o];exact ⟨HN1.o.kept (hbb.block k hkW),hbF⟩
  .have hs2:bg s (cz (ex σ (d+1) (vT v))) <+:s'':=hs''
   rw[HVs.o]at hs2
   show a9 (vT nv)=ap (iq (jz s'')) (ex σ (d+1) (vT v))
   rw[HEx.o,ap,if_neg hv,<-hnum]
   show _=a9 (vT (jz s'' v))
   rw[sw hs2 (Cs [v] s v (by simp))]
 |some U=>
  have hl:=((hMW _ hoz).look h0 hN).1 U hsv;obtain ⟨hTU,hOU,_⟩:=HSW.o.trm _ _ hsv;obtain ⟨hex,hfin⟩:=Mw HSW.o.dec (T:=vT v) h0 hv hsv (d+1);have HEx:=hid hex;have HCU:Hid (∀W2,Below W.heap.size W W2->Calls prog 143 #[pZ b,.agg #[iV U.v,.string U.nm,.slice U.a U.len U.cap],.func (.func 144) #[] #[pZ o]] W2 (XQ (fun q=>q=k) W2 (fun X w'=>ep w' k (bg s (cz (ex σ (d+1) U)))/\∀s',bg s (cz (ex σ (d+1) U)) <+:s'->a9 X=ap (iq (jz s')) (ex σ (d+1) U)))):=fun W2 hW2=>hW U hsv s W2 (HNk.o.kept (hW2.block k hkW)) (HSW.o.below hW2) ((hW2.block o (aZ HPo.o)).trans HPo.o) hOU (hTU.below hW2) (hσk v U hsv) (hfin hF)
  have r0':((W.alloc (.cells #[iV 0,.string ⟨#[]⟩,nZ] 67)).alloc (.cells #[iV U.v,.string U.nm,.slice U.a U.len U.cap] 67)).cell? (dZ pv 0)=some (pZ b):=(bA.cell (B:=(W.alloc (.cells #[iV 0,.string ⟨#[]⟩,nZ] 67)).heap.size) (p:=(dZ pv 0)) (by simp;omega)).trans q0
  have q2:(W.alloc (.cells #[iV 0,.string ⟨#[]⟩,nZ] 67)).cell? (dZ pn 0)=some (.func (.func 144) #[] #[pZ o]):=by rw[HBZ.o.cell (p:=(dZ pn 0)) hpnl];simp[World.cell?,HPn.o]
  have r1':((W.alloc (.cells #[iV 0,.string ⟨#[]⟩,nZ] 67)).alloc (.cells #[iV U.v,.string U.nm,.slice U.a U.len U.cap] 67)).cell? (dZ pn 0)=some (.func (.func 144) #[] #[pZ o]):=(bA.cell (B:=(W.alloc (.cells #[iV 0,.string ⟨#[]⟩,nZ] 67)).heap.size) (p:=(dZ pn 0)) (by simp;omega)).trans q2
  clear hsv hMW hex hfin hTU hOU hSW hN1 hbw hbl hW hS hpv hpn ho hne hF hσk hkb
  show Calls prog 164 #[iV v,pZ pv,pZ pn] W _
  go_enter Tryz.func164,Tryz.ntmps164
  go_wp2_with fail;have HB2:Hid (Below W.heap.size W ((W.alloc (.cells #[iV 0,.string ⟨#[]⟩,nZ] 67)).alloc (.cells #[iV U.v,.string U.nm,.slice U.a U.len U.cap] 67))):=bA.alloc (by simp) _
  have HZ2:Hid (((W.alloc (.cells #[iV 0,.string ⟨#[]⟩,nZ] 67)).alloc (.cells #[iV U.v,.string U.nm,.slice U.a U.len U.cap] 67)).heap[W.heap.size]?=some (.cells #[iV 0,.string ⟨#[]⟩,nZ] 67)):=by rw[Hid,jZ _ _ (by simp)];exact HZ.o
  have hszA:W.heap.size<((W.alloc (.cells #[iV 0,.string ⟨#[]⟩,nZ] 67)).alloc (.cells #[iV U.v,.string U.nm,.slice U.a U.len U.cap] 67)).heap.size:=(aZ HZ2.o);refine (HCU.o _ HB2.o).mono ?_;rintro e w1 ⟨X,rfl,hb1,hX1,hA1,hQ1⟩;have HX3:=hid ((hb1.block _ hszA (by omega)).trans HZ2.o)
  have HB3:=hid ((Bw.ofBelow HB2.o).trans (hb1.mono HB2.o.size));have HXX:Hid (ay w1 X/\NB W.heap.size X/\bl W.heap.size X/\ep w1 k (bg s (cz (ex σ (d+1) U)))/\∀s',bg s (cz (ex σ (d+1) U)) <+:s'->a9 X=ap (iq (jz s')) (ex σ (d+1) U)):=⟨hX1,hA1.nb hszA,hA1.mono HB2.o.size,hQ1.1,hQ1.2⟩;clear hb1 hX1 hA1 hQ1 hl q0 q1 q2 r0' r1' v0;obtain ⟨x0,x1,x2,f0,f1,f2⟩:=ae HX3.o;rw[show X.val=.agg #[iV X.v,.string X.nm,.slice X.a X.len X.cap]from rfl]
  go_wp2_with fail;obtain ⟨W',hW',z0,z1,z2,hB',hgr⟩:=tm (r:=W.heap.size) lZ HX3.o HB3.o (iV X.v) (.string X.nm) (.slice X.a X.len X.cap);rw[hW'];have hT':ay W' X:=HXX.o.1.grown hgr (fun q hq=>by obtain rfl:=oj hq;exact HXX.o.2.1)
  have hbb:Below W.heap.size w1 W':=bR.grown hgr HB3.o.size (fun q hq=>by have:=oj hq;omega)
  have hbF:=HBw.o.trans (hB'.mono hB);refine bodyPost_ret (v:=X.val) ?_ rfl ⟨X,rfl,hB',?_,hT',HXX.o.2.2.1,fun s'' hs''=>?_⟩
  .simp[results,Tryz.results164,go_sem,z0,z1,z2,Tm.val]
  .show ep W' k (bg s (cz (ex σ (d+1) (vT v))))/\_
   rw[HEx.o];exact ⟨HXX.o.2.2.2.1.kept (hbb.block k hkW),hbF⟩
  .have hs2:bg s (cz (ex σ (d+1) (vT v))) <+:s'':=hs''
   rw[HEx.o]at hs2
   show a9 X=ap (iq (jz s'')) (ex σ (d+1) (vT v))
   rw[HEx.o];exact HXX.o.2.2.2.2 s'' hs2
theorem NB.nm {k:Nat} {T:Tm} (h:NB k T):NM (fun q=>q=k) T:=by
 induction T with
 |nil=>trivial
 |mk v nm a len cap f ih=>exact ⟨fun h0=>let ⟨b,o,e,hb⟩:=h.1 h0;⟨b,o,e,hb⟩,fun i hi=>ih i (h.2 i hi)⟩
theorem Cb {σ:Sg} (T:Tm): ∀(d:Nat),ph σ d T->(∀v∈cz T,ph σ d (vT v))/\(T.v=0->∀e,d=e+1->∀v∈cz T,ph σ e (vT v)):=by
 induction T with
 |nil=>intro d _;exact ⟨fun v h=>by simp[cz]at h,fun _ _ _ v h=>by simp[cz]at h⟩
 |mk v nm a len cap f ih=>
  intro d hF
  by_cases hv:v=0
  .have key: ∀e,d=e+1->∀u∈cz (.mk v nm a len cap f),ph σ e (vT u):=by
    rintro e rfl u hu;rw[cz,if_pos hv]at hu;obtain ⟨l,hl,hul⟩:=List.mem_flatten.1 hu;obtain ⟨i,hi,rfl⟩:=List.mem_map.1 hl;have hi:=List.mem_range.1 hi
    have hk:ph σ e (f i):=by
     have hw:wha σ (.mk v nm a len cap f)=.mk v nm a len cap f:=ld hv;have:=hF i (by rw[hw];exact hi)
     rwa [hw]at this
    exact (ih i e hk).1 u hul
   refine ⟨fun u hu=>?_,fun _=>key⟩
   cases d with
   |zero=>exact hF.elim
   |succ e=>exact (key e rfl u hu).mono
  .refine ⟨fun u hu=>?_,fun h=>absurd h hv⟩
   rw[cz,if_neg hv,List.mem_singleton]at hu;subst hu;exact (Rx (σ:=σ) (T:=.mk u nm a len cap f) hv d).2 hF
theorem Ka (wF:World) (k:Nat) (σ:Sg) (D:Nat) (l:List Int): ∀s:List Int,tl (Ju wF k σ D) s l=bg s ((l.map fun v=>cz (ex σ D (vT v))).flatten):=by
 induction l with
 |nil=>intro s;rfl
 |cons v l ih=>
  intro s
  show tl (Ju wF k σ D) (bg s (cz (ex σ D (vT v)))) l=_
  rw[ih,List.map_cons,List.flatten_cons,fm]
theorem D6:Rr 164:=Kl Tryz.func164 rfl rfl
theorem Py {k o b m:Nat} {tv:Value} {lo n:Nat} {σ:Sg} {L:Int} {d D:Nat} {T:Tm} (hkb:k≠b/\k≠m/\∀g,tv.ownBlock=some g->g≠k) (hσk: ∀u T,σ u=some T->NB k T) (hok:o≠k)
 (hD:ph σ d T->∀v∈cz T,ph σ D (vT v)) (hW: ∀v∈cz T,∀e,D=e+1->∀U,σ v=some U->WN k o b m tv lo n σ L D U):WN k o b m tv lo n σ L d T:=by
 intro s w hN hS ho hO hT hB hF;have hk:=hN.lt;have hV:=hD hF;obtain ⟨hp1,_⟩:=Cc (fun v=>vT v) d T hF hV
 have hp2: ∀θ:Int->Tm,ap (fun v=>ap θ (ex σ D (vT v))) T=ap θ (ex σ d T):=fun θ=>(Cc θ d T hF hV).2
 refine G0 w (fun q (h:q=k)=>h▸hk) (fun X w1 w2 h hb=>⟨h.1.kept (hb.block k hk),h.2⟩) ?_
 intro W hW1 hpv hpn;have hkW:=lL hk hW1.size;have hNW:ep W k s:=hN.kept (hW1.block k hk);have hSW:=hS.below hW1;have hoW:W.heap[o]?=some (.cells #[.map (some k)] 103):=(hW1.block o (aZ ho)).trans ho;refine (Ce (Ox hkW σ D) D6 T hO.fo (fun v hv=>?_) s W lZ ⟨hNW,Bw.refl _ _ _⟩ (hT.below hW1) hB.nm).mono ?_
 .have hFv:=hV v hv
  cases D with
  |zero=>exact hFv.elim
  |succ e=>
   have hvp:0<v:=by
    rcases Int.lt_or_le 0 v with h|h
    .exact h
    .have h0:=(zw hO v hv).1
     exact absurd (show v=0 by omega) (vsT_ne T v hv)
   exact D5 hvp (zw hO v hv).2 hSW hkb hσk hpv hpn hoW ⟨by omega,by omega,hok⟩ hFv (hW v hv e rfl)
 .rintro e w' ⟨X,h1,h2,h3,h4,h5,h6⟩
  have h3:=h3;rw[Ka,<-hp1]at h3;refine ⟨X,h1,h2,h4,h5,h3.1,fun s' hs'=>?_⟩
  rw[<-hp2];exact h6 s' (by show tl (Ju W k σ D) s (cz T) <+:s';rw[Ka,<-hp1];exact hs')
where
 vsT_ne (T:Tm): ∀v∈cz T,v≠0:=by
  induction T with
  |nil=>intro v h;simp[cz]at h
  |mk u nm a len cap f ih=>
   intro v h;rw[cz]at h
   split at h
   .obtain ⟨l,hl,hul⟩:=List.mem_flatten.1 h
    obtain ⟨i,_,rfl⟩:=List.mem_map.1 hl;exact ih i v hul
   .rw[List.mem_singleton]at h;subst h;assumption
theorem Gz {k o b m:Nat} {tv:Value} {lo n:Nat} {σ:Sg} {L:Int} (hd:Dj σ) (hkb:k≠b/\k≠m/\∀g,tv.ownBlock=some g->g≠k) (hσk: ∀u T,σ u=some T->NB k T) (hok:o≠k): ∀(d q:Nat) (T:Tm),T.v.toNat<=q->WN k o b m tv lo n σ L d T:=by
 intro d
 induction d with
 |zero=>intro q T _ s w _ _ _ _ _ _ hF;exact hF.elim
 |succ d ihd=>
  have hfn: ∀T:Tm,T.v=0->WN k o b m tv lo n σ L (d+1) T:=fun T hv=>Py (D:=d) hkb hσk hok (fun hF=>(Cb T (d+1) hF).2 hv d rfl) (fun v _ e _ U _=>ihd U.v.toNat U lZ)
  intro q
  induction q with
  |zero=>
   intro T hq s w hN hS ho hO hT hB hF;exact hfn T (by have:=hO.top.1;omega) s w hN hS ho hO hT hB hF
  |succ q ihq=>
   intro T hq
   by_cases hv:T.v=0
   .exact hfn T hv
   .refine Py (D:=d+1) hkb hσk hok (fun hF=>(Cb T (d+1) hF).1) (fun v hvs e _ U hU=>?_)
    have hvs':v=T.v:=by
     cases T with
     |nil=>exact absurd rfl hv
     |mk u nm a len cap f=>
      have hv: ¬u=0:=hv;rw[cz,if_neg hv,List.mem_singleton]at hvs;exact hvs
    rcases hd _ _ hU with h| ⟨h3,h4⟩
    .exact hfn U h
    .exact ihq U (by omega)
end Go.Proofs.YtmggaclaoefdaabGreat
