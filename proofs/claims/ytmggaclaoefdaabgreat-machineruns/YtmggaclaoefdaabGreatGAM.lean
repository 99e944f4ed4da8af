/- Part of the proof. -/
import Derived.Test.YtmggaclaoefdaabGreatHr2
namespace Go.Proofs.YtmggaclaoefdaabGreat
open Go.RowKit Go.Proofs.Tryz
set_option linter.unusedVariables false
set_option linter.unusedSimpArgs false
set_option maxRecDepth 100000
set_option maxHeartbeats 8000000
theorem Px (w:World):(zeroValue 3).run prog w=.ok (.int .i64 0) w:=by kernel_rfl
theorem Hv {w:World} {m n:Nat} {D:DataW Value} (h:w.ownsMap prog 3 n8 m n D):w.ownsMap prog 3 n8 m (Maps.size D) D:=by
 obtain ⟨es,clock,h1,h2,h3,h4⟩:=h;refine ⟨es,clock,h1,h2,?_,h4⟩;rw[h4];have e1:es.size=((es.toList.map (WideElems.rg prog 3 n8)).foldr DataW.insert []).length:=by rw[length_sorted];simp
 exact Nat.le_of_eq e1
def IM (w:World) (m:Nat) (σ:Int->Option Int):Prop:=∃(D:DataW Value) (ks:List Int),w.ownsMap prog 3 n8 m ks.length D/\Maps.IsMap D/\Maps.size D=ks.length/\(ks.Nodup/\∀i∈ks,0<=i/\i<=1000000)/\(∀i,(σ i).isSome=true↔i∈ks)/\
 ∀i:Int,0<=i->i<=1000000->Maps.has D (.int .i64 i)=(σ i).isSome/\∀x,σ i=some x->∀z,D.atKey (.int .i64 i) z=.held (.int .i64 x)
theorem IM.kept {w w':World} {m:Nat} {σ:Int->Option Int} {row:Option Nat} (h:IM w m σ) (hg:w.grownBy w' row) (hne:some m≠row):IM w' m σ:=by
 obtain ⟨D,ks,h1,h2⟩:=h;exact ⟨D,ks,h1.kept hg hne,h2⟩
theorem IM.lt {w:World} {m:Nat} {σ:Int->Option Int} (h:IM w m σ):m<w.heap.size:=by
 obtain ⟨D,ks,h1,_⟩:=h;exact h1.lt
theorem IM.keep {w w':World} {m:Nat} {σ:Int->Option Int} (h:IM w m σ) (hb:w'.heap[m]?=w.heap[m]?):IM w' m σ:=by
 obtain ⟨D,ks,⟨es,clock,h1,h2⟩,h3⟩:=h;exact ⟨D,ks,⟨es,clock,hb.trans h1,h2⟩,h3⟩
theorem IM.made (w:World):IM (w.alloc (.map #[] 0)) w.heap.size (fun _=>none):=
 ⟨.map [],[],World.ownsMap_made w _ _ _,Maps.isMap_empty,rfl,⟨List.nodup_nil,fun i h=>(by cases h)⟩,fun i=>⟨fun h=>(by cases h),fun h=>(by cases h)⟩,fun i _ _=>⟨rfl,fun x h=>(by cases h)⟩⟩
theorem O7 {ks:List Int} (hnd:ks.Nodup/\∀i∈ks,0<=i/\i<=1000000):ks.length<=1000001:=by
 have h1:(ks.map Int.toNat).Nodup:=by
  rw[List.nodup_iff_pairwise_ne,List.pairwise_map];have h0:=List.nodup_iff_pairwise_ne.1 hnd.1;exact h0.imp_of_mem (fun ha hb hab e=>hab (by have:=hnd.2 _ ha;have:=hnd.2 _ hb;omega))
 have h2:(ks.map Int.toNat) ⊆ List.range 1000001:=fun x hx=>by
  obtain ⟨i,hi,rfl⟩:=List.mem_map.1 hx;have:=hnd.2 i hi;exact List.mem_range.2 (by omega)
 have h3:=List.Nodup.length_le_of_subset h1 h2;rw[List.length_map,List.length_range]at h3;exact h3
theorem IM.look2 {w:World} {m:Nat} {σ:Int->Option Int} (h:IM w m σ) {i:Int} (h0:0<=i) (h1:i<=1000000):
 (Instr.lookup 103 (.map (some m)) (.int .i64 i) true).run prog w=.ok (.tuple #[.int .i64 ((σ i).getD 0),.bool (σ i).isSome]) w:=by
 obtain ⟨D,ks,hD,hm,_,_,_,hs⟩:=h;obtain ⟨hs1,hs2⟩:=hs i h0 h1;obtain ⟨v,ps,hrun,hv⟩:=hD.look_ok (t:=103) (e:=3) il Tryz.underlying103 (Px w) (zd:=.held (.int .i64 0)) (zp:= []) rfl (pk h0 h1);have hv':=congrArg Prod.fst (oj hv);rw[hs1]at hrun
 cases hσ:σ i with
 |some x=>
  rw[hs2 x hσ]at hv';obtain rfl:=DataW.held.inj hv';rw[hσ]at hrun;exact hrun
 |none=>
  rw[hσ]at hs1 hrun;rw[Maps.atKey_of_not_has hs1]at hv';obtain rfl:=DataW.held.inj hv';exact hrun
theorem IM.look1 {w:World} {m:Nat} {σ:Int->Option Int} (h:IM w m σ) {i:Int} (h0:0<=i) (h1:i<=1000000):
 (Instr.lookup 103 (.map (some m)) (.int .i64 i) false).run prog w=.ok (.int .i64 ((σ i).getD 0)) w:=by
 obtain ⟨D,ks,hD,hm,_,_,_,hs⟩:=h;obtain ⟨hs1,hs2⟩:=hs i h0 h1;obtain ⟨v,ps,hrun,hv⟩:=hD.lookup (t:=103) (e:=3) il Tryz.underlying103 (Px w) (zd:=.held (.int .i64 0)) (zp:= []) rfl (pk h0 h1);have hv':=congrArg Prod.fst (oj hv)
 cases hσ:σ i with
 |some x=>
  rw[hs2 x hσ]at hv';obtain rfl:=DataW.held.inj hv';exact hrun
 |none=>
  rw[hσ]at hs1;rw[Maps.atKey_of_not_has hs1]at hv';obtain rfl:=DataW.held.inj hv';exact hrun
def lv (σ:Int->Option Int) (i x:Int):Int->Option Int:=fun j=>if j=i then some x else σ j
theorem IM.store {w:World} {m:Nat} {σ:Int->Option Int} (h:IM w m σ) {i:Int} (h0:0<=i) (h1:i<=1000000) (x:Int):
 ∃w',(Instr.mapUpdate 103 (.map (some m)) (.int .i64 i) (.int .i64 x)).run prog w=.ok () w'/\IM w' m (lv σ i x)/\w.grownBy w' (some m):=by
 obtain ⟨D,ks,hD,hm,hz,hnd,hk,hs⟩:=h;have hf:=O7 hnd;obtain ⟨w',hrun,ho,hg⟩:=hD.update (t:=103) (e:=3) il Tryz.underlying103 (by unfold maxLen;omega) (pk h0 h1) (val:=.int .i64 x) (d:=.held (.int .i64 x)) (ps:= []) rfl
 have hsz:Maps.size (D.put (.int .i64 i) (.held (.int .i64 x)))=(if i∈ks then ks else ks++ [i]).length:=by
  rw[Maps.size_put (hD.tidy il),(hs i h0 h1).1,hz]
  by_cases e:i∈ks
  .rw[if_pos e,if_pos ((hk i).2 e)]
  .rw[if_neg e,if_neg (fun h=>e ((hk i).1 h)),List.length_append];rfl
 refine ⟨w',hrun,⟨_,if i∈ks then ks else ks++ [i],by rw[<-hsz];exact Hv ho,hm.put _ _,hsz,?_,fun j=>?_,fun j j0 j1=>?_⟩,hg⟩
 .by_cases e:i∈ks
  .rw[if_pos e];exact hnd
  .rw[if_neg e]
   refine ⟨?_,fun j hj=>?_⟩
   .rw[List.nodup_append]
    exact ⟨hnd.1,by simp,fun a ha c hc=>by rw[List.mem_singleton]at hc;subst hc;exact fun e'=>e (e'▸ha)⟩
   .rcases List.mem_append.1 hj with h|h
    .exact hnd.2 j h
    .rw[List.mem_singleton]at h;subst h;exact ⟨h0,h1⟩
 .unfold lv
  by_cases e:j=i
  .subst e
   rw[if_pos rfl];refine ⟨fun _=>?_,fun _=>rfl⟩
   by_cases e:j∈ks
   .rw[if_pos e];exact e
   .rw[if_neg e];simp
  .rw[if_neg e,hk j]
   by_cases e':i∈ks
   .rw[if_pos e']
   .rw[if_neg e'];simp[e]
 by_cases e:j=i
 .subst e
  refine ⟨by rw[Maps.has_put_same hm (il.key (pk h0 h1))];simp[lv],fun x' hx' z=>?_⟩
  rw[Maps.atKey_put_same hm (il.key (pk h0 h1))];simp[lv]at hx';rw[hx']
 .have hne:(Lit.int .i64 j)≠.int .i64 i:=fun h=>e (by injection h)
  obtain ⟨g1,g2⟩:=hs j j0 j1;refine ⟨by rw[Maps.has_put_other hne,g1,lv,if_neg e],fun x' hx' z=>?_⟩
  rw[Maps.atKey_put_other hne];rw[lv,if_neg e]at hx';exact g2 x' hx' z
def Ay (h:Nat->Cl) (len:Nat) (σ:Int->Option Int):Prop:=∀i e,σ i=some e->∃x y:Nat,i=(x:Int)/\e=(y:Int)/\x<len/\Au h x y
structure VW (w:World) (vb m:Nat) (a:Option Addr) (len cap:Nat) (h:Nat->Cl) (σ:Int->Option Int):Prop where
 blk:w.heap[vb]?=some (.cells #[.slice a len cap,.map (some m)] 183)
 row:HIn w a len h
 mp:IM w m σ
 ends:Ay h len σ
theorem IM.isMap {w:World} {m:Nat} {σ:Int->Option Int} (h:IM w m σ): ∃es cl,w.heap[m]?=some (.map es cl):=by
 obtain ⟨D,ks,⟨es,clock,h1,h2⟩,h3⟩:=h;exact ⟨_,_,h1⟩
theorem IM.ne_cell {w:World} {m:Nat} {σ:Int->Option Int} (h:IM w m σ) {p:Addr} {v:Value} (hc:w.cell? p=some v):p.block≠m:=by
 obtain ⟨es,cl,hm⟩:=h.isMap;intro e;subst e;simp[World.cell?,hm]at hc
theorem IM.ne_block {w:World} {m k:Nat} {σ:Int->Option Int} (h:IM w m σ) {vs:Array Value} {t:TypeId} (hc:w.heap[k]?=some (.cells vs t)):k≠m:=by
 obtain ⟨es,cl,hm⟩:=h.isMap;intro e;subst e;rw[hm]at hc;cases hc
theorem wv.grown {w w':World} {a:Option Addr} {i:Nat} {c:Cl} {row:Option Nat} (h:wv w a i c) (hg:w.grownBy w' row) (hn: ∀p v,w.cell? p=some v->some p.block≠row):wv w' a i c:=by
 obtain ⟨b,o,rfl,h0,h1,h2⟩:=h;exact ⟨b,o,rfl,hg.cell h0 (hn _ _ h0),hg.cell h1 (hn _ _ h1),hg.cell h2 (hn _ _ h2)⟩
theorem HIn.map {w w':World} {a:Option Addr} {len:Nat} {h:Nat->Cl} {m:Nat} {σ:Int->Option Int} (hh:HIn w a len h) (hm:IM w m σ) (hg:w.grownBy w' (some m)):HIn w' a len h:=
 ⟨fun i hi=>(hh.row i hi).grown hg fun p v hc e=>hm.ne_cell hc (oj e),hh.big,hh.nm⟩
theorem VW.below {w w':World} {vb m:Nat} {a:Option Addr} {len cap:Nat} {h:Nat->Cl} {σ:Int->Option Int} (V:VW w vb m a len cap h σ) (hb:Below w.heap.size w w'):VW w' vb m a len cap h σ:=
 ⟨(hb.block _ (aZ V.blk)).trans V.blk,V.row.below hb,V.mp.keep (hb.block _ V.mp.lt),V.ends⟩
theorem VW.store {w w':World} {vb m:Nat} {a:Option Addr} {len cap:Nat} {h:Nat->Cl} {σ σ':Int->Option Int} (V:VW w vb m a len cap h σ) (hg:w.grownBy w' (some m)) (hm:IM w' m σ') (he:Ay h len σ'):VW w' vb m a len cap h σ':=
 ⟨(hg.block _ (aZ V.blk) (fun e=>V.mp.ne_block V.blk (oj e))).trans V.blk,V.row.map V.mp hg,hm,he⟩
theorem VW.cells {w:World} {vb m:Nat} {a:Option Addr} {len cap:Nat} {h:Nat->Cl} {σ:Int->Option Int} (V:VW w vb m a len cap h σ):w.cell? ⟨vb,0,none⟩=some (.slice a len cap)/\w.cell? ⟨vb,1,none⟩=some (.map (some m)):=by
 constructor <;> simp[World.cell?,V.blk]
theorem VW.lt {w:World} {vb m:Nat} {a:Option Addr} {len cap:Nat} {h:Nat->Cl} {σ:Int->Option Int} (V:VW w vb m a len cap h σ):vb<w.heap.size/\m<w.heap.size:=⟨(aZ V.blk),V.mp.lt⟩
theorem zo {a:Option Addr} {len cap:Nat} {h:Nat->Cl} (w:World) (hh:HIn w a len h):
 Calls prog 107 #[.slice a len cap] w fun e w'=>∃vb m,e=.returned (.pointer (some ⟨vb,0,none⟩))/\VW w' vb m a len cap h (fun _=>none)/\w.heap.size<=vb/\w.heap.size<=m/\Below w.heap.size w w':=by
 have HF:Hid (VW ((w.alloc (.map #[] 0)).alloc (.cells #[.slice a len cap,.map (some w.heap.size)] 183)) (w.heap.size+1) w.heap.size a len cap h (fun _=>none)/\Below w.heap.size w ((w.alloc (.map #[] 0)).alloc (.cells #[.slice a len cap,.map (some w.heap.size)] 183))):=by
  have hB:Below w.heap.size w ((w.alloc (.map #[] 0)).alloc (.cells #[.slice a len cap,.map (some w.heap.size)] 183)):=bA.alloc (by simp) _
  refine ⟨⟨?_,hh.below hB,(IM.made w).keep (jZ _ _ (by simp)),fun i e h=>by cases h⟩,hB⟩
  have:=hZ (w.alloc (.map #[] 0)) (.cells #[.slice a len cap,.map (some w.heap.size)] 183)
  rwa [show (w.alloc (.map #[] 0)).heap.size=w.heap.size+1 from by simp]at this
 have hmm:= @run_makeMap prog;clear hh
 go_enter Tryz.func107,Tryz.ntmps107
 go_wp2_with fail;go_ret;exact ⟨_,_,rfl,HF.o.1,by omega,lZ,HF.o.2⟩
theorem Bm {vb m:Nat} {a:Option Addr} {len cap:Nat} {h:Nat->Cl} {σ:Int->Option Int} {i:Nat} (H:HG h len) (hlb:len<=1000000) (hi:i<len) (w:World) (V:VW w vb m a len cap h σ):
 Calls prog 134 #[.pointer (some ⟨vb,0,none⟩),iV i] w fun e w'=>∃j:Nat,e=.returned (iV j)/\((j=i/\aj h len i=i)\/Au h i j)/\Below w.heap.size w w':=by
 obtain ⟨b,o,rfl,c0,c1,c2⟩:=V.row.row i hi;obtain ⟨v0,v1⟩:=V.cells;have hiI:(i:Int)<(len:Int):=by omega
 obtain ⟨n,hn⟩: ∃n:Nat,(h i).n=n:=⟨(h i).n.toNat,by have:=H.ok.n0 i hi;omega⟩
 rw[hn]at c1;have HB:Hid (Below w.heap.size w (w.alloc (.cells #[iV (h i).k,iV n,.string (h i).nm] 81))):=bA;have hX:(w.alloc (.cells #[iV (h i).k,iV n,.string (h i).nm] 81)).heap[w.heap.size]?=some (.cells #[iV (h i).k,iV n,.string (h i).nm] 81):=hZ w _;obtain ⟨x0,x1,x2,_,_,_⟩:=ae hX;have V':=V.below HB.o;have hlk:=V'.mp.look2 (i:=(i:Int)) (by omega) (by omega)
 have v1':=V'.cells.2
 rcases H.kind i hi with hk|hk
 .have hkb:((h i).k==2)=false:=by rw[hk];rfl
  cases hσ:σ i with
  |some e=>
   obtain ⟨x,y,hx,rfl,_,hp⟩:=V.ends _ _ hσ;obtain rfl:i=x:=by omega
   have HP:=hid hp;rw[hσ]at hlk;have hlk':=hlk;clear V V' H hk hσ hp hlk hX hn hx
   go_enter Tryz.func134,Tryz.ntmps134
   go_wp2_with fail;go_ret;exact ⟨y,rfl,.inr HP.o,HB.o⟩
  |none=>
   rw[hσ]at hlk;have hlk':=hlk
   have HR:Hid ((n=i/\aj h len i=i)\/Au h i n):=by
    rw[Hid]
    by_cases e:n=i
    .exact .inl ⟨e,ix (.root hi fun c=>c.2 (by omega))⟩
    .exact .inr (.one ⟨hk,hn,e⟩)
   clear V V' H hk hσ hlk hX hn
   go_enter Tryz.func134,Tryz.ntmps134
   go_wp2_with fail;go_ret;exact ⟨n,rfl,HR.o,HB.o⟩
 .have hkb:((h i).k==2)=true:=by rw[hk];rfl
  have HE:Hid (aj h len i=i):=ix (.root hi fun c=>by omega)
  clear V V' H hk hlk hX hn
  go_enter Tryz.func134,Tryz.ntmps134
  go_wp2_with fail;go_ret;exact ⟨i,rfl,.inl ⟨rfl,HE.o⟩,HB.o⟩
theorem Ay.upd {h:Nat->Cl} {len:Nat} {σ:Int->Option Int} (E:Ay h len σ) {x y:Nat} (hx:x<len) (p:Au h x y):Ay h len (lv σ x y):=by
 intro i e hi;unfold lv at hi
 by_cases c:i=(x:Int)
 .rw[if_pos c]at hi
  exact ⟨x,y,c,(oj hi).symm,hx,p⟩
 .rw[if_neg c]at hi
  exact E i e hi
theorem Ls {vb m:Nat} {a:Option Addr} {len cap:Nat} {h:Nat->Cl} {σ:Int->Option Int} {i:Nat} (H:HG h len) (hlb:len<=1000000) (hi:i<len) (w:World) (V:VW w vb m a len cap h σ):
 Calls prog 135 #[.pointer (some ⟨vb,0,none⟩),iV i,iV (aj h len i)] w fun e w'=>(∃v,e=.returned v)/\(∃σ',VW w' vb m a len cap h σ')/\w.grownBy w' (some m):=by
 obtain ⟨r,hr⟩:=H.acy;have HG':=hid H;have HR:=hid hr;have HV:=hid V;generalize hz:aj h len i=z at*;have Hz:=hid hz;clear H V hr hz
 go_enter Tryz.func135,Tryz.ntmps135
 go_wp2_with fail
 go_loopw [1] (fun p wr=>∃(x:Nat) (σ':Int->Option Int),p=iV x/\x<len/\aj h len x=z/\VW wr vb m a len cap h σ'/\w.grownBy wr (some m)) (fun p _=>r (intOf p).toNat)
 case atStart=>exact ⟨i,σ,rfl,hi,Hz.o,HV.o,G.refl m w⟩
 case round=>
  obtain ⟨x,σ',rfl,hx,hxz,hV,hG⟩:=hrel;have HVr:=hid hV;have HGr:=hid hG;have Hxz:=hid hxz;clear hV hG hxz HV
  by_cases hxe:x=z
  .have hb:((x:Int) !=(z:Int))=false:=by rw[Bool.eq_false_iff];intro e;exact bne_iff_ne.1 e (by omega)
   clear hxe;go_wp2_with fail
   go_end0
   exact ⟨⟨_,rfl⟩,⟨σ',HVr.o⟩,HGr.o⟩
  .have hb:=bne_iff_ne.2 (by omega)
   have HP:Hid (Au h x z):=by
    rcases HG'.o.way hx with e|e
    .exact absurd (e.symm.trans Hxz.o) hxe
    .rw[Hxz.o]at e;exact e
   have HN:=hid (Bm HG'.o hlb hx wr HVr.o);go_wp2_with fail;refine HN.o.mono ?_;rintro e w1 ⟨j,rfl,hj,hb1⟩
   have HJ:Hid (Au h x j):=by
    rcases hj with e|e
    .exact absurd (e.2.symm.trans Hxz.o) hxe
    .exact e
   have hV1:=HVr.o.below hb1;have HV1:=hid hV1;have v1:=hV1.cells.2;obtain ⟨w2,hrun,hm2,hg2⟩:=hV1.mp.store (i:=(x:Int)) (by omega) (by omega) (z:Int)
   have HV2:=hid (hV1.store hg2 hm2 (hV1.ends.upd hx HP.o));have HG2:=hid ((HGr.o.trans (G.below hb1)).trans hg2);clear hj hb1 hV1 hm2 hg2 HN hxe;go_wp2_with fail;go_roundw
   case rel=>exact ⟨j,_,rfl,(HJ.o.same HG'.o hx).1,by rw[<-(HJ.o.same HG'.o hx).2];exact Hxz.o,HV2.o,HG2.o⟩
   case measure=>
    simp[intOf];exact HJ.o.rank HG'.o HR.o hx
theorem kd {vb m:Nat} {a:Option Addr} {len cap:Nat} {h:Nat->Cl} {σ:Int->Option Int} {i:Nat} (H:HG h len) (hlb:len<=1000000) (hi:i<len) (w:World) (V:VW w vb m a len cap h σ):
 Calls prog 108 #[.pointer (some ⟨vb,0,none⟩),iV i] w fun e w'=>e=.returned (iV (aj h len i:Nat))/\(∃σ',VW w' vb m a len cap h σ')/\w.grownBy w' (some m):=by
 obtain ⟨r,hr⟩:=H.acy;have HG':=hid H;have HR:=hid hr;have HV:=hid V;clear H V hr
 go_enter Tryz.func108,Tryz.ntmps108
 go_wp2_with fail
 go_loopw [5,6] (fun p q wr=>∃(x:Nat) (k:Int),p=iV x/\q=iV k/\x<len/\aj h len x=aj h len i/\Below w.heap.size w wr) (fun p _ _=>r (intOf p).toNat)
 case atStart=>exact ⟨i,0,rfl,rfl,hi,rfl,bR⟩
 case round=>
  obtain ⟨x,k,rfl,rfl,hx,hxz,hB⟩:=hrel;have HVr:=hid (HV.o.below hB);have HBr:=hid hB;have Hxz:=hid hxz;have HN:=hid (Bm HG'.o hlb hx wr HVr.o);clear hB hxz;go_wp2_with fail;refine HN.o.mono ?_;rintro e w1 ⟨j,rfl,hj,hb1⟩;have HV1:=hid (HVr.o.below hb1);have HB1:=hid (HBr.o.trans (hb1.mono HBr.o.size));clear hb1 HN
  by_cases hjx:j=x
  .subst hjx
   have Hj:Hid (aj h len i=j):=by
    rcases hj with e|e
    .exact Hxz.o.symm.trans e.2
    .exact absurd (e.rank HG'.o HR.o hx) (Nat.lt_irrefl _)
   have HNo:Hid (∀W,VW W vb m a len cap h σ->Calls prog 135 #[pZ vb,iV i,iV (j:Int)] W fun e w'=>(∃v,e=.returned v)/\(∃σ',VW w' vb m a len cap h σ')/\W.grownBy w' (some m)):=fun W hW=>by
    have:=Ls HG'.o hlb hi W hW;rw[Hj.o]at this;exact this
   have hbb:((j:Int)==(j:Int))=true:=beq_self_eq_true _;clear hj
   by_cases hk:k>16
   .have hkb:=decide_eq_true hk
    go_wp2_with fail;refine (HNo.o _ HV1.o).mono ?_;rintro e w2 ⟨⟨v,rfl⟩,hV2,hg2⟩;have HV2:=hid hV2;have HG2:=hid ((G.below HB1.o).trans hg2);clear hV2 hg2;go_wp2_with fail;go_ret;exact ⟨by rw[Hj.o];rfl,HV2.o,HG2.o⟩
   .have hkb:=decide_eq_false hk
    go_wp2_with fail;go_ret;exact ⟨by rw[Hj.o];rfl,⟨σ,HV1.o⟩,G.below HB1.o⟩
  .have hbb:=bF (by omega)
   have HJ:Hid (Au h x j):=by
    rcases hj with e|e
    .exact absurd e.1 hjx
    .exact e
   clear hj hjx;go_wp2_with fail;go_roundw
   case rel=>exact ⟨j,_,rfl,rfl,(HJ.o.same HG'.o hx).1,by rw[<-(HJ.o.same HG'.o hx).2];exact Hxz.o,HB1.o⟩
   case measure=>
    simp[intOf];exact HJ.o.rank HG'.o HR.o hx
theorem lq {b:Nat} {w w':World} (h:Below b w w') (n:Nat):Below b w (w'.drewN n):=by
 induction n with
 |zero=>exact h
 |succ n ih=>exact ih.drew
theorem Md {h:Nat->Cl} {len:Nat} (h0:ez h len len=0): ∀i,i<len->(h i).k=1\/(h i).k=2:=fun i hi=>by
 have:=m6 len h0 i hi;unfold fx at this
 by_cases e:(h i).k=1
 .exact .inl e
 .by_cases e2:(h i).k=2
  .exact .inr e2
  .rw[if_neg e,if_neg e2]at this;cases this
theorem zj.good {h:Nat->Cl} {len:Nat} (H:zj h len 0):HG h len/\len<=400000:=by
 rcases H with ⟨_,e⟩| ⟨_,e,e'⟩| ⟨hl,e,⟨ha,_⟩| ⟨_,e'⟩⟩
 .cases e
 .exact absurd e'.symm e
 .exact ⟨HG.of hl e ha,hl⟩
 .cases e'
theorem Ew {a:Option Addr} {len cap:Nat} {h:Nat->Cl} (w:World) (hh:HIn w a len h) (hcap:len<=cap):
 Calls prog 62 #[.slice a len cap] w fun e w'=>∃c:Int,e=.returned (iV c)/\zj h len c/\Below w.heap.size w w':=by
 have HH:Hid (∀W,Below w.heap.size w W->HIn W a len h):=fun W hW=>hh.below hW
 have hlb:=hh.big;clear hh
 by_cases hbig:len>400000
 .have hb:=decide_eq_true (by omega)
  have hb2:(400000:Int)<(len:Int):=by omega
  go_enter Tryz.func62,Tryz.ntmps62
  go_wp2_with fail;go_ret;exact ⟨2,rfl,.inl ⟨hbig,rfl⟩,bR⟩
 have hb:=decide_eq_false (by omega)
 have hb2: ¬(400000:Int)<(len:Int):=by omega
 have hl4:len<=400000:=by omega
 go_enter Tryz.func62,Tryz.ntmps62
 go_wp2_with fail
 go_loopw [10] (fun x wr=>∃i:Nat,i<=len/\x=iV (i:Int)/\ez h len i=0/\Below w.heap.size w wr) (fun x _=>len-(intOf x).toNat)
 case atStart=>exact ⟨0,oZ,rfl,rfl,bR⟩
 case round=>
  obtain ⟨i,hil,rfl,hf,hB⟩:=hrel;have HF:=hid hf;have HB:=hid hB;clear hf hB
  by_cases hlt:i<len
  case neg=>
   have hkl:len=i:=by omega
   subst hkl;have HCi:Hid (Calls prog 101 #[.slice a len cap] wr fun e w'=>∃ok:Bool,e=.returned (.bool ok)/\(ok=false↔Dl len (leads h))/\Below wr.heap.size wr w'):=E6 wr (HH.o wr HB.o) (Ch hl4 HF.o) (Md HF.o)
   go_wp2_with fail;refine HCi.o.mono ?_;rintro e w1 ⟨ok,rfl,hok,hb1⟩;have HB1:=hid (HB.o.trans (hb1.mono HB.o.size));have HO:=hid hok;clear hok hb1
   cases ok with
   |true=>
    go_wp2_with fail;go_ret;exact ⟨4,rfl,rZ ⟨hl4,HF.o,.inr ⟨fun e=>(by have:=HO.o.2 e;simp at this),rfl⟩⟩,HB1.o⟩
   |false=>
    go_wp2_with fail;go_ret;exact ⟨0,rfl,rZ ⟨hl4,HF.o,.inl ⟨HO.o.1 (by first|rfl|trivial),rfl⟩⟩,HB1.o⟩
  have hltI:(i:Int)<(len:Int):=by omega
  have HCe:=hid (Ng i wr (HH.o wr HB.o) hcap hlt);go_wp2_with fail;refine HCe.o.mono ?_;rintro e w1 ⟨rfl,hb1⟩;have HB1:=hid (HB.o.trans (hb1.mono HB.o.size));clear hb1 HCe
  by_cases hc:fx h len i=0
  .have hcb:(fx h len i !=0)=false:=by rw[hc];rfl
   have HF1:Hid (ez h len (i+1)=0):=by
    show (if ez h len i≠0 then ez h len i else fx h len i)=0
    rw[if_neg (by simpa using HF.o),hc]
   clear hc;go_wp2_with fail;go_roundw
   case rel=>exact ⟨i+1,by omega,by go_num,HF1.o,HB1.o⟩
   case measure=>simp[intOf];omega
  .have hcb:=bne_iff_ne.2 hc
   have HN:=hid hc;clear hc;go_wp2_with fail;go_ret;have e:=C7 HF.o HN.o len hlt;exact ⟨fx h len i,rfl,.inr (.inl ⟨hl4,by rw[e];exact HN.o,e.symm⟩),HB1.o⟩
theorem HG.kid_leads {h:Nat->Cl} {z j:Nat} (hk:(h z).k=2) (hj:(j:Int)<(h z).n):z+1+j∈leads h z:=by
 unfold leads;rw[if_neg (by omega)]
 exact List.mem_map.2 ⟨j,List.mem_range.2 (by omega),rfl⟩
theorem HG.ind {h:Nat->Cl} {len:Nat} {P:Nat->Prop} (H:HG h len) (step: ∀i,i<len->(∀j:Nat,(h (aj h len i)).k=2->(j:Int)<(h (aj h len i)).n->P (aj h len i+1+j))->P i): ∀i,i<len->P i:=by
 obtain ⟨r,hr⟩:=H.acy
 have hle: ∀i,i<len->r (aj h len i)<=r i:=fun i hi=>by
  rcases H.way hi with e|e
  .rw[e];exact lZ
  .exact Nat.le_of_lt (e.rank H hr hi)
 have: ∀m i,r (aj h len i)=m->i<len->P i:=by
  intro m
  induction m using Nat.strongRecOn with
  |_ m ih=>
   intro i hm hi;refine step i hi fun j hk hj=>?_
   have hz:=H.end_lt hi;have hc:=(H.kids _ hz hk j hj).1;have h1:=hr _ hz _ (HG.kid_leads hk hj);exact ih _ (by have:=hle _ hc;omega) _ rfl hc
 exact fun i hi=>this _ i rfl hi
inductive Fe (h:Nat->Cl) (len:Nat):Nat->Tm->Prop
 |var {i:Nat}:(h (aj h len i)).k=1->Fe h len i (a9 (vT ((aj h len i:Int)+1)))
 |fn {i n:Nat} {f:Nat->Tm}:(h (aj h len i)).k≠1->(h (aj h len i)).n=(n:Int)->(∀j,j<n->Fe h len (aj h len i+1+j) (f j))->Fe h len i (.mk 0 (h (aj h len i)).nm none n 0 (fun j=>if j<n then f j else .nil))
theorem Fe.uniq {h:Nat->Cl} {len i:Nat} {T U:Tm} (H:Fe h len i T) (H':Fe h len i U):T=U:=by
 induction H generalizing U with
 |var hk=>
  cases H' with
  |var _=>rfl
  |fn hk' _ _=>exact absurd hk hk'
 | @fn i n f hk hn _ ih=>
   cases H' with
   |var hk'=>exact absurd hk' hk
   | @fn _ n' f' _ hn' hf'=>
     rw[hn]at hn';have en:=Int.ofNat_inj.1 hn';subst en
     congr 1
     funext j
     by_cases hj:j<n
     .rw[if_pos hj,if_pos hj];exact ih j hj (hf' j hj)
     .rw[if_neg hj,if_neg hj]
theorem Fe.ex {h:Nat->Cl} {len:Nat} (H:HG h len): ∀i,i<len->∃T,Fe h len i T:=by
 refine H.ind fun i hi ih=>?_
 rcases H.end_or hi with e|e
 .exact ⟨_,.var e.1⟩
 .have h0:=H.ok.n0 _ (H.end_lt hi)
  have hn:(h (aj h len i)).n=((h (aj h len i)).n.toNat:Int):=by omega
  have hc: ∀j:Nat,∃T,j<(h (aj h len i)).n.toNat->Fe h len (aj h len i+1+j) T:=fun j=>by
   by_cases hj:j<(h (aj h len i)).n.toNat
   .obtain ⟨T,hT⟩:=ih j e (by omega)
    exact ⟨T,fun _=>hT⟩
   .exact ⟨.nil,fun h=>absurd h hj⟩
  exact ⟨_,.fn (f:=fun j=>(hc j).choose) (by omega) hn fun j hj=>(hc j).choose_spec hj⟩
open Classical in
noncomputable def gy (h:Nat->Cl) (len i:Nat):Tm:=if e: ∃T,Fe h len i T then e.choose else .nil
theorem Ds {h:Nat->Cl} {len i:Nat} {T:Tm} (H:Fe h len i T):gy h len i=T:=by
 have e: ∃T,Fe h len i T:=⟨T,H⟩;unfold gy;rw[dif_pos e];exact e.choose_spec.uniq H
theorem HG.stn {h:Nat->Cl} {len i:Nat} (H:HG h len) (hi:i<len):Fe h len i (gy h len i):=by
 obtain ⟨T,hT⟩:=Fe.ex H i hi;rw[Ds hT];exact hT
theorem sp {h:Nat->Cl} {len i:Nat} (hk:(h (aj h len i)).k=1):gy h len i=a9 (vT ((aj h len i:Int)+1)):=Ds (.var hk)
theorem zm {h:Nat->Cl} {len i n:Nat} (H:HG h len) (hi:i<len) (hk:(h (aj h len i)).k=2) (hn:(h (aj h len i)).n=(n:Int)):
 gy h len i=.mk 0 (h (aj h len i)).nm none n 0 (fun j=>if j<n then gy h len (aj h len i+1+j)else .nil):=
 Ds (.fn (by omega) hn fun j hj=>H.stn (H.kids _ (H.end_lt hi) hk j (by omega)).1)
theorem Gf (x:Int):a9 (vT x)=.mk x ⟨#[]⟩ none 0 0 (fun _=> .nil):=by
 rw[ip]
 show Tm.mk x ⟨#[]⟩ none 0 0 _=_
 congr 1
theorem N5 {h:Nat->Cl} {len:Nat} (H:HG h len): ∀i,i<len->d9 len (gy h len i):=by
 refine H.ind fun i hi ih=>?_
 have hz:=H.end_lt hi
 rcases H.end_or hi with c|c
 .rw[sp c.1,Gf]
  exact ⟨by omega,by omega,fun _=>⟨rfl,rfl⟩,oZ,fun j hj=>absurd hj (nL j)⟩
 .have h0:=H.ok.n0 _ hz
  have h4:=H.ok.n4 _ hz (by omega)
  have hn:(h (aj h len i)).n=((h (aj h len i)).n.toNat:Int):=by omega
  rw[zm H hi c hn];refine ⟨Int.le_refl 0,by omega,fun h=>absurd rfl h,by omega,fun j hj=>?_⟩
  show d9 len (if j<(h (aj h len i)).n.toNat then _ else _)
  rw[if_pos hj];exact ih j c (by omega)
noncomputable def od (h:Nat->Cl) (len i:Nat):Nat:=cnt (gy h len i)
theorem Nd {h:Nat->Cl} {len i:Nat} (hk:(h (aj h len i)).k=1):od h len i=1:=by
 unfold od;rw[sp hk,Gf,om];rfl
theorem Pj {h:Nat->Cl} {len i n:Nat} (H:HG h len) (hi:i<len) (hk:(h (aj h len i)).k=2) (hn:(h (aj h len i)).n=(n:Int)):
 od h len i=1+bj (fun j=>od h len (aj h len i+1+j)) n:=by
 unfold od;rw[zm H hi hk hn,om]
 show 1+bj (fun j=>cnt (if j<n then gy h len (aj h len i+1+j)else .nil)) n=_
 congr 1
 have: ∀k,k<=n->bj (fun j=>cnt (if j<n then gy h len (aj h len i+1+j)else .nil)) k=bj (fun j=>cnt (gy h len (aj h len i+1+j))) k:=by
  intro k
  induction k with
  |zero=>intro _;rfl
  |succ k ih=>
   intro hk
   show bj _ k+cnt (if k<n then gy h len (aj h len i+1+k)else .nil)=bj _ k+cnt (gy h len (aj h len i+1+k))
   rw[ih (by omega),if_pos (by omega)]
 exact this n (Nat.le_refl n)
theorem Nf {h:Nat->Cl} {len i:Nat}:1<=od h len i:=by unfold od;rw[om];omega
section
open Go.Shelf
attribute [local go_sem] Oper.semAt_some
theorem Nh {vb m:Nat} {a:Option Addr} {len cap:Nat} {h:Nat->Cl} {σ:Int->Option Int} {i:Nat} (H:HG h len) (hlb:len<=1000000) (hi:i<len) (w:World) (V:VW w vb m a len cap h σ):
 Calls prog 140 #[.pointer (some ⟨vb,0,none⟩),iV i] w fun e w'=>∃B σ',e=.returned (.func (.func 126) #[] #[.pointer (some ⟨B,0,none⟩),.pointer (some ⟨B+1,0,none⟩)])/\VW w' vb m a len cap h σ'/\w'.heap[B]?=some (.cells #[.slice a len cap] 25)/\w'.heap[B+1]?=some (.cells #[iV (aj h len i:Nat)] 3)/\w.heap.size<=B/\w.grownBy w' (some m):=by
 have HV:Hid (∀W,Below w.heap.size w W->VW W vb m a len cap h σ):=fun W hW=>V.below hW
 have HDe:Hid (∀W,VW W vb m a len cap h σ->Calls prog 108 #[pZ vb,iV i] W fun e w'=>e=.returned (iV (aj h len i:Nat))/\(∃σ',VW w' vb m a len cap h σ')/\W.grownBy w' (some m)):=fun W hW=>kd H hlb hi W hW
 have HLd:Hid (∀(i:Nat) W,Calls prog 88 #[.slice a len cap,iV i] W fun e w'=>e=.returned (.func (.func 126) #[] #[pZ W.heap.size,pZ (W.heap.size+1)])/\w'=(W.alloc (.cells #[.slice a len cap] 25)).alloc (.cells #[iV i] 3)):=fun i W=>ns a len cap i W
 have v0:=V.cells.1;have HV0:=hid v0;generalize aj h len i=z at*;clear V H
 go_enter Tryz.func140,Tryz.ntmps140
 go_wp2_with fail
 go_region_held3 (fun W=>W.cell? (dZ vb 0)=some (.slice a len cap)) (first|with_reducible exact HV0.o|exact HW4.o|exact HW5.o|trivial) (first
  | (go_at_call 108
     refine (HDe.o _ (HV.o _ (by repeat (first|exact bR|refine Below.drew ?_)))).mono ?_
     rintro e w4 ⟨rfl,⟨σ4,hV4⟩,hg4⟩;have HV4:=hid hV4;have HG4:Hid (w.grownBy w4 (some m)):=G.trans (G.below (by repeat (first|exact bR|refine Below.drew ?_))) hg4
     have HW4:=hid hV4.cells.1;have c4:=HW4.o;clear hV4 hg4)
  | (go_at_call 88
     refine (HLd.o z _).mono ?_;rintro e w5 ⟨rfl,hw5⟩
     have HB5:Hid (Below w4.heap.size w4 w5):=by
      rw[Hid,hw5];refine Below.trans (B:=_) (by repeat (first|exact bR|refine Below.drew ?_)) (bA.alloc (by simp) _)
     have HX5:Hid (w5.heap[w4.heap.size]?=some (.cells #[.slice a len cap] 25)/\w5.heap[w4.heap.size+1]?=some (.cells #[iV (z:Int)] 3)):=by rw[Hid,hw5];exact oq _ _ _
     have HW5:=hid ((HV4.o.below HB5.o).cells.1);clear hw5))
 all_goals
  go_wp2_with fail;go_ret;exact ⟨w4.heap.size,σ4,rfl,HV4.o.below HB5.o,HX5.o.1,HX5.o.2,HG4.o.size,HG4.o.trans (G.below HB5.o)⟩
def Do (g:Nat) (lb:Array Value) (len:Nat) (L:List Nat) (b:Nat) (w:World):Prop:=∀n,SeqStopsK Fence.wide n prog g lb (fun x:Cx len=> #[iV (x.1:Int)]) (Kb b) (fun ys=>bh ys=L) (fun ci=>bh ci <+:L) L.length w
theorem Do.below {g:Nat} {lb:Array Value} {len:Nat} {L:List Nat} {b:Nat} {w w':World} (h:Do g lb len L b w) (hb:Below w.heap.size w w'):Do g lb len L b w':=
 fun n l J Jx W hW=>h n l J Jx W (hb.trans (hW.mono hb.size))
theorem Eb {len:Nat} (n:Nat) (l B b:Nat) (sa:Option Addr) (cp:Nat) (J Jx:List (Cx len)->World->Prop) (xs:List (Cx len))
 (W:World) (hlb:xs.length<=1000000)
 (hY: ∀ci x W,J ci W->ci.length<xs.length->YieldAt Fence.wide (n-1) prog l #[iV (x.1:Int)] W fun e W'=>
   (e=.returned (.bool true)/\J (ci++ [x]) W'/\Kb b W W')\/(e=.returned (.bool false)/\Jx (ci++ [x]) W'))
 (hB:W.heap[B]?=some (.cells #[.slice sa xs.length cp] 28)) (hs: ∀k (hk:k<xs.length),∃o,sa=some ⟨b,o,none⟩/\W.cell? ⟨b,o+k,none⟩=some (iV (xs[k].1:Int))) (hJ0:J [] W):
 CallsIn Fence.wide n prog 141 #[.func (.yield l) #[] #[],.pointer (some ⟨B,0,none⟩)] W fun e W'=>(∃v,e=.returned v)/\
  ((∃ys,bh ys=bh xs/\J ys W')\/(∃ci,bh ci <+:bh xs/\Jx ci W')):=by
 have hb0:=fv hB
 have HY:Hid (∀ci x W,J ci W->ci.length<xs.length->YieldAt Fence.wide (n-1) prog l #[iV (x.1:Int)] W fun e W'=>
  (e=.returned (.bool true)/\J (ci++ [x]) W'/\Kb b W W')\/(e=.returned (.bool false)/\Jx (ci++ [x]) W')):=hY
 have HS:=hid hs;have HJ0:=hid hJ0;clear hY hs hJ0;refine callsIn_of_wp Tryz.func141 rfl trivial ?_ rfl;simp only[Tryz.ntmps141,List.size_toArray,List.length_cons,List.length_nil,Nat.reduceAdd,Nat.reduceSub,Array.replicate_succ,Array.replicate_zero,List.push_toArray,List.append_toArray,List.nil_append,List.cons_append]
 gi_wp2
 gi_loopw [7] (fun p wr=>∃k:Nat,k<=xs.length/\p=iV (k:Int)/\J (xs.take k) wr/\(0<xs.length->wr.heap[b]?=W.heap[b]?)) (fun p _=>xs.length-(intOf p).toNat)
 case atStart=>exact ⟨0,oZ,rfl,HJ0.o,fun _=>rfl⟩
 case round=>
  obtain ⟨k,hkm,rfl,hJk,hBk⟩:=hrel
  by_cases hlt:k<xs.length
  case neg=>
   have hke: ¬(k:Int)<(xs.length:Int):=by omega
   gi_wp2
   go_end0
   exact ⟨⟨_,rfl⟩,.inl ⟨xs,rfl,by rw[List.take_of_length_le (by omega)]at hJk;exact hJk⟩⟩
  .obtain ⟨o,rfl,hc⟩:=HS.o k hlt
   have hc':wr.cell? (dZ b (o+k))=some (iV (xs[k].1:Int)):=(cB (w:=W) (hBk (by omega))).trans hc
   obtain ⟨fn,tmps,assign,body,hy,hR⟩:=HY.o (xs.take k) xs[k] wr hJk (by rw[List.length_take];omega)
   have hkI:(k:Int)<(xs.length:Int):=by omega
   generalize hxk:xs[k]=x at*;have Hxk:Hid (xs.take (k+1)=xs.take k++ [x]):=by rw[Hid,List.take_succ_eq_append_getElem hlt,hxk]
   clear hxk
   gi_wp2
   refine ⟨fun h=>(by cases h),?_⟩
   refine hR.mono ?_;rintro e W3 (⟨rfl,hJ3,hk3⟩| ⟨rfl,hJx3⟩)
   .gi_wp2
    go_roundw
    case rel=>exact ⟨k+1,by omega,by go_num,by rw[Hxk.o];exact hJ3,fun h=>hk3.2.trans (hBk h)⟩
    case measure=>simp[intOf];omega
   .gi_wp2
    refine bodyPost_ret (results_none rfl _ _ _) rfl ?_;refine ⟨⟨_,rfl⟩,.inr ⟨xs.take k++ [x],?_,hJx3⟩⟩;rw[<-Hxk.o];unfold bh;rw[List.map_take];exact List.take_prefix _ _
theorem D9 {len:Nat} (B b:Nat) (sa:Option Addr) (cp:Nat) (L:List Nat) (hL: ∀x∈L,x<len) (hlb:L.length<=1000000) (w:World) (hB:w.heap[B]?=some (.cells #[.slice sa L.length cp] 28)) (hs: ∀k (hk:k<L.length),∃o,sa=some ⟨b,o,none⟩/\w.cell? ⟨b,o+k,none⟩=some (iV (L[k]:Int))):Do 141 #[.pointer (some ⟨B,0,none⟩)] len L b w:=fun n l J Jx W hW hJ hJx hY h0=>by
 obtain ⟨xs,rfl⟩:=sn (p:=fun x=>x<len) L hL
 have hxl:(bh xs).length=xs.length:=by simp[bh]
 refine Eb n l B b sa cp J Jx xs W (by omega) (fun ci x W hj hl=>hY ci x W hj (by omega)) (by rw[<-hxl];exact (hW.block _ (aZ hB)).trans hB) (fun k hk=>?_) h0
 obtain ⟨o,e,hc⟩:=hs k (by omega)
 refine ⟨o,e,(hW.cell (p:=(dZ b (o+k))) (ag hc)).trans ?_⟩;rw[hc];simp[bh]
theorem Ea (sa:Option Addr) (n cp:Nat) (w:World):
 Calls prog 115 #[.slice sa n cp] w fun e w'=>e=.returned (.func (.func 141) #[] #[.pointer (some ⟨w.heap.size,0,none⟩)])/\w'=w.alloc (.cells #[.slice sa n cp] 28):=by
 go_enter Tryz.func115,Tryz.ntmps115
 go_wp2_with fail;go_ret;exact ⟨rfl,rfl⟩
noncomputable def gd (h:Nat->Cl) (len:Nat) (l:List Nat):Nat:=(l.map (od h len)).sum
theorem xm (h:Nat->Cl) (len:Nat) (l:List Nat) (x:Nat):gd h len (l++ [x])=gd h len l+od h len x:=by simp[gd]
theorem Kx {h:Nat->Cl} {len:Nat} {l m:List Nat} (hp:l <+:m):gd h len l<=gd h len m:=by
 obtain ⟨t,rfl⟩:=hp;simp[gd]
theorem uz (g:Nat->Nat) (n:Nat):bj g n=((List.range n).map g).sum:=by
 induction n with
 |zero=>rfl
 |succ n ih=>rw[List.range_succ,List.map_append,List.sum_append,<-ih];simp[bj]
theorem qx {h:Nat->Cl} {len i:Nat} (H:HG h len) (hi:i<len):gd h len (leads h (aj h len i))+1=od h len i:=by
 rcases H.end_or hi with c|c
 .rw[Nd c.1]
  unfold leads;rw[if_pos c.1,if_pos c.2]
  rfl
 .have h0:=H.ok.n0 _ (H.end_lt hi)
  have hn:(h (aj h len i)).n=((h (aj h len i)).n.toNat:Int):=by omega
  rw[Pj H hi c hn,uz];unfold leads gd;rw[if_neg (by omega),List.map_map]
  show _+1=1+_
  rw[Nat.add_comm]
  rfl
theorem VW.own {w w':World} {vb m:Nat} {a:Option Addr} {len cap:Nat} {h:Nat->Cl} {σ:Int->Option Int} {B:Nat} {row:Option Nat} (V:VW w vb m a len cap h σ) (hm:m<B) (hg:w.grownBy w' row) (hr: ∀r,row=some r->B<=r/\∃o:Obj,w.heap[r]?=some o/\o.isCells=false):VW w' vb m a len cap h σ:=
 ⟨(hg.block _ V.lt.1 (dd (fun r e=>(hr r e).2) V.blk rfl)).trans V.blk,⟨fun i hi=>(V.row.row i hi).grown hg fun p v hc e=>by
   obtain ⟨o,h1,h2⟩:=cells_of_cell hc;exact dd (fun r e=>(hr r e).2) h1 h2 e,V.row.big,V.row.nm⟩,V.mp.keep (hg.block _ V.mp.lt (fun e=>by have:=(hr m e.symm).1;omega)),V.ends⟩
theorem VW.low {w0 w w':World} {vb m:Nat} {a:Option Addr} {len cap:Nat} {h:Nat->Cl} {σ0 σ:Int->Option Int} (V0:VW w0 vb m a len cap h σ0) (V:VW w vb m a len cap h σ) (hk: ∀k,k<w0.heap.size->w'.heap[k]?=w.heap[k]?):VW w' vb m a len cap h σ:=by
 refine ⟨(hk _ V0.lt.1).trans V.blk,⟨fun j hj=>?_,V.row.big,V.row.nm⟩,V.mp.keep (hk _ V0.lt.2),V.ends⟩
 obtain ⟨b,o,e,c0,c1,c2⟩:=V.row.row j hj;obtain ⟨b',o',e',d0,_,_⟩:=V0.row.row j hj;rw[e]at e';cases e';have hb:=ag d0;have hx: ∀q,w'.cell? (dZ b q)=w.cell? (dZ b q):=fun q=>cB (hk b hb)
 exact ⟨b,o,e,(hx _).trans c0,(hx _).trans c1,(hx _).trans c2⟩
end
end Go.Proofs.YtmggaclaoefdaabGreat
